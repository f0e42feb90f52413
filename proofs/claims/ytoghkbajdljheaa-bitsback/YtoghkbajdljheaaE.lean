import Derived.Test.YtoghkbajdljheaaD
namespace Go.Proofs.Ytoghkbajdljheaa
open Go.RowKit

/-- The number that has been laid down behind the first numbers v of widths n. -/
def AN (v n : Nat → Nat) : Nat → Nat
  | 0 => 0
  | i + 1 => AN v n i * 2 ^ n i + v i
/-- How many bits these are. -/
def AL (n : Nat → Nat) : Nat → Nat
  | 0 => 0
  | i + 1 => AL n i + n i

theorem AL_mono (n : Nat → Nat) (i j : Nat) (h : i ≤ j) : AL n i ≤ AL n j := by
  induction j with
  | zero => have : i = 0 := by omega
            subst this; exact Nat.le_refl _
  | succ j ih =>
    by_cases e : i = j + 1
    · subst e; exact Nat.le_refl _
    · have := ih (by omega)
      simp only [AL]; omega

theorem AL_le (n : Nat → Nat) (k : Nat) (hn : ∀ i, n i ≤ 32) : AL n k ≤ 32 * k := by
  induction k with
  | zero => simp [AL]
  | succ k ih => have := hn k; simp only [AL]; omega

theorem AN_lt (v n : Nat → Nat) (k : Nat) (h : ∀ i, i < k → v i < 2 ^ n i) : AN v n k < 2 ^ AL n k := by
  induction k with
  | zero => simp [AN, AL]
  | succ k ih =>
    have h1 := ih (fun i hi => h i (by omega))
    have h2 := h k (by omega)
    simp only [AN, AL, Nat.pow_add]
    have h3 : (AN v n k + 1) * 2 ^ n k ≤ 2 ^ AL n k * 2 ^ n k := Nat.mul_le_mul_right _ h1
    rw [Nat.add_mul] at h3
    omega

theorem AN_div (v n : Nat → Nat) (i j : Nat) (hij : i ≤ j) (h : ∀ k, k < j → v k < 2 ^ n k) : AN v n j / 2 ^ (AL n j - AL n i) = AN v n i := by
  induction j with
  | zero =>
    have : i = 0 := by omega
    subst this; simp [AN]
  | succ j ih =>
    by_cases e : i = j + 1
    · subst e; simp
    · have h1 := ih (by omega) (fun k hk => h k (by omega))
      have h2 := h j (by omega)
      have hm := AL_mono n i j (by omega)
      have e2 : AL n (j + 1) - AL n i = n j + (AL n j - AL n i) := by simp only [AL]; omega
      rw [e2, Nat.pow_add, ← Nat.div_div_eq_div_mul]
      simp only [AN]
      rw [Nat.add_comm, Nat.add_mul_div_right _ _ (Nat.two_pow_pos _), Nat.div_eq_of_lt h2, Nat.zero_add, h1]

theorem num_padded (X len : Nat) (hX : X < 2 ^ len) : num (big ((len + 7) / 8) (X * 2 ^ (8 * ((len + 7) / 8) - len))) = X * 2 ^ (8 * ((len + 7) / 8) - len) := by
  rw [num_big, pow256, Nat.mod_eq_of_lt]
  have h1 : X * 2 ^ (8 * ((len + 7) / 8) - len) < 2 ^ len * 2 ^ (8 * ((len + 7) / 8) - len) := Nat.mul_lt_mul_of_pos_right hX (Nat.two_pow_pos _)
  rw [← Nat.pow_add] at h1
  rwa [show len + (8 * ((len + 7) / 8) - len) = 8 * ((len + 7) / 8) by omega] at h1

theorem next_back (v n : Nat → Nat) (T i : Nat) (hi : i < T) (h : ∀ k, k < T → v k < 2 ^ n k) :
    nextN (big ((AL n T + 7) / 8) (AN v n T * 2 ^ (8 * ((AL n T + 7) / 8) - AL n T))) (AL n i) (n i) = v i := by
  have hA := AL_mono n (i + 1) T (by omega)
  have hA' : AL n i + n i ≤ AL n T := hA
  rw [nextN, big_length, num_padded _ _ (AN_lt v n T h)]
  have e1 : 8 * ((AL n T + 7) / 8) - (AL n i + n i) = (8 * ((AL n T + 7) / 8) - AL n T) + (AL n T - AL n (i + 1)) := by
    simp only [AL]; omega
  rw [e1, Nat.pow_add, ← Nat.div_div_eq_div_mul, Nat.mul_div_cancel _ (Nat.two_pow_pos _), AN_div v n (i + 1) T (by omega) h]
  simp only [AN]
  rw [Nat.mul_add_mod_self_right, Nat.mod_eq_of_lt (h i hi)]

theorem next_rest (X len : Nat) (hX : X < 2 ^ len) : nextN (big ((len + 7) / 8) (X * 2 ^ (8 * ((len + 7) / 8) - len))) len (8 * ((len + 7) / 8) - len) = 0 := by
  rw [nextN, big_length, num_padded _ _ hX]
  have e1 : 8 * ((len + 7) / 8) - (len + (8 * ((len + 7) / 8) - len)) = 0 := by omega
  rw [e1]
  simp

/-- The width, and the value, of a raw pair. -/
def wid (N : Int) : Nat := (pick N 33).toNat
def val (V N : Int) : Nat := V.toNat % 2 ^ wid N

theorem wid_le (N : Int) : wid N ≤ 32 := by have := pick_hi N 33 (by decide); have := pick_lo N 33 (by decide); unfold wid; omega
theorem val_lt (V N : Int) : val V N < 2 ^ wid N := Nat.mod_lt _ (Nat.two_pow_pos _)

theorem val_eq (V N : Int) (h0 : 0 ≤ V) (h1 : V < 4294967296) : IntKind.u32.wrap (V % 2 ^ wid N) = (val V N : Int) := by
  obtain ⟨x, rfl⟩ := Int.eq_ofNat_of_zero_le h0
  rw [val, pow_two_int, ← Int.natCast_emod, Int.toNat_natCast, IntKind.wrap_u32']
  have := Nat.mod_le x (2 ^ wid N)
  omega

theorem item (V N : Int) (h0 : 0 ≤ V) (h1 : V < 4294967296) (n0 : -9223372036854775808 ≤ N) (n1 : N ≤ 9223372036854775807) :
    ∃ p D X : Int, (∀ w, Calls Try.prog 22 #[.int .i64 N, .int .i64 33] w fun e w' => e = .returned (.int .i64 p) ∧ w' = w) ∧ 0 ≤ p ∧ p < 33 ∧ IntKind.u64.wrap (2 ^ p.toNat) = D ∧ 1 ≤ D ∧ IntKind.u64.wrap V = V ∧
      IntKind.u32.wrap (V % D) = X ∧ X = (val V N : Int) ∧ p.toNat = wid N ∧ 0 ≤ X ∧ X.toNat < 2 ^ p.toNat ∧ IntKind.u64.wrap X = X ∧ V % D = X := by
  have p0 := pick_lo N 33 (by decide)
  have p1 := pick_hi N 33 (by decide)
  have hp : (2 : Nat) ^ (pick N 33).toNat ≤ 2 ^ 32 := Nat.pow_le_pow_right (by decide) (by omega)
  have hp1 : 0 < (2 : Nat) ^ (pick N 33).toNat := Nat.two_pow_pos _
  refine ⟨pick N 33, 2 ^ (pick N 33).toNat, (val V N : Int), fun w => pick_any N 33 w n0 n1 (by decide), p0, p1, ?_, ?_, ?_, val_eq V N h0 h1, rfl, rfl, by omega, ?_, ?_, ?_⟩
  · rw [IntKind.wrap_u64, pow_two_int]
    generalize (2 : Nat) ^ (pick N 33).toNat = q at *
    have h3 : (2 : Nat) ^ 32 = 4294967296 := by decide
    omega
  · rw [pow_two_int]; omega
  · rw [IntKind.wrap_u64]; omega
  · rw [Int.toNat_natCast]; exact val_lt V N
  · have h2 := val_lt V N
    have h3 : (2 : Nat) ^ 32 = 4294967296 := by decide
    unfold wid at h2
    rw [IntKind.wrap_u64]
    omega
  · obtain ⟨x, rfl⟩ := Int.eq_ofNat_of_zero_le h0
    rw [pow_two_int, val, Int.toNat_natCast, wid, Int.natCast_emod]

theorem writer_drewN {w : World} {B : Nat} {V : Value} {N len : Nat} (h : WriterAt w B V N len) (q : Nat) : WriterAt (w.drewN q) B V N len := by
  have hk := (Kept.refl [] w).drewN q
  exact ⟨hk.heap h.1 (by simp), hk.row h.2 (by simp)⟩

theorem heap_reads {w : World} {g : Nat} {l : List Nat} (h : w.heap[g]? = some (.cells (l.map byt).toArray 5 (0, 0))) : Reads w (some ⟨g, 0, none⟩) l :=
  .inr ⟨g, 0, rfl, fun i hi => by simp [World.cell?, h, hi]⟩

theorem get_val (B g : Nat) (l : List Nat) (t : Nat) (n X : Int) (w : World) (hw : ReaderAt w B g l t) (h0 : 0 ≤ n) (h1 : n ≤ 32) (h : n ≤ 8 * (l.length : Int) - (t : Int)) (hX : (nextN l t n.toNat : Int) = X) :
    Calls Try.prog 28 #[.pointer (some ⟨B, 0, none⟩), .int .i64 n] w fun e w' => e = .returned (.tuple #[.int .u32 X, .int .i64 0]) ∧ ReaderAt w' B g l (t + n.toNat) ∧ Kept [B] w w' := by
  subst hX
  exact get_any B g l t n w hw h0 h1 h

theorem keep_writer {w w1 : World} {W : Value} (h1 : w.heap.size ≤ w1.heap.size) (hl : Lies w (.slice none 0 0) W) : ∀ x, x ∈ w1.heap.size :: W.ownBlock.toList → x ∈ ([] : List Nat) ∨ w.heap.size ≤ x := by
  intro x hx
  rcases List.mem_cons.1 hx with h | h
  · right; omega
  · have := hl.mem x h; simpa [Value.ownBlock] using this

set_option maxHeartbeats 2000000 in
set_option maxRecDepth 1000000 in
theorem back_any (b off len cap : Nat) (V N : Nat → Int) (w : World) (hlen : len * 16 ≤ 140737488351232)
    (hV : ∀ i, i < len → w.cell? ⟨b, off + i * 2, none⟩ = some (.int .u32 (V i))) (hN : ∀ i, i < len → w.cell? ⟨b, off + i * 2 + 1, none⟩ = some (.int .i64 (N i)))
    (bV : ∀ i, i < len → 0 ≤ V i ∧ V i < 4294967296) (bN : ∀ i, i < len → -9223372036854775808 ≤ N i ∧ N i ≤ 9223372036854775807) :
    Calls Try.prog 6 #[.slice (some ⟨b, off, none⟩) len cap] w fun e w' => e = .returned (.bool true) ∧ Kept [] w w' := by
  go_enter Try.func6, Try.ntmps6
  go_wp2_with (first
    | (go_at_call 9; refine (alive_any _).mono ?_; rintro e w1 ⟨rfl, hk1⟩)
    | (go_at_call 10; refine (newWriter_any _).mono ?_; rintro e w2 ⟨rfl, rfl⟩))
  go_loopw [5, 6] (fun s i wr => ∃ (j : Nat) (W : Value), j ≤ len ∧ i = .int .i64 j ∧ s = .int .i64 (AL (fun i => wid (N i)) j : Int) ∧ WriterAt wr w1.heap.size W (AN (fun i => val (V i) (N i)) (fun i => wid (N i)) j) (AL (fun i => wid (N i)) j) ∧ Kept [] w wr ∧ Lies w (.slice none 0 0) W)
    (fun _ i _ => len - (intOf i).toNat)
  case atStart => exact ⟨0, .slice none 0 0, Nat.zero_le _, rfl, rfl, newWriter_at w1, hk1.alloc _, Lies.refl _ _⟩
  case round =>
    obtain ⟨j, W, hj, rfl, rfl, hwr, hkr, hlr⟩ := hrel
    have hal := AL_le (fun i => wid (N i)) j (fun i => wid_le _)
    by_cases hlt : j < len
    · have hbl := World.block_lt_of_cell? w _ (hN j hlt)
      have hNj : wr.cell? ⟨b, off + j * 2 + 1, none⟩ = some (.int .i64 (N j)) := (World.cell?_of_block (a := ⟨b, off + j * 2 + 1, none⟩) (hkr.block b hbl (by simp))).trans (hN j hlt)
      have hVj : wr.cell? ⟨b, off + j * 2, none⟩ = some (.int .u32 (V j)) := (World.cell?_of_block (a := ⟨b, off + j * 2, none⟩) (hkr.block b hbl (by simp))).trans (hV j hlt)
      obtain ⟨p, D, X, hp, p0, p1, hD, D1, hVw, hval, hX, hwid, hX0, hXlt, hxw, hvd⟩ := item (V j) (N j) (bV j hlt).1 (bV j hlt).2 (bN j hlt).1 (bN j hlt).2
      have hv0 := (bV j hlt).1
      have Hp := Hid.mk hp
      have HX := Hid.mk hX
      have Hw := Hid.mk hwid
      have Hlt := Hid.mk hXlt
      have HN := Hid.mk hN
      have HV := Hid.mk hV
      have HbV := Hid.mk bV
      have HbN := Hid.mk bN
      have Hwr := Hid.mk hwr
      clear hp hwid hX hXlt hN hV bV bN hwr hxw hvd
      go_wp2_with (go_at_call 22; refine (Hp.out _).mono ?_; rintro e w2 ⟨rfl, rfl⟩)
      go_cut [8] (fun s8 wc => s8 = .int .u32 X ∧ ∃ q, wc = w2.drewN q)
      case first =>
        go_quiet (fail)
        go_wp2
        all_goals go_meet
        all_goals exact ⟨rfl, _, rfl⟩
      case rest =>
        obtain ⟨rfl, q, rfl⟩ := hcut
        have Hwq := Hid.mk (writer_drewN Hwr.out q)
        go_wp2_with (first
          | (go_at_call 23; refine (put_any _ _ _ _ _ _ _ Hwq.out p0 (by omega) hX0 Hlt.out (by omega)).mono ?_; rintro e w3 ⟨rfl, W3, hw3, hk3, hl3⟩; have Hw3 := Hid.mk hw3; clear hw3)
          | (go_at_call 24; refine (len_any _ _ _ _ _ Hw3.out (by omega)).mono ?_; rintro e w4 ⟨rfl, q4, rfl⟩))
        go_roundw
        case rel =>
          refine ⟨j + 1, W3, by omega, by go_num, ?_, ?_, ?_, ?_⟩
          · have := Hw.out
            simp only [AL]
            congr 1
            omega
          · have h := writer_drewN Hw3.out q4
            rw [Hw.out, HX.out, Int.toNat_natCast] at h
            exact h
          · exact (((hkr.drewN q).step hk3 (keep_writer hk1.size hlr))).drewN q4
          · exact hlr.trans hl3 (by have := (hkr.drewN q).size; exact this)
        case measure => simp [intOf]; omega
    · have hjl : j = len := by omega
      subst hjl
      have hw : ∀ k, k < j → val (V k) (N k) < 2 ^ wid (N k) := fun k _ => val_lt _ _
      have Hnx := Hid.mk (fun i (hi : i < j) => next_back (fun i => val (V i) (N i)) (fun i => wid (N i)) j i hi hw)
      have Hrest := Hid.mk (next_rest _ _ (AN_lt (fun i => val (V i) (N i)) (fun i => wid (N i)) j hw))
      have Hmono := Hid.mk (fun i (hi : i ≤ j) => AL_mono (fun i => wid (N i)) i j hi)
      obtain ⟨T, hT⟩ : ∃ T, T = AL (fun i => wid (N i)) j := ⟨_, rfl⟩
      obtain ⟨Z, hZ⟩ : ∃ Z, Z = AN (fun i => val (V i) (N i)) (fun i => wid (N i)) j := ⟨_, rfl⟩
      rw [← hT, ← hZ] at hwr
      rw [← hT] at hal
      have Hwr := Hid.mk hwr
      have HT := Hid.mk hT
      have HZ := Hid.mk hZ
      have HN := Hid.mk hN
      have HV := Hid.mk hV
      have HbV := Hid.mk bV
      have HbN := Hid.mk bN
      clear hwr hN hV bV bN hw
      rw [← hT]
      clear hT hZ
      go_wp2_with fail
      refine (bytes_any _ _ _ _ _ Hwr.out (by omega)).mono ?_
      rintro e w5 ⟨rfl, hr5, hk5⟩
      have hrd := heap_reads hr5
      have hby : Byts (big ((T + 7) / 8) (Z * 2 ^ (8 * ((T + 7) / 8) - T))) := big_lt _ _
      have hbl := big_length ((T + 7) / 8) (Z * 2 ^ (8 * ((T + 7) / 8) - T))
      rw [← HT.out, ← HZ.out] at Hnx Hrest
      rw [← HT.out] at Hmono
      have hK5 := hkr.trans hk5
      generalize big ((T + 7) / 8) (Z * 2 ^ (8 * ((T + 7) / 8) - T)) = Lb at hrd hby hbl Hnx Hrest
      obtain ⟨m, hm⟩ : ∃ m, m = (T + 7) / 8 := ⟨_, rfl⟩
      rw [← hm] at hbl Hrest
      have Hrd := Hid.mk hrd
      have Hbl := Hid.mk hbl
      have HK5 := Hid.mk hK5
      have hs5 := hK5.size
      have hm1 : 8 * m ≤ T + 7 := by omega
      have hm2 : T ≤ 8 * m := by omega
      have hm3 : ((T : Int) + 7) / 8 = (m : Int) := by omega
      rw [← hm]
      clear hr5 hk5 hrd hbl hK5 hkr hm Hwr hlr
      go_wp2_with fail
      refine (newReader_any _ _ m Lb _ Hrd.out hby Hbl.out (by omega)).mono ?_
      rintro e w6 ⟨B, g, rfl, hB, hg, hR, hk6⟩
      have HR := Hid.mk hR
      have HK6 := Hid.mk (HK5.out.trans hk6)
      have hle : ((8 * (Lb.length : Int)) != 8 * (m : Int)) = false := by rw [Hbl.out]; simp
      clear hR hk6 HK5
      go_wp2_with (go_at_call 27; refine (left_any _ _ _ _ _ HR.out).mono ?_; rintro e w7 ⟨rfl, q7, rfl⟩)
      go_loopw [12] (fun i wx => ∃ k : Nat, k ≤ j ∧ i = .int .i64 k ∧ ReaderAt wx B g Lb (AL (fun i => wid (N i)) k) ∧ Kept [] w wx) (fun i _ => j - (intOf i).toNat)
      case atStart => exact ⟨0, Nat.zero_le _, rfl, reader_drewN HR.out q7, HK6.out.drewN q7⟩
      case round =>
        obtain ⟨k, hk, rfl, hRx, hKx⟩ := hrel
        have HRx := Hid.mk hRx
        have HKx := Hid.mk hKx
        clear hRx hKx
        by_cases hlt2 : k < j
        · have hbk := World.block_lt_of_cell? w _ (HN.out k hlt2)
          have hNj : wr.cell? ⟨b, off + k * 2 + 1, none⟩ = some (.int .i64 (N k)) := (World.cell?_of_block (a := ⟨b, off + k * 2 + 1, none⟩) (HKx.out.block b hbk (by simp))).trans (HN.out k hlt2)
          have hVj : wr.cell? ⟨b, off + k * 2, none⟩ = some (.int .u32 (V k)) := (World.cell?_of_block (a := ⟨b, off + k * 2, none⟩) (HKx.out.block b hbk (by simp))).trans (HV.out k hlt2)
          obtain ⟨p, D, X, hp, p0, p1, hD, D1, hVw, hval, hX, hwid, hX0, hXlt, hxw, hvd⟩ := item (V k) (N k) (HbV.out k hlt2).1 (HbV.out k hlt2).2 (HbN.out k hlt2).1 (HbN.out k hlt2).2
          have hv0 := (HbV.out k hlt2).1
          have Hp := Hid.mk hp
          have Hw := Hid.mk hwid
          have Hge : Hid (p ≤ 8 * (Lb.length : Int) - (AL (fun i => wid (N i)) k : Int)) := by
            have h1 := Hmono.out (k + 1) hlt2
            simp only [AL] at h1
            rw [Hid, Hbl.out]
            omega
          have HgX : Hid ((nextN Lb (AL (fun i => wid (N i)) k) p.toNat : Int) = X) := by
            rw [Hid, hX, hwid]
            exact congrArg Int.ofNat (Hnx.out k hlt2)
          clear hp hwid hX hXlt hval
          go_wp2_with (first
            | (go_at_call 22; refine (Hp.out _).mono ?_; rintro e w8 ⟨rfl, rfl⟩)
            | (go_at_call 28; refine (get_val B g Lb _ p X _ HRx.out p0 (by omega) Hge.out HgX.out).mono ?_; rintro e w9 ⟨rfl, hR9, hk9⟩; have HR9 := Hid.mk hR9; have HK9 := Hid.mk hk9; clear hR9 hk9; have hV9 : w9.cell? ⟨b, off + k * 2, none⟩ = some (.int .u32 (V k)) := (World.cell?_of_block (a := ⟨b, off + k * 2, none⟩) (HK9.out.block b (World.block_lt_of_cell? _ _ hVj) (by simp; omega))).trans hVj))
          go_cut [116] (fun s wc => s = .bool false ∧ ∃ q, wc = w9.drewN q)
          case first =>
            go_quiet (fail)
            go_wp2
            all_goals go_meet
            all_goals exact ⟨rfl, _, rfl⟩
          case rest =>
            obtain ⟨rfl, q9, rfl⟩ := hcut
            go_wp2
            go_roundw
            case rel =>
              have h := reader_drewN HR9.out q9
              rw [Hw.out] at h
              have h2 := (HKx.out.step HK9.out (by simp; omega)).drewN q9
              exact ⟨k + 1, by omega, by go_num, h, h2⟩
            case measure => simp [intOf]; omega
        · obtain rfl : k = j := by omega
          rw [← HT.out] at HRx
          go_wp2_with (go_at_call 29; refine (rest_ok _ _ _ _ _ HRx.out (by rw [Hbl.out]; omega) (by rw [Hbl.out]; exact Hrest.out)).mono ?_; rintro e w8 ⟨rfl, q8, rfl⟩)
          go_ret
          exact ⟨rfl, HKx.out.drewN q8⟩
end Go.Proofs.Ytoghkbajdljheaa
