import Derived.Test.YtahoeodpjdbdkabDoorG4Z
namespace Go.Proofs.YtahoeodpjdbdkabDoor
open Go.RowKit

/-- The coder whose struct is block X has the rate r. -/
def CoderAt (w : World) (X r : Nat) : Prop := w.heap[X]? = some (.cells #[.int .i64 (r : Int)] 97 (0, 0)) ∧ r ≤ 22

/-- The table of widths lies in block 0. -/
def Tab (w : World) : Prop := ∀ i, i < 23 → w.cell? ⟨0, i, none⟩ = some (.int .i64 (J i : Int))

theorem Tab.pos {w : World} (h : Tab w) : 0 < w.heap.size := World.block_lt_of_cell? w _ (h 0 (by decide))
theorem Tab.kept {w w' : World} {ks : List Nat} (h : Tab w) (hk : Kept ks w w') (h0 : 0 ∉ ks) : Tab w' :=
  fun i hi => (World.cell?_of_block (a := ⟨0, i, none⟩) (hk.block 0 h.pos h0)).trans (h i hi)
theorem Tab.drewN {w : World} (h : Tab w) (q : Nat) : Tab (w.drewN q) := h.kept ((Kept.refl [] w).drewN q) (by simp)
theorem CoderAt.kept {w w' : World} {X r : Nat} {ks : List Nat} (h : CoderAt w X r) (hk : Kept ks w w') (h0 : X ∉ ks) : CoderAt w' X r := ⟨hk.heap h.1 h0, h.2⟩
theorem CoderAt.drewN {w : World} {X r : Nat} (h : CoderAt w X r) (q : Nat) : CoderAt (w.drewN q) X r := h.kept ((Kept.refl [] w).drewN q) (by simp)
theorem WriterAt.kept {w w' : World} {B N len : Nat} {V : Value} {ks : List Nat} (h : WriterAt w B V N len) (hk : Kept ks w w') (h0 : B ∉ ks) (h1 : ∀ g, V.ownBlock = some g → g ∉ ks) : WriterAt w' B V N len := ⟨hk.heap h.1 h0, hk.row h.2 h1⟩

theorem cells_one {w : World} {B : Nat} {a : Value} {t : TypeId} (h : w.heap[B]? = some (.cells #[a] t (0, 0))) : w.cell? ⟨B, 0, none⟩ = some a ∧ w.frozen? ⟨B, 0, none⟩ = false := by
  refine ⟨?_, ?_⟩ <;> simp [World.cell?, World.frozen?, h]

set_option maxHeartbeats 400000 in
theorem newRuns_any (w : World) :
    Calls Tryd.prog 31 #[] w fun e w' => e = .returned (.pointer (some ⟨w.heap.size, 0, none⟩)) ∧ w' = w.alloc (.cells #[.int .i64 0] 97) := by
  go_enter Tryd.func31, Tryd.ntmps31
  go_wp2
  go_ret
  exact ⟨rfl, rfl⟩

theorem newRuns_at (w : World) : CoderAt (w.alloc (.cells #[.int .i64 0] 97)) w.heap.size 0 := ⟨by rw [heap_alloc_new]; simp, by decide⟩

theorem stretch_le (r : Nat) : 2 ^ J r ≤ 4096 := by
  have hp : (2 : Nat) ^ J r ≤ 2 ^ 12 := Nat.pow_le_pow_right (by decide) (J_le r)
  exact hp

theorem wrap_stretch (r : Nat) : wrap64 (2 ^ J r) = ((2 ^ J r : Nat) : Int) := by
  have h := stretch_le r
  rw [pow_two_int]
  generalize 2 ^ J r = q at *
  unfold wrap64
  omega

set_option maxHeartbeats 1000000 in
theorem stretch_any (X r : Nat) (s : Int) (w : World) (hx : CoderAt w X r) (hT : Tab w) (hs : s = ((2 ^ J r : Nat) : Int)) :
    Calls Tryd.prog 84 #[.pointer (some ⟨X, 0, none⟩)] w fun e w' => e = .returned (.int .i64 s) ∧ w' = w := by
  obtain ⟨c0, f0⟩ := cells_one hx.1
  have hr := hx.2
  have hj := hT r (by omega)
  have j12 := J_le r
  have Hs := Hid.mk hs
  clear hT hx hs
  go_enter Tryd.func84, Tryd.ntmps84
  go_wp2
  go_ret
  exact ⟨ret_int (by rw [wrap_stretch, Hs.out]), rfl⟩

set_option maxHeartbeats 1000000 in
theorem rise_any (X r : Nat) (w : World) (hx : CoderAt w X r) :
    Calls Tryd.prog 85 #[.pointer (some ⟨X, 0, none⟩)] w fun e w' => e = .returned (.tuple #[]) ∧ CoderAt w' X (min (r + 1) 22) ∧ Kept [X] w w' := by
  obtain ⟨c0, f0⟩ := cells_one hx.1
  have hr := hx.2
  have HX := Hid.mk hx
  clear hx
  go_enter Tryd.func85, Tryd.ntmps85
  go_wp2
  go_end0
  refine ⟨rfl, ⟨?_, by omega⟩, (Kept.refl _ _).setCell (by simp) _⟩
  rw [heap_setCell_at HX.out.1]
  have e : min ((r : Int) + 1) 22 = ((min (r + 1) 22 : Nat) : Int) := by omega
  rw [e]
  rfl

set_option maxHeartbeats 1000000 in
theorem fall_any (X r : Nat) (w : World) (hx : CoderAt w X r) :
    Calls Tryd.prog 86 #[.pointer (some ⟨X, 0, none⟩)] w fun e w' => e = .returned (.tuple #[]) ∧ CoderAt w' X (r - 1) ∧ Kept [X] w w' := by
  obtain ⟨c0, f0⟩ := cells_one hx.1
  have hr := hx.2
  have HX := Hid.mk hx
  clear hx
  go_enter Tryd.func86, Tryd.ntmps86
  go_wp2
  go_end0
  refine ⟨rfl, ⟨?_, by omega⟩, (Kept.refl _ _).setCell (by simp) _⟩
  rw [heap_setCell_at HX.out.1]
  have e : max ((r : Int) - 1) 0 = ((r - 1 : Nat) : Int) := by omega
  rw [e]
  rfl

set_option maxHeartbeats 400000 in
theorem roomy_ok (room : Int) (w : World) (h0 : 1 ≤ room) (h1 : room ≤ 4096) :
    Calls Tryd.prog 79 #[.int .i64 room] w fun e w' => e = .returned (.bool true) ∧ w' = w := by
  go_enter Tryd.func79, Tryd.ntmps79
  go_wp2
  go_ret
  exact ⟨ret_bool (by simp), rfl⟩
end Go.Proofs.YtahoeodpjdbdkabDoor

namespace Go.Proofs.YtahoeodpjdbdkabDoor
open Go.RowKit

/-- Bits and i ones behind them. -/
def ones (N i : Nat) : Nat := N * 2 ^ i + (2 ^ i - 1)
theorem ones_succ (N i : Nat) : ones N i * 2 + 1 = ones N (i + 1) := by
  unfold ones
  have := Nat.two_pow_pos i
  rw [Nat.pow_succ, ← Nat.mul_assoc]
  omega

theorem ones_mul (N i j low : Nat) : (ones N i * 2 + 0) * 2 ^ j + low = N * 2 ^ (i + 1 + j) + ((2 ^ i - 1) * 2 ^ (1 + j) + low) := by
  unfold ones
  rw [Nat.add_zero, Nat.mul_assoc, show (2 : Nat) * 2 ^ j = 2 ^ (1 + j) by rw [Nat.pow_add, Nat.pow_one], Nat.add_mul, Nat.mul_assoc, ← Nat.pow_add, Nat.add_assoc i 1 j, Nat.add_assoc]

/-- The state within Put of a run, behind i stretches. -/
structure PutS (w wr : World) (X B : Nat) (V V1 : Value) (N len r i : Nat) : Prop where
  coder : CoderAt wr X (ri r i)
  writer : WriterAt wr B V1 (ones N i) (len + i)
  tab : Tab wr
  keep : Kept (X :: B :: V.ownBlock.toList) w wr
  lies : Lies w V V1

theorem PutS.ne {w wr : World} {X B : Nat} {V V1 : Value} {N len r i : Nat} (h : PutS w wr X B V V1 N len r i) : X ≠ B ∧ V1.ownBlock ≠ some X ∧ V1.ownBlock ≠ some B := by
  refine ⟨?_, own_ne h.coder.1 (by decide) h.writer.2, own_ne h.writer.1 (by decide) h.writer.2⟩
  rintro rfl
  have h1 := h.coder.1
  rw [h.writer.1] at h1
  simp at h1

theorem keep_cons {w w1 w2 : World} {X B : Nat} {V V1 : Value} (k1 : Kept (X :: B :: V.ownBlock.toList) w w1) (l1 : Lies w V V1) (k2 : Kept (B :: V1.ownBlock.toList) w1 w2) : Kept (X :: B :: V.ownBlock.toList) w w2 := by
  refine k1.step k2 ?_
  intro x hx
  rcases List.mem_cons.1 hx with h | h
  · left; simp [h]
  · rcases l1.mem x h with h | h
    · left; simp only [List.mem_cons]; exact .inr (.inr h)
    · right; exact h

theorem no_zero {w : World} {B : Nat} {V V1 : Value} (hT : Tab w) (hB : B ≠ 0) (hV : V.ownBlock ≠ some 0) (l1 : Lies w V V1) : 0 ∉ B :: V1.ownBlock.toList := by
  intro h
  rcases List.mem_cons.1 h with h | h
  · exact hB h.symm
  · rcases l1.mem 0 h with h | h
    · exact hV (by simpa using h)
    · have := hT.pos; omega

/-- What a Put of bits leaves of the state. -/
theorem PutS.put {w wr w' : World} {X B : Nat} {V V1 V2 : Value} {N len r i N2 l2 : Nat} (h : PutS w wr X B V V1 N len r i) (hT : Tab w) (hB : B ≠ 0) (hV : V.ownBlock ≠ some 0) (hw : WriterAt w' B V2 N2 l2) (hk : Kept (B :: V1.ownBlock.toList) wr w') (hl : Lies wr V1 V2) :
    CoderAt w' X (ri r i) ∧ Tab w' ∧ Kept (X :: B :: V.ownBlock.toList) w w' ∧ Lies w V V2 ∧ X ≠ B ∧ V2.ownBlock ≠ some X := by
  obtain ⟨n1, n2, n3⟩ := h.ne
  have hc : CoderAt w' X (ri r i) := h.coder.kept hk (by simp; exact ⟨n1, n2⟩)
  exact ⟨hc, h.tab.kept hk (no_zero hT hB hV h.lies), keep_cons h.keep h.lies hk, h.lies.trans hl h.keep.size, n1, own_ne hc.1 (by decide) hw.2⟩

set_option maxHeartbeats 2000000 in
set_option maxRecDepth 1000000 in
theorem rput_any (X B : Nat) (V : Value) (N len r : Nat) (n room : Int) (w : World) (hx : CoderAt w X r) (hw : WriterAt w B V N len) (hT : Tab w) (hX : X ≠ 0) (hB : B ≠ 0) (hV : V.ownBlock ≠ some 0)
    (r0 : 1 ≤ room) (r1 : room ≤ 4096) (n0 : 0 ≤ n) (n1 : n ≤ room) (hl : len / 8 + 2000 ≤ 140737488355328) :
    Calls Tryd.prog 64 #[.pointer (some ⟨X, 0, none⟩), .pointer (some ⟨B, 0, none⟩), .int .i64 n, .int .i64 room] w fun e w' => e = .returned (.int .i64 0) ∧
      ∃ V', CoderAt w' X (rr r n.toNat room.toNat) ∧ WriterAt w' B V' (N * 2 ^ rw_ r n.toNat room.toNat + rf r n.toNat room.toNat) (len + rw_ r n.toNat room.toNat) ∧ Kept (X :: B :: V.ownBlock.toList) w w' ∧ Lies w V V' := by
  have hr := hx.2
  have ht : decide (n < 0) = false := by simp; omega
  have ht2 : decide (room < n) = false := by simp; omega
  have HS : Hid (PutS w w X B V V N len r 0) := ⟨by rw [show ri r 0 = r by unfold ri; omega]; exact hx, by simpa [ones] using hw, hT, Kept.refl _ _, Lies.refl _ _⟩
  have HT := Hid.mk hT
  clear hx hw hT
  go_enter Tryd.func64, Tryd.ntmps64
  go_wp2_with (go_at_call 79; refine (roomy_ok room _ r0 r1).mono ?_; rintro e w' ⟨rfl, rfl⟩)
  go_loopw [9] (fun lf wr => ∃ (i : Nat) (V1 : Value), S r i ≤ n.toNat ∧ lf = .int .i64 (n - (S r i : Int)) ∧ PutS w' wr X B V V1 N len r i) (fun lf _ => (intOf lf).toNat)
  case atStart => exact ⟨0, V, Nat.zero_le _, by simp [S], HS.out⟩
  case round =>
    obtain ⟨i, V1, hi, rfl, hS⟩ := hrel
    obtain ⟨s, hs⟩ : ∃ s : Int, s = ((2 ^ J (ri r i) : Nat) : Int) := ⟨_, rfl⟩
    have Hs := Hid.mk hs
    have s0 : 1 ≤ s := by have := Nat.two_pow_pos (J (ri r i)); omega
    have s1 : s ≤ 4096 := by have := stretch_le (ri r i); omega
    have hge := S_ge r i
    have HSi := Hid.mk hS
    clear hS hs
    by_cases hlt : s ≤ n - (S r i : Int)
    · go_wp2_with (go_at_call 84; refine (stretch_any X (ri r i) s _ HSi.out.coder HSi.out.tab Hs.out).mono ?_; rintro e w1 ⟨rfl, rfl⟩)
      refine (put_any B V1 _ _ 1 1 _ HSi.out.writer (by omega) (by omega) (by omega) (by decide) (by omega)).mono ?_
      rintro e w2 ⟨rfl, V2, hw2, hk2, hl2⟩
      obtain ⟨hc2, ht2, hk3, hl3, hne, hne2⟩ := HSi.out.put HT.out hB hV hw2 hk2 hl2
      have HW2 := Hid.mk hw2
      have HC2 := Hid.mk hc2
      have HT2 := Hid.mk ht2
      have HK3 := Hid.mk hk3
      have HL3 := Hid.mk hl3
      have Hne := Hid.mk hne
      have Hne2 := Hid.mk hne2
      clear hw2 hk2 hl2 hc2 ht2 hk3 hl3 hne hne2
      go_wp2_with (first
        | (go_at_call 84; refine (stretch_any X (ri r i) s _ HC2.out HT2.out Hs.out).mono ?_; rintro e w3 ⟨rfl, rfl⟩)
        | (go_at_call 85; refine (rise_any X (ri r i) _ HC2.out).mono ?_; rintro e w4 ⟨rfl, hc4, hk4⟩))
      have HC4 := Hid.mk hc4
      have HK4 := Hid.mk hk4
      clear hc4 hk4
      go_roundw
      case rel =>
        refine ⟨i + 1, V2, ?_, ?_, ?_⟩
        · have := Hs.out; rw [S_succ]; omega
        · have := Hs.out
          rw [S_succ]
          congr 1
          omega
        · refine ⟨?_, ?_, HT2.out.kept HK4.out (by simpa using hX.symm), HK3.out.step HK4.out (by simp), HL3.out⟩
          · have h := HC4.out
            rw [show min (ri r i + 1) 22 = ri r (i + 1) by unfold ri; omega] at h
            exact h
          · have h := HW2.out.kept HK4.out (by simpa using Hne.out.symm) (fun g hg => by simp; rintro rfl; exact Hne2.out hg)
            rw [show (1 : Int).toNat = 1 from rfl, Nat.pow_one, ones_succ, Nat.add_assoc] at h
            exact h
      case measure => simp [intOf]; omega
    · have hm : cnt r n.toNat = i := cnt_eq r _ i hi (by have := Hs.out; rw [S_succ]; omega)
      have hlow : (n - (S r i : Int)).toNat < 2 ^ ((J (ri r i) : Nat) : Int).toNat := by have := Hs.out; rw [Int.toNat_natCast]; omega
      have hj12 := J_le (ri r i)
      have Hlow := Hid.mk hlow
      have l0 : 0 ≤ n - (S r i : Int) := by omega
      have l1 : n - (S r i : Int) ≤ 4096 := by omega
      clear hlow
      by_cases hlt2 : n < room
      · go_wp2_with (go_at_call 84; refine (stretch_any X (ri r i) s _ HSi.out.coder HSi.out.tab Hs.out).mono ?_; rintro e w1 ⟨rfl, rfl⟩)
        refine (put_any B V1 _ _ 0 1 _ HSi.out.writer (by omega) (by omega) (by omega) (by decide) (by omega)).mono ?_
        rintro e w2 ⟨rfl, V2, hw2, hk2, hl2⟩
        obtain ⟨hc2, ht2, hk3, hl3, hne, hne2⟩ := HSi.out.put HT.out hB hV hw2 hk2 hl2
        obtain ⟨c0, f0⟩ := cells_one hc2.1
        have hr2 := hc2.2
        have hj2 := ht2 (ri r i) (by omega)
        have HW2 := Hid.mk hw2
        have HC2 := Hid.mk hc2
        have HT2 := Hid.mk ht2
        have HK3 := Hid.mk hk3
        have HL3 := Hid.mk hl3
        have Hne := Hid.mk hne
        have Hne2 := Hid.mk hne2
        clear hw2 hk2 hl2 hc2 ht2 hk3 hl3 hne hne2
        go_wp2_with fail
        refine (put_any B V2 _ _ (n - (S r i : Int)) (J (ri r i) : Int) _ HW2.out (by omega) (by omega) (by omega) Hlow.out (by omega)).mono ?_
        rintro e w3 ⟨rfl, V3, hw3, hk3', hl3'⟩
        have hc3 : CoderAt w3 X (ri r i) := HC2.out.kept hk3' (by simp; exact ⟨Hne.out, Hne2.out⟩)
        have hn3 := own_ne hc3.1 (by decide) hw3.2
        have HW3 := Hid.mk hw3
        have HC3 := Hid.mk hc3
        have HK := Hid.mk (keep_cons HK3.out HL3.out hk3')
        have HL := Hid.mk (HL3.out.trans hl3' HK3.out.size)
        have Hn3 := Hid.mk hn3
        clear hw3 hk3' hl3' hc3 hn3 c0 f0 hj2
        go_wp2_with (go_at_call 86; refine (fall_any X (ri r i) _ HC3.out).mono ?_; rintro e w4 ⟨rfl, hc4, hk4⟩)
        go_ret
        obtain ⟨e1, e2, e3⟩ := run_short (r := r) (n := n.toNat) (room := room.toNat) (by omega)
        rw [hm] at e1 e2 e3
        refine ⟨rfl, V3, by rw [e3]; exact hc4, ?_, HK.out.step hk4 (by simp), HL.out⟩
        have h := HW3.out.kept hk4 (by simpa using Hne.out.symm) (fun g hg => by simp; rintro rfl; exact Hn3.out hg)
        rw [show (1 : Int).toNat = 1 from rfl, Nat.pow_one, show (0 : Int).toNat = 0 from rfl, Int.toNat_natCast, ones_mul, show len + i + 1 + J (ri r i) = len + (i + 1 + J (ri r i)) by omega, show (n - (S r i : Int)).toNat = n.toNat - S r i by omega, ← e1, ← e2] at h
        exact h
      · obtain rfl : n = room := by omega
        by_cases hle : 0 < n - (S r i : Int)
        · go_wp2_with (go_at_call 84; refine (stretch_any X (ri r i) s _ HSi.out.coder HSi.out.tab Hs.out).mono ?_; rintro e w1 ⟨rfl, rfl⟩)
          refine (put_any B V1 _ _ 1 1 _ HSi.out.writer (by omega) (by omega) (by omega) (by decide) (by omega)).mono ?_
          rintro e w2 ⟨rfl, V2, hw2, hk2, hl2⟩
          obtain ⟨hc2, ht2, hk3, hl3, hne, hne2⟩ := HSi.out.put HT.out hB hV hw2 hk2 hl2
          have HW2 := Hid.mk hw2
          clear hw2
          go_wp2_with fail
          go_ret
          obtain ⟨e1, e2, e3⟩ := run_over (r := r) (room := n.toNat) (by rw [hm]; omega)
          rw [hm] at e1 e2 e3
          refine ⟨rfl, V2, by rw [e3]; exact hc2, ?_, hk3, hl3⟩
          have h := HW2.out
          rw [show (1 : Int).toNat = 1 from rfl, Nat.pow_one, ones_succ, Nat.add_assoc] at h
          rw [e1, e2]
          exact h
        · go_wp2_with (go_at_call 84; refine (stretch_any X (ri r i) s _ HSi.out.coder HSi.out.tab Hs.out).mono ?_; rintro e w1 ⟨rfl, rfl⟩)
          go_ret
          obtain ⟨e1, e2, e3⟩ := run_full (r := r) (room := n.toNat) (by rw [hm]; omega)
          rw [hm] at e1 e2 e3
          refine ⟨rfl, V1, by rw [e3]; exact HSi.out.coder, ?_, HSi.out.keep, HSi.out.lies⟩
          rw [e1, e2]
          exact HSi.out.writer
end Go.Proofs.YtahoeodpjdbdkabDoor
