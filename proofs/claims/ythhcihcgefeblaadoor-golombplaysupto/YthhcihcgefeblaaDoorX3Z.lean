import Derived.Test.YthhcihcgefeblaaDoorX1
namespace Go.Proofs.YthhcihcgefeblaaDoor
open Go.RowKit

/-- The document's reader: all its bits, and how many were taken. -/
def RefR (w : World) (B : Nat) (V : Value) (l : List Nat) (t : Nat) : Prop :=
  w.heap[B]? = some (.cells #[V, .int .i64 (t : Int)] 103 (0, 0)) ∧ w.ownsRow 0 5 1 V (8 * l.length) ((bin (8 * l.length) (num l)).map byt)

theorem refr_new {w wr w1 w2 : World} {B m : Nat} {V1 V2 T : Value} {xs : List Value} (hB : wr.heap[B]? = some (.cells #[V1, T] 103 (0, 0))) (hBn : w.heap.size ≤ B) (hV1 : V1.ownBlock ≠ some B) (hk : Kept [] w wr) (hL : Lies w (.slice none 0 0) V1)
    (hk1 : Kept [] wr w1) (hg : w1.grownBy w2 V1.ownBlock) (ho : w2.ownsRow 0 5 1 V2 m xs) (hat : V2.ownBlock = V1.ownBlock ∨ V2.ownBlock = some w1.heap.size) :
    (w2.setCell ⟨B, 0, none⟩ V2).heap[B]? = some (.cells #[V2, T] 103 (0, 0)) ∧ (w2.setCell ⟨B, 0, none⟩ V2).ownsRow 0 5 1 V2 m xs ∧ Kept [] w (w2.setCell ⟨B, 0, none⟩ V2) ∧ Lies w (.slice none 0 0) V2 := by
  have h1 := hk1.heap hB (by simp)
  have h2 := (Kept.of_grown hg).heap h1 (by rw [mem_own]; exact hV1)
  have s1 := hk1.size
  have hne : V2.ownBlock ≠ some B := own_ne2 h2 (by decide) ho
  refine ⟨by rw [heap_setCell_at h2]; simp, ownsRow_setCell_other ho hne _, ?_, ?_⟩
  · refine Kept.setCell (p := ⟨B, 0, none⟩) ?_ (by simp; omega) _
    refine (hk.step hk1 (by simp)).step (Kept.of_grown hg) (fun x hx => ?_)
    rcases hL.mem x hx with h | h
    · simp [Value.ownBlock] at h
    · exact .inr h
  · refine hL.trans (w1 := wr) ?_ hk.size
    rcases hat with h | h
    · exact .inl h
    · exact .inr ⟨_, h, s1⟩

theorem k_pow (j : Nat) (h : j < 8) : 128 / 2 ^ j = 2 ^ (7 - j) := by
  match j, h with
  | 0, _ => rfl
  | 1, _ => rfl
  | 2, _ => rfl
  | 3, _ => rfl
  | 4, _ => rfl
  | 5, _ => rfl
  | 6, _ => rfl
  | 7, _ => rfl

theorem k_half (j : Nat) : 128 / 2 ^ j / 2 = 128 / 2 ^ (j + 1) := by rw [Nat.div_div_eq_div_mul, Nat.pow_succ]

theorem byte_val (y X2 : Int) (b c : Nat) (hy : y = (b : Int)) (hb : b < 256) (hX : X2 = ((2 ^ c : Nat) : Int)) :
    Value.int .u8 (IntKind.u8.wrap ((IntKind.i64.wrap ((IntKind.i64.wrap y).tdiv X2)).tmod 2)) = byt (b / 2 ^ c % 2) := by
  have hp := Nat.two_pow_pos c
  have e1 : IntKind.i64.wrap y = y := by rw [IntKind.wrap_i64]; omega
  have e2 : y.tdiv X2 = ((b / 2 ^ c : Nat) : Int) := by
    rw [Int.tdiv_eq_ediv_of_nonneg (by omega), hX, hy, Int.natCast_ediv]
  have e3 : b / 2 ^ c ≤ b := Nat.div_le_self _ _
  rw [e1, e2]
  generalize b / 2 ^ c = z at *
  have e4 : IntKind.i64.wrap (z : Int) = z := by rw [IntKind.wrap_i64]; omega
  rw [e4, Int.tmod_eq_emod_of_nonneg (by omega), IntKind.wrap_u8, byt]
  congr 1
  omega

/-- One digit more of a byte. -/
theorem read_digit (i j T b : Nat) (hj : j < 8) : bin (8 * i + (j + 1)) (T * 2 ^ (j + 1) + b / 2 ^ (8 - (j + 1))) = bin (8 * i + j) (T * 2 ^ j + b / 2 ^ (8 - j)) ++ [b / 2 ^ (7 - j) % 2] := by
  rw [← Nat.add_assoc, bin]
  have e1 : b / 2 ^ (8 - j) = b / 2 ^ (8 - (j + 1)) / 2 := by
    rw [Nat.div_div_eq_div_mul, ← Nat.pow_succ, show (8 - (j + 1)).succ = 8 - j by omega]
  have e2 : 8 - (j + 1) = 7 - j := by omega
  rw [e1, e2, Nat.pow_succ, ← Nat.mul_assoc]
  generalize b / 2 ^ (7 - j) = y
  generalize T * 2 ^ j = z
  rw [show (z * 2 + y) / 2 = z + y / 2 by omega, show (z * 2 + y) % 2 = y % 2 by omega]

theorem read_start (i T b : Nat) (hb : b < 256) : bin (8 * i + 0) (T * 2 ^ 0 + b / 2 ^ (8 - 0)) = bin (8 * i) T := by
  have : b / 2 ^ (8 - 0) = 0 := Nat.div_eq_of_lt (by simpa using hb)
  rw [this]; simp

theorem read_end (l : List Nat) (i : Nat) (hi : i < l.length) : bin (8 * i + 8) (num (l.take i) * 2 ^ 8 + l.getD i 0 / 2 ^ (8 - 8)) = bin (8 * (i + 1)) (num (l.take (i + 1))) := by
  rw [num_take_succ l i hi]
  simp [Nat.mul_add]

set_option maxHeartbeats 2000000 in
set_option maxRecDepth 1000000 in
theorem refNewReader_any (ao : Option Addr) (cap m : Nat) (l : List Nat) (w : World) (hr : Reads w ao l) (hb : Byts l) (hm : l.length = m) (hl : m ≤ 10000000000000) :
    Calls Tryd.prog 34 #[.slice ao m cap] w fun e w' => e = .returned (.pointer (some ⟨w.heap.size, 0, none⟩)) ∧ ∃ V, RefR w' w.heap.size V l 0 ∧ Lies w (.slice none 0 0) V ∧ Kept [] w w' := by
  obtain ⟨i0, hi, hz0, hz1, hz2⟩ := info_parts Tryd.info5
  have Hr := Hid.mk hr
  have Hm := Hid.mk hm
  have Hb := Hid.mk hb
  have H0 := Hid.mk (heap_alloc_new w (.cells #[.slice none 0 0, .int .i64 0] 103))
  have HK := Hid.mk ((Kept.refl [] w).alloc (.cells #[.slice none 0 0, .int .i64 0] 103))
  clear hr hm hb
  go_enter Tryd.func34, Tryd.ntmps34
  go_wp2
  generalize w.alloc (.cells #[.slice none 0 0, .int .i64 0] 103) = wa at *
  go_loopw [4, 5] (fun s4 s5 wr => ∃ (i : Nat) (V1 : Value), i ≤ m ∧ s4 = .int .i64 i ∧ wr.heap[w.heap.size]? = some (.cells #[V1, .int .i64 0] 103 (0, 0)) ∧ wr.ownsRow 0 5 1 V1 (8 * i) ((bin (8 * i) (num (l.take i))).map byt) ∧ Lies w (.slice none 0 0) V1 ∧ Kept [] w wr) (fun s4 _ _ => m - (intOf s4).toNat)
  case atStart => exact ⟨0, .slice none 0 0, Nat.zero_le _, rfl, H0.out, by simpa [bin] using World.ownsRow_nil _ _ _ _, Lies.refl _ _, HK.out⟩
  case round =>
    obtain ⟨i, V1, him, rfl, hbox, hown, hlies, hkr⟩ := hrel
    have Hbox := Hid.mk hbox
    have Hown := Hid.mk hown
    have Hlies := Hid.mk hlies
    have Hkr := Hid.mk hkr
    clear hbox hown hlies hkr
    by_cases hlt : i < m
    · have hil : i < l.length := by have := Hm.out; omega
      obtain ⟨b, hbd⟩ : ∃ b, b = l.getD i 0 := ⟨_, rfl⟩
      have hb256 : b < 256 := by rw [hbd]; exact getD_lt l i Hb.out
      obtain ⟨T, hT⟩ : ∃ T, T = num (l.take i) := ⟨_, rfl⟩
      have Hend := Hid.mk (read_end l i hil)
      have Hst := Hid.mk (read_start i T b hb256)
      rw [← hbd, ← hT] at Hend
      rw [← hT] at Hown
      have hsrc : ∃ g off, ao = some ⟨g, off, none⟩ ∧ w.cell? ⟨g, off + i, none⟩ = some (byt b) := by
        rcases Hr.out with h | ⟨g, off, h, hc⟩
        · rw [h] at hil; simp at hil
        · exact ⟨g, off, h, by rw [hbd]; exact hc i hil⟩
      obtain ⟨g, off, rfl, hsrc⟩ := hsrc
      have Hsrc := Hid.mk hsrc
      have Hbd := Hid.mk hbd
      clear hsrc hbd hT hil
      go_wp2
      go_loopw [5] (fun s5 wx => ∃ (j : Nat) (kk : Int) (V2 : Value), j ≤ 8 ∧ kk = ((128 / 2 ^ j : Nat) : Int) ∧ s5 = .int .i64 kk ∧ wx.heap[w.heap.size]? = some (.cells #[V2, .int .i64 0] 103 (0, 0)) ∧ wx.ownsRow 0 5 1 V2 (8 * i + j) ((bin (8 * i + j) (T * 2 ^ j + b / 2 ^ (8 - j))).map byt) ∧ Lies w (.slice none 0 0) V2 ∧ Kept [] w wx) (fun s5 _ => (intOf s5).toNat)
      case atStart => exact ⟨0, 128, V1, by omega, rfl, rfl, Hbox.out, by rw [Hst.out]; exact Hown.out, Hlies.out, Hkr.out⟩
      case round =>
        obtain ⟨j, kk, V2, hj, hkk, rfl, hbox2, hown2, hlies2, hkx⟩ := hrel
        have Hbox2 := Hid.mk hbox2
        have Hown2 := Hid.mk hown2
        have Hlies2 := Hid.mk hlies2
        have Hkx := Hid.mk hkx
        have Hkk := Hid.mk hkk
        by_cases hj8 : j < 8
        · obtain ⟨n2, hn2⟩ : ∃ n2, n2 = 8 * i + j := ⟨_, rfl⟩
          rw [← hn2] at hown2
          obtain ⟨ao2, cap2, rfl⟩ := row_form hown2
          rw [k_pow j hj8] at hkk
          have hkp : 1 ≤ kk := by have := Nat.two_pow_pos (7 - j); omega
          have hkp0 : 0 < kk := by omega
          have hk128 : kk ≤ 128 := by have h9 := Hkk.out; have : 128 / 2 ^ j ≤ 128 := Nat.div_le_self _ _; omega
          have hkz : ¬ kk = 0 := by omega
          have hhalf : kk / 2 = ((128 / 2 ^ (j + 1) : Nat) : Int) := by rw [← k_half j]; have := Hkk.out; omega
          obtain ⟨y, hy⟩ : ∃ y : Int, y = (b : Int) := ⟨_, rfl⟩
          have hglt := World.block_lt_of_cell? w _ Hsrc.out
          have hcell : wr.cell? ⟨g, off + i, none⟩ = some (.int .u8 y) := by
            rw [World.cell?_of_block (w := w) (a := ⟨g, off + i, none⟩) (hkx.block g hglt (by simp)), Hsrc.out, hy]; rfl
          have hsz := hkx.size
          have hg1 : ¬ g = wr.heap.size := by simp at hglt; omega
          have hg2 : ¬ wr.heap.size = g := by omega
          obtain ⟨c0, _, fz⟩ := cells_two hbox2
          have c1 := fz 0
          have hne := own_ne2 hbox2 (by decide) hown2
          have hBl := lt_of_block hbox2
          have hB2 : ¬ w.heap.size = wr.heap.size := by omega
          have hB3 : ¬ wr.heap.size = w.heap.size := by omega
          have hn2b : n2 ≤ 140737488355320 := by omega
          have Hdig := Hid.mk (byte_val y kk b (7 - j) hy hb256 hkk)
          have Hnew := Hid.mk (read_digit i j T b hj8)
          have Hown3 := Hid.mk hown2
          have Hne := Hid.mk hne
          have Hn2 := Hid.mk hn2
          have Hhalf := Hid.mk hhalf
          clear hbox2 hown2 hlies2 hkx hkk hhalf hn2 hne fz hglt hsz hy
          go_wp2
          go_region_law (first | (refine step_own _ (by rfl) (.tmp 22) (.tmp 32) 34 (by rfl) 0 5 i0 (.int .u8 0) 1 1 Tryd.underlying34 hi hz0 hz1 hz2 rfl (by decide) _ _ _ (by rfl) ((Hown3.out.alloc _).drew) ⟨wr.heap.size, 0, none⟩ 1 1 [.int .u8 (IntKind.u8.wrap ((IntKind.i64.wrap ((IntKind.i64.wrap y).tdiv kk)).tmod 2))] (by rfl) (by rfl) (cell_one_new _ _ _) (by intro u hu; simp at hu; subst hu; rfl) (by unfold maxLen; omega) (by omega) (Nat.zero_le _) ?_; intro ao4 cp4 w4 ho4 hg4 ha4; have hB4 := (Kept.of_grown hg4).heap ((((Kept.refl [] wr).alloc _).drew).heap Hbox2.out (by simp)) (by rw [mem_own]; exact Hne.out); have q0 := (cells_two hB4).1; have q1 := (cells_two hB4).2.2 0))
          all_goals go_wp2
          all_goals go_roundw
          all_goals first
            | (have P := refr_new Hbox2.out (Nat.le_refl _) Hne.out Hkx.out Hlies2.out (((Kept.refl [] wr).alloc _).drew) hg4 ho4 ha4
               refine ⟨j + 1, kk / 2, _, by omega, Hhalf.out, by go_num, P.1, ?_, P.2.2.2, P.2.2.1⟩
               rw [Hnew.out, List.map_append, List.map_singleton, ← Hdig.out, ← Nat.add_assoc, ← Hn2.out]
               exact P.2.1)
            | (simp [intOf]; omega)
        · obtain rfl : j = 8 := by omega
          obtain rfl : kk = 0 := by rw [hkk]; rfl
          clear hbox2 hown2 hlies2 hkx hkk
          go_wp2
          go_roundw
          case rel => exact ⟨i + 1, V2, by omega, by go_num, Hbox2.out, by rw [← Hend.out]; exact Hown2.out, Hlies2.out, Hkx.out⟩
          case measure => simp [intOf]; omega
    · obtain rfl : i = m := by omega
      go_wp2
      go_ret
      refine ⟨rfl, V1, ⟨Hbox.out, ?_⟩, Hlies.out, Hkr.out⟩
      have h := Hown.out
      rw [← Hm.out, List.take_length] at h
      exact h
end Go.Proofs.YthhcihcgefeblaaDoor

namespace Go.Proofs.YthhcihcgefeblaaDoor
open Go.RowKit

theorem bin_next (l : List Nat) (k : Nat) (h : k < 8 * l.length) : (bin (8 * l.length) (num l)).getD k 0 = nextN l k 1 := by
  rw [bin_getD _ _ _ h, nextN, show 8 * l.length - (k + 1) = 8 * l.length - 1 - k by omega]

theorem refr_cell {w : World} {B : Nat} {V : Value} {l : List Nat} {t : Nat} (h : RefR w B V l t) (k : Nat) (hk : k < 8 * l.length) :
    ∃ g cap, V = .slice (some ⟨g, 0, none⟩) (8 * l.length) cap ∧ w.cell? ⟨g, k, none⟩ = some (byt (nextN l k 1)) := by
  obtain ⟨g, cap, rfl⟩ := row_some h.2 (by omega)
  refine ⟨g, cap, rfl, ?_⟩
  rw [h.2.cellAt k (by omega), ← bin_next l k hk]
  simp [bin_length, hk]

theorem refr_drewN {w : World} {B : Nat} {V : Value} {l : List Nat} {t : Nat} (h : RefR w B V l t) (q : Nat) : RefR (w.drewN q) B V l t := by
  have hk := (Kept.refl [] w).drewN q
  exact ⟨hk.heap h.1 (by simp), hk.row h.2 (by simp)⟩

theorem refr_kept {w w' : World} {B : Nat} {V : Value} {l : List Nat} {t : Nat} {ks : List Nat} (h : RefR w B V l t) (hk : Kept ks w w') (h1 : B ∉ ks) (h2 : ∀ g, V.ownBlock = some g → g ∉ ks) : RefR w' B V l t :=
  ⟨hk.heap h.1 h1, hk.row h.2 h2⟩

theorem refr_set {w : World} {B : Nat} {V : Value} {l : List Nat} {t : Nat} (h : RefR w B V l t) (t' : Nat) : RefR (w.setCell ⟨B, 1, none⟩ (.int .i64 (t' : Int))) B V l t' :=
  ⟨by rw [heap_setCell_at h.1]; simp, ownsRow_setCell_other h.2 (own_ne2 h.1 (by decide) h.2) _⟩

set_option maxHeartbeats 1000000 in
theorem refLeft_any (B : Nat) (V : Value) (l : List Nat) (t : Nat) (w : World) (h : RefR w B V l t) (ht : t ≤ 8 * l.length) (hl : l.length ≤ 10000000000000) :
    Calls Tryd.prog 50 #[.pointer (some ⟨B, 0, none⟩)] w fun e w' => e = .returned (.int .i64 (8 * (l.length : Int) - (t : Int))) ∧ ∃ q, w' = w.drewN q := by
  obtain ⟨ao, cap, rfl⟩ := row_form h.2
  obtain ⟨c0, c1, _⟩ := cells_two h.1
  go_enter Tryd.func50, Tryd.ntmps50
  go_wp2_with fail
  go_quiet (fail)
  go_wp2
  go_ret
  exact ⟨ret_int (by omega), _, rfl⟩

set_option maxHeartbeats 1000000 in
theorem refGet_width (B : Nat) (n : Int) (w : World) (h : n < 0 ∨ 32 < n) :
    Calls Tryd.prog 45 #[.pointer (some ⟨B, 0, none⟩), .int .i64 n] w fun e w' => e = .returned (.tuple #[.int .u32 0, .int .i64 11]) ∧ w' = w := by
  rcases h with h | h
  · go_enter Tryd.func45, Tryd.ntmps45
    go_wp2
    go_ret2
    exact ⟨rfl, rfl⟩
  · have h' : decide (n < 0) = false := by simp; omega
    go_enter Tryd.func45, Tryd.ntmps45
    go_wp2
    go_ret2
    exact ⟨rfl, rfl⟩

set_option maxHeartbeats 1000000 in
theorem refGet_end (B : Nat) (V : Value) (l : List Nat) (t M : Nat) (n : Int) (w : World) (hw : RefR w B V l t) (hM : 8 * l.length = M) (ht : t ≤ M) (_hl : M ≤ 100000000000000) (h0 : 0 ≤ n) (h1 : n ≤ 32) (h : (M : Int) - (t : Int) < n) :
    Calls Tryd.prog 45 #[.pointer (some ⟨B, 0, none⟩), .int .i64 n] w fun e w' => e = .returned (.tuple #[.int .u32 0, .int .i64 13]) ∧ ∃ q, w' = w.drewN q := by
  obtain ⟨hw1, hw2⟩ := hw
  rw [hM] at hw2
  obtain ⟨ao, cap, rfl⟩ := row_form hw2
  obtain ⟨c0, c1, _⟩ := cells_two hw1
  have h' : decide (n < 0) = false := by simp; omega
  clear hM hw1 hw2
  go_enter Tryd.func45, Tryd.ntmps45
  go_wp2_with fail
  go_quiet (fail)
  go_wp2
  go_ret2
  exact ⟨rfl, _, rfl⟩

theorem next_step (l : List Nat) (t i : Nat) (h : t + i + 1 ≤ 8 * l.length) : nextN l t (i + 1) = nextN l t i * 2 + nextN l (t + i) 1 := by
  rw [nextN_join l t i 1 h]

set_option maxHeartbeats 2000000 in
set_option maxRecDepth 1000000 in
theorem refGet_any (B : Nat) (V : Value) (l : List Nat) (t M : Nat) (n : Int) (w : World) (hw : RefR w B V l t) (hM : 8 * l.length = M) (ht : t ≤ M) (hl : M ≤ 100000000000000) (h0 : 0 ≤ n) (h1 : n ≤ 32) (h : n ≤ (M : Int) - (t : Int)) :
    Calls Tryd.prog 45 #[.pointer (some ⟨B, 0, none⟩), .int .i64 n] w fun e w' => e = .returned (.tuple #[.int .u32 (nextN l t n.toNat : Int), .int .i64 0]) ∧ RefR w' B V l (t + n.toNat) ∧ Kept [B] w w' := by
  have Hw := Hid.mk hw
  obtain ⟨ao, cap, rfl⟩ : ∃ ao cap, V = .slice ao M cap := by rw [← hM]; exact row_form hw.2
  obtain ⟨c0, c1, fz⟩ := cells_two hw.1
  have f1 := fz 1
  have h' : decide (n < 0) = false := by simp; omega
  have HM := Hid.mk hM
  clear hM hw fz
  go_enter Tryd.func45, Tryd.ntmps45
  go_wp2_with fail
  go_quiet (fail)
  go_wp2
  go_loopw [6, 7] (fun v i wr => ∃ (j : Nat) (x : Int) (q : Nat), (j : Int) ≤ n ∧ i = .int .i64 j ∧ v = .int .u64 x ∧ x = (nextN l t j : Int) ∧ wr = w.drewN q) (fun _ i _ => n.toNat - (intOf i).toNat)
  case atStart => exact ⟨0, 0, nq, by omega, rfl, rfl, by simp [nextN, Nat.mod_one], rfl⟩
  case round =>
    obtain ⟨j, x, q, hj, rfl, rfl, hx, rfl⟩ := hrel
    have Hx := Hid.mk hx
    have hxl := nextN_lt l t j
    have hp32 : (2 : Nat) ^ j ≤ 2 ^ 32 := Nat.pow_le_pow_right (by decide) (by omega)
    have hx0 : 0 ≤ x := by omega
    have hx1 : x < 4294967296 := by have : (2 : Nat) ^ 32 = 4294967296 := by decide
                                    omega
    clear hxl hp32
    by_cases hlt : (j : Int) < n
    · obtain ⟨g, cap', he, hcell⟩ := refr_cell Hw.out (t + j) (by have := HM.out; omega)
      simp only [Value.slice.injEq] at he
      obtain ⟨rfl, _, rfl⟩ := he
      have hst := next_step l t j (by have := HM.out; omega)
      have hbit := nextN_lt l (t + j) 1
      obtain ⟨y, hy⟩ : ∃ y : Int, y = ((nextN l (t + j) 1 : Nat) : Int) := ⟨_, rfl⟩
      have hcell2 : w.cell? ⟨g, t + j, none⟩ = some (.int .u8 y) := by rw [hcell, hy]; rfl
      have y0 : 0 ≤ y := by omega
      have y1 : y < 2 := by omega
      have hfin : 2 * x + y = (nextN l t (j + 1) : Int) := by rw [hst]; omega
      have Hfin := Hid.mk hfin
      have tj0 : (0 : Int) ≤ (t : Int) + (j : Int) := by omega
      have tj1 : (t : Int) + (j : Int) < (M : Int) := by omega
      have tj2 : ((t : Int) + (j : Int)).toNat = t + j := by omega
      clear hx hcell hst hbit hy hfin
      go_wp2
      go_quiet (fail)
      go_wp2
      go_roundw
      case rel => exact ⟨j + 1, 2 * x + y, _, by omega, by go_num, by go_num, Hfin.out, rfl⟩
      case measure => simp [intOf]; omega
    · clear hx
      go_wp2
      go_ret2
      have e : (t : Int) + n = ((t + n.toNat : Nat) : Int) := by omega
      refine ⟨?_, ?_, ?_⟩
      · have hxx := Hx.out
        rw [show j = n.toNat by omega] at hxx
        rw [← hxx]
        first | rfl | (congr 4; omega)
      · rw [e]
        exact refr_set (refr_drewN Hw.out _) _
      · exact ((Kept.refl _ _).drewN _).setCell (p := ⟨B, 1, none⟩) (by simp) _

/-- The document's Get of a width that may be. -/
theorem refGet_res (B : Nat) (V : Value) (l : List Nat) (t : Nat) (n X E : Int) (t' : Nat) (w : World) (hw : RefR w B V l t) (ht : t ≤ 8 * l.length) (hl : l.length ≤ 10000000000000) (h0 : 0 ≤ n) (h1 : n ≤ 32) (h : GetRes l t n.toNat X E t') :
    Calls Tryd.prog 45 #[.pointer (some ⟨B, 0, none⟩), .int .i64 n] w fun e w' => e = .returned (.tuple #[.int .u32 X, .int .i64 E]) ∧ RefR w' B V l t' ∧ Kept [B] w w' := by
  rcases h with ⟨h2, rfl, rfl, rfl⟩ | ⟨h2, rfl, rfl, rfl⟩
  · exact refGet_any B V l t _ n w hw rfl ht (by omega) h0 h1 (by omega)
  · refine (refGet_end B V l t' _ n w hw rfl ht (by omega) h0 h1 (by omega)).mono ?_
    rintro e w' ⟨rfl, q, rfl⟩
    exact ⟨rfl, refr_drewN hw q, (Kept.refl _ _).drewN q⟩

end Go.Proofs.YthhcihcgefeblaaDoor

namespace Go.Proofs.YthhcihcgefeblaaDoor
open Go.RowKit

theorem refw_cell {w : World} {B : Nat} {V : Value} {bs : List Nat} (h : RefW w B V bs) (k : Nat) (hk : k < bs.length) :
    ∃ g cap, V = .slice (some ⟨g, 0, none⟩) bs.length cap ∧ w.cell? ⟨g, k, none⟩ = some (byt (bs.getD k 0)) := by
  obtain ⟨g, cap, rfl⟩ := row_some h.2 (by omega)
  refine ⟨g, cap, rfl, ?_⟩
  rw [h.2.cellAt k (by omega)]
  simp [hk]

theorem refw_kept {w w' : World} {B : Nat} {V : Value} {bs : List Nat} {ks : List Nat} (h : RefW w B V bs) (hk : Kept ks w w') (h1 : B ∉ ks) (h2 : ∀ g, V.ownBlock = some g → g ∉ ks) : RefW w' B V bs :=
  ⟨hk.heap h.1 h1, hk.row h.2 h2⟩

/-- The bits of what is filled up. -/
theorem pad_digit (N len M k : Nat) (hM : len ≤ M) (hk : k < M) : N * 2 ^ (M - len) / 2 ^ (M - 1 - k) % 2 = if k < len then (bin len N).getD k 0 else 0 := by
  by_cases h : k < len
  · rw [if_pos h, bin_getD len N k h, show M - 1 - k = (M - len) + (len - 1 - k) by omega, Nat.pow_add, ← Nat.div_div_eq_div_mul, Nat.mul_div_cancel _ (Nat.two_pow_pos _)]
  · rw [if_neg h, show M - len = (M - 1 - k) + ((k - len) + 1) by omega, Nat.pow_add, Nat.mul_left_comm, Nat.mul_div_cancel_left _ (Nat.two_pow_pos _), Nat.pow_succ, ← Nat.mul_assoc, Nat.mul_mod_left]

theorem mod_step (Y j : Nat) : Y % 2 ^ (j + 1) = 2 * (Y / 2 % 2 ^ j) + Y % 2 := by
  have e : Y % 2 ^ (j + 1) / 2 = Y / 2 % 2 ^ j := by rw [Nat.pow_succ, Nat.mul_comm, Nat.mod_mul_right_div_self]
  have e2 : Y % 2 ^ (j + 1) % 2 = Y % 2 := Nat.mod_mod_of_dvd _ ⟨2 ^ j, by rw [Nat.pow_succ, Nat.mul_comm]⟩
  rw [← e, ← e2]
  omega

theorem byte_step (X p j : Nat) (hp : 1 ≤ p) : X / 2 ^ (p - 1) % 2 ^ (j + 1) = 2 * (X / 2 ^ p % 2 ^ j) + X / 2 ^ (p - 1) % 2 := by
  rw [mod_step, Nat.div_div_eq_div_mul, ← Nat.pow_succ, show (p - 1).succ = p by omega]

theorem big_step (X M c : Nat) (hc : c < M) : big (c + 1) (X / 256 ^ (M - (c + 1))) = big c (X / 256 ^ (M - c)) ++ [X / 2 ^ (8 * (M - c) - 8) % 2 ^ 8] := by
  rw [big, Nat.div_div_eq_div_mul, ← Nat.pow_succ, show (M - (c + 1)).succ = M - c by omega, pow256 (M - (c + 1)), show 8 * (M - (c + 1)) = 8 * (M - c) - 8 by omega]

set_option maxHeartbeats 2000000 in
set_option maxRecDepth 1000000 in
theorem refBytes_any (B : Nat) (V : Value) (N len M : Nat) (w : World) (h : RefW w B V (bin len N)) (hM : M = (len + 7) / 8) (hl : len ≤ 100000000000000) :
    Calls Tryd.prog 48 #[.pointer (some ⟨B, 0, none⟩)] w fun e w' => ∃ V', e = .returned V' ∧ w'.ownsRow 0 5 1 V' M ((big M (N * 2 ^ (8 * M - len))).map byt) ∧ Kept [] w w' := by
  obtain ⟨i0, hi, hz0, hz1, hz2⟩ := info_parts Tryd.info5
  obtain ⟨X, hX⟩ : ∃ X, X = N * 2 ^ (8 * M - len) := ⟨_, rfl⟩
  have HX := Hid.mk hX
  rw [← hX]
  have Hh := Hid.mk h
  obtain ⟨ao, cap, rfl⟩ : ∃ ao cap, V = .slice ao len cap := by have hf := row_form h.2; rw [bin_length] at hf; exact hf
  have HM := Hid.mk hM
  clear hX h hM
  go_enter Tryd.func48, Tryd.ntmps48
  go_wp2
  go_loopw [3, 4, 5, 6] (fun s3 s4 s5 s6 wr => ∃ (c : Nat) (ci : Int), c ≤ M ∧ ci = 8 * (c : Int) ∧ s4 = .int .i64 ci ∧ wr.ownsRow 0 5 1 s3 c ((big c (X / 256 ^ (M - c))).map byt) ∧ Lies w (.slice none 0 0) s3 ∧ Kept [] w wr) (fun _ s4 _ _ _ => (8 * M + 8) - (intOf s4).toNat)
  case atStart => exact ⟨0, 0, Nat.zero_le _, rfl, rfl, by simpa [big] using World.ownsRow_nil _ _ _ _, Lies.refl _ _, Kept.refl _ _⟩
  case round =>
    obtain ⟨c, ci, hcM, hci, rfl, hown, hlies, hkr⟩ := hrel
    have Hown := Hid.mk hown
    have Hlies := Hid.mk hlies
    have Hkr := Hid.mk hkr
    have Hci := Hid.mk hci
    have hW := refw_kept Hh.out hkr (by simp) (by simp)
    have c0 := (cells_one' hW.1).1
    have HW := Hid.mk hW
    have hm := HM.out
    by_cases hlt : ci < (len : Int)
    · have hcM2 : c < M := by omega
      have ci0 : 0 ≤ ci := by omega
      have hcb : c ≤ 100000000000000 := by omega
      have cib : ci ≤ 100000000000000 := by omega
      clear hown hlies hkr hW hci hm
      go_wp2
      go_loop [5, 6] (fun s5 s6 => ∃ (j : Nat) (x k : Int), j ≤ 8 ∧ k = ci + (j : Int) ∧ s6 = .int .i64 k ∧ s5 = .int .i64 x ∧ x = ((X / 2 ^ (8 * (M - c) - j) % 2 ^ j : Nat) : Int)) (fun _ s6 => (ci + 8 - intOf s6).toNat)
      case atStart => exact ⟨0, 0, ci, by omega, by omega, rfl, rfl, by simp [Nat.mod_one]⟩
      case round =>
        obtain ⟨j, x, k, hj, hk, rfl, rfl, hx⟩ := hrel
        have Hx := Hid.mk hx
        have Hk := Hid.mk hk
        have hxl : X / 2 ^ (8 * (M - c) - j) % 2 ^ j < 2 ^ j := Nat.mod_lt _ (Nat.two_pow_pos _)
        have hp8 : (2 : Nat) ^ j ≤ 2 ^ 8 := Nat.pow_le_pow_right (by decide) hj
        have hx0 : 0 ≤ x := by omega
        have hx1 : x < 256 := by have : (2 : Nat) ^ 8 = 256 := by decide
                                 omega
        clear hxl hp8
        by_cases hj8 : j < 8
        · have klt : k < ci + 8 := by omega
          have hbs := byte_step X (8 * (M - c) - j) j (by omega)
          have hpd := pad_digit N len (8 * M) (8 * c + j) (by have := HM.out; omega) (by omega)
          rw [show 8 * (M - c) - j - 1 = 8 * (M - c) - (j + 1) by omega] at hbs
          rw [show 8 * M - 1 - (8 * c + j) = 8 * (M - c) - (j + 1) by omega, ← HX.out] at hpd
          by_cases hin : k < (len : Int)
          · rw [if_pos (by have := Hci.out; omega)] at hpd
            obtain ⟨g, cap', he, hcell⟩ := refw_cell HW.out (8 * c + j) (by rw [bin_length]; have := Hci.out; omega)
            simp only [Value.slice.injEq] at he
            obtain ⟨rfl, hlz, rfl⟩ := he
            clear hlz
            have hbit : (bin len N).getD (8 * c + j) 0 < 2 := by rw [← hpd]; exact Nat.mod_lt _ (by decide)
            obtain ⟨y, hy⟩ : ∃ y : Int, y = (((bin len N).getD (8 * c + j) 0 : Nat) : Int) := ⟨_, rfl⟩
            have hcell2 : wr.cell? ⟨g, k.toNat, none⟩ = some (.int .u8 y) := by rw [show k.toNat = 8 * c + j by have := Hci.out; omega, hcell, hy]; rfl
            have y0 : 0 ≤ y := by omega
            have y1 : y < 2 := by omega
            have k0 : 0 ≤ k := by omega
            have kb : k ≤ 100000000000010 := by omega
            have hfin : 2 * x + y = ((X / 2 ^ (8 * (M - c) - (j + 1)) % 2 ^ (j + 1) : Nat) : Int) := by rw [hbs, hpd]; omega
            have Hfin := Hid.mk hfin
            clear hx hcell hbs hpd hbit hy hfin hk
            go_wp2
            go_round
            case rel => exact ⟨j + 1, 2 * x + y, k + 1, by omega, by have := Hk.out; omega, by go_num, by go_num, Hfin.out⟩
            case measure => simp [intOf]; omega
          · rw [if_neg (by have := Hci.out; omega)] at hpd
            have k0 : 0 ≤ k := by omega
            have kb : k ≤ 100000000000010 := by omega
            have hfin : 2 * x = ((X / 2 ^ (8 * (M - c) - (j + 1)) % 2 ^ (j + 1) : Nat) : Int) := by rw [hbs, hpd]; omega
            have Hfin := Hid.mk hfin
            clear hx hbs hpd hfin hk
            go_wp2
            go_round
            case rel => exact ⟨j + 1, 2 * x, k + 1, by omega, by have := Hk.out; omega, by go_num, by go_num, Hfin.out⟩
            case measure => simp [intOf]; omega
        · obtain rfl : j = 8 := by omega
          obtain rfl : k = ci + 8 := by omega
          have Hbig := Hid.mk (big_step X M c hcM2)
          clear hx hk
          go_wp2_with (at_builtin; refine wpList_append_own_at _ rfl _ _ 34 rfl 0 5 i0 (.int .u8 0) 1 1 Tryd.underlying34 hi hz0 hz1 hz2 rfl (by decide) _ _ _ rfl (Hown.out.alloc _) ⟨wr.heap.size, 0, none⟩ 1 1 [.int .u8 x] rfl rfl ?c1 ?c2 ?c3 ?c4 ?c5 ?_)
          case c2 => rfl
          case c3 => unfold maxLen; omega
          case c4 => omega
          intro v' w1 hown' hgrow _ hat
          have hk' : Kept [] w w1 := (Hkr.out.alloc _).step (Kept.of_grown hgrow) (fun y hy => by rcases Hlies.out.mem y hy with h | h
                                                                                                  · simp [Value.ownBlock] at h
                                                                                                  · exact .inr h)
          have hl' : Lies w (.slice none 0 0) v' := by
            refine Hlies.out.trans (w1 := wr) ?_ Hkr.out.size
            rcases hat with h | h
            · exact .inl h
            · exact .inr ⟨_, h, by omega⟩
          have ho' : w1.ownsRow 0 5 1 v' (c + 1) ((big (c + 1) (X / 256 ^ (M - (c + 1)))).map byt) := by
            rw [Hbig.out, List.map_append, List.map_singleton, byt, ← Hx.out]
            exact hown'
          have Ho' := Hid.mk ho'
          have Hl' := Hid.mk hl'
          have Hk' := Hid.mk hk'
          clear hown' hgrow hat ho' hl' hk'
          go_wp2
          go_roundw
          case rel => exact ⟨c + 1, ci + 8, by omega, by have := Hci.out; omega, by go_num, Ho'.out, Hl'.out, Hk'.out⟩
          case measure => have := HM.out; have := Hci.out; simp [intOf]; omega
    · have hcM2 : c = M := by omega
      subst hcM2
      clear hown hlies hkr hW hci hm
      go_wp2
      go_ret
      refine ⟨_, rfl, ?_, Hkr.out⟩
      have h := Hown.out
      rw [Nat.sub_self, Nat.pow_zero, Nat.div_one] at h
      exact h
end Go.Proofs.YthhcihcgefeblaaDoor
