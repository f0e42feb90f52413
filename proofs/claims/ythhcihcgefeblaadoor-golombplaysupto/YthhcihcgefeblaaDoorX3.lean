import Derived.Test.YthhcihcgefeblaaDoorX1
namespace Go.Proofs.YthhcihcgefeblaaDoor
open Go.RowKit

/-- The document's reader: all its bits, and how many were taken. -/
def RefR (w : World) (B : Nat) (V : Value) (l : List Nat) (t : Nat) : Prop :=
  w.heap[B]? = some (.cells #[V, .int .i64 (t : Int)] 103 (0, 0)) ∧ w.ownsRow 0 5 1 V (8 * l.length) ((bin (8 * l.length) (num l)).map byt)

theorem refr_new {w wr w1 w2 : World} {B m : Nat} {V1 V2 T : Value} {xs : List Value} (hB : wr.heap[B]? = some (.cells #[V1, T] 103 (0, 0))) (hBn : w.heap.size ≤ B) (hV1 : V1.ownBlock ≠ some B) (hk : Kept [] w wr) (hL : Lies w (.slice none 0 0) V1)
    (hk1 : Kept [] wr w1) (hg : w1.grownBy w2 V1.ownBlock) (ho : w2.ownsRow 0 5 1 V2 m xs) (hat : V2.ownBlock = V1.ownBlock ∨ V2.ownBlock = some w1.heap.size) :
    (w2.setCell ⟨B, 0, none⟩ V2).heap[B]? = some (.cells #[V2, T] 103 (0, 0)) ∧ (w2.setCell ⟨B, 0, none⟩ V2).ownsRow 0 5 1 V2 m xs ∧ Kept [] w (w2.setCell ⟨B, 0, none⟩ V2) ∧ Lies w (.slice none 0 0) V2 := by
  have h1 := hk1.heap hB (by simp)
  have h2 := (Kept.of_grown hg).heap h1 (by rw [mem_own]; exact hV1)
  have s1 := hk1.size
  have hne : V2.ownBlock ≠ some B := own_ne2 h2 (by decide) ho
  refine ⟨by rw [heap_setCell_at h2]; simp, ownsRow_setCell_other ho hne _, ?_, ?_⟩
  · refine Kept.setCell (p := ⟨B, 0, none⟩) ?_ (by simp; omega) _
    refine (hk.step hk1 (by simp)).step (Kept.of_grown hg) (fun x hx => ?_)
    rcases hL.mem x hx with h | h
    · simp [Value.ownBlock] at h
    · exact .inr h
  · refine hL.trans (w1 := wr) ?_ hk.size
    rcases hat with h | h
    · exact .inl h
    · exact .inr ⟨_, h, s1⟩

theorem k_pow (j : Nat) (h : j < 8) : 128 / 2 ^ j = 2 ^ (7 - j) := by
  match j, h with
  | 0, _ => rfl
  | 1, _ => rfl
  | 2, _ => rfl
  | 3, _ => rfl
  | 4, _ => rfl
  | 5, _ => rfl
  | 6, _ => rfl
  | 7, _ => rfl

theorem k_half (j : Nat) : 128 / 2 ^ j / 2 = 128 / 2 ^ (j + 1) := by rw [Nat.div_div_eq_div_mul, Nat.pow_succ]

theorem byte_val (y X2 : Int) (b c : Nat) (hy : y = (b : Int)) (hb : b < 256) (hX : X2 = ((2 ^ c : Nat) : Int)) :
    Value.int .u8 (IntKind.u8.wrap ((IntKind.i64.wrap ((IntKind.i64.wrap y).tdiv X2)).tmod 2)) = byt (b / 2 ^ c % 2) := by
  have hp := Nat.two_pow_pos c
  have e1 : IntKind.i64.wrap y = y := by rw [IntKind.wrap_i64]; omega
  have e2 : y.tdiv X2 = ((b / 2 ^ c : Nat) : Int) := by
    rw [Int.tdiv_eq_ediv_of_nonneg (by omega), hX, hy, Int.natCast_ediv]
  have e3 : b / 2 ^ c ≤ b := Nat.div_le_self _ _
  rw [e1, e2]
  generalize b / 2 ^ c = z at *
  have e4 : IntKind.i64.wrap (z : Int) = z := by rw [IntKind.wrap_i64]; omega
  rw [e4, Int.tmod_eq_emod_of_nonneg (by omega), IntKind.wrap_u8, byt]
  congr 1
  omega

/-- One digit more of a byte. -/
theorem read_digit (i j T b : Nat) (hj : j < 8) : bin (8 * i + (j + 1)) (T * 2 ^ (j + 1) + b / 2 ^ (8 - (j + 1))) = bin (8 * i + j) (T * 2 ^ j + b / 2 ^ (8 - j)) ++ [b / 2 ^ (7 - j) % 2] := by
  rw [← Nat.add_assoc, bin]
  have e1 : b / 2 ^ (8 - j) = b / 2 ^ (8 - (j + 1)) / 2 := by
    rw [Nat.div_div_eq_div_mul, ← Nat.pow_succ, show (8 - (j + 1)).succ = 8 - j by omega]
  have e2 : 8 - (j + 1) = 7 - j := by omega
  rw [e1, e2, Nat.pow_succ, ← Nat.mul_assoc]
  generalize b / 2 ^ (7 - j) = y
  generalize T * 2 ^ j = z
  rw [show (z * 2 + y) / 2 = z + y / 2 by omega, show (z * 2 + y) % 2 = y % 2 by omega]

theorem read_start (i T b : Nat) (hb : b < 256) : bin (8 * i + 0) (T * 2 ^ 0 + b / 2 ^ (8 - 0)) = bin (8 * i) T := by
  have : b / 2 ^ (8 - 0) = 0 := Nat.div_eq_of_lt (by simpa using hb)
  rw [this]; simp

theorem read_end (l : List Nat) (i : Nat) (hi : i < l.length) : bin (8 * i + 8) (num (l.take i) * 2 ^ 8 + l.getD i 0 / 2 ^ (8 - 8)) = bin (8 * (i + 1)) (num (l.take (i + 1))) := by
  rw [num_take_succ l i hi]
  simp [Nat.mul_add]

set_option maxHeartbeats 2000000 in
set_option maxRecDepth 1000000 in
theorem refNewReader_any (ao : Option Addr) (cap m : Nat) (l : List Nat) (w : World) (hr : Reads w ao l) (hb : Byts l) (hm : l.length = m) (hl : m ≤ 10000000000000) :
    Calls Tryd.prog 34 #[.slice ao m cap] w fun e w' => e = .returned (.pointer (some ⟨w.heap.size, 0, none⟩)) ∧ ∃ V, RefR w' w.heap.size V l 0 ∧ Lies w (.slice none 0 0) V ∧ Kept [] w w' := by
  obtain ⟨i0, hi, hz0, hz1, hz2⟩ := info_parts Tryd.info5
  have Hr := Hid.mk hr
  have Hm := Hid.mk hm
  have Hb := Hid.mk hb
  have H0 := Hid.mk (heap_alloc_new w (.cells #[.slice none 0 0, .int .i64 0] 103))
  have HK := Hid.mk ((Kept.refl [] w).alloc (.cells #[.slice none 0 0, .int .i64 0] 103))
  clear hr hm hb
  go_enter Tryd.func34, Tryd.ntmps34
  go_wp2
  generalize w.alloc (.cells #[.slice none 0 0, .int .i64 0] 103) = wa at *
  go_loopw [4, 5] (fun s4 s5 wr => ∃ (i : Nat) (V1 : Value), i ≤ m ∧ s4 = .int .i64 i ∧ wr.heap[w.heap.size]? = some (.cells #[V1, .int .i64 0] 103 (0, 0)) ∧ wr.ownsRow 0 5 1 V1 (8 * i) ((bin (8 * i) (num (l.take i))).map byt) ∧ Lies w (.slice none 0 0) V1 ∧ Kept [] w wr) (fun s4 _ _ => m - (intOf s4).toNat)
  case atStart => exact ⟨0, .slice none 0 0, Nat.zero_le _, rfl, H0.out, by simpa [bin] using World.ownsRow_nil _ _ _ _, Lies.refl _ _, HK.out⟩
  case round =>
    obtain ⟨i, V1, him, rfl, hbox, hown, hlies, hkr⟩ := hrel
    have Hbox := Hid.mk hbox
    have Hown := Hid.mk hown
    have Hlies := Hid.mk hlies
    have Hkr := Hid.mk hkr
    clear hbox hown hlies hkr
    by_cases hlt : i < m
    · have hil : i < l.length := by have := Hm.out; omega
      obtain ⟨b, hbd⟩ : ∃ b, b = l.getD i 0 := ⟨_, rfl⟩
      have hb256 : b < 256 := by rw [hbd]; exact getD_lt l i Hb.out
      obtain ⟨T, hT⟩ : ∃ T, T = num (l.take i) := ⟨_, rfl⟩
      have Hend := Hid.mk (read_end l i hil)
      have Hst := Hid.mk (read_start i T b hb256)
      rw [← hbd, ← hT] at Hend
      rw [← hT] at Hown
      have hsrc : ∃ g off, ao = some ⟨g, off, none⟩ ∧ w.cell? ⟨g, off + i, none⟩ = some (byt b) := by
        rcases Hr.out with h | ⟨g, off, h, hc⟩
        · rw [h] at hil; simp at hil
        · exact ⟨g, off, h, by rw [hbd]; exact hc i hil⟩
      obtain ⟨g, off, rfl, hsrc⟩ := hsrc
      have Hsrc := Hid.mk hsrc
      have Hbd := Hid.mk hbd
      clear hsrc hbd hT hil
      go_wp2
      go_loopw [5] (fun s5 wx => ∃ (j : Nat) (kk : Int) (V2 : Value), j ≤ 8 ∧ kk = ((128 / 2 ^ j : Nat) : Int) ∧ s5 = .int .i64 kk ∧ wx.heap[w.heap.size]? = some (.cells #[V2, .int .i64 0] 103 (0, 0)) ∧ wx.ownsRow 0 5 1 V2 (8 * i + j) ((bin (8 * i + j) (T * 2 ^ j + b / 2 ^ (8 - j))).map byt) ∧ Lies w (.slice none 0 0) V2 ∧ Kept [] w wx) (fun s5 _ => (intOf s5).toNat)
      case atStart => exact ⟨0, 128, V1, by omega, rfl, rfl, Hbox.out, by rw [Hst.out]; exact Hown.out, Hlies.out, Hkr.out⟩
      case round =>
        obtain ⟨j, kk, V2, hj, hkk, rfl, hbox2, hown2, hlies2, hkx⟩ := hrel
        have Hbox2 := Hid.mk hbox2
        have Hown2 := Hid.mk hown2
        have Hlies2 := Hid.mk hlies2
        have Hkx := Hid.mk hkx
        have Hkk := Hid.mk hkk
        by_cases hj8 : j < 8
        · obtain ⟨n2, hn2⟩ : ∃ n2, n2 = 8 * i + j := ⟨_, rfl⟩
          rw [← hn2] at hown2
          obtain ⟨ao2, cap2, rfl⟩ := row_form hown2
          rw [k_pow j hj8] at hkk
          have hkp : 1 ≤ kk := by have := Nat.two_pow_pos (7 - j); omega
          have hkp0 : 0 < kk := by omega
          have hk128 : kk ≤ 128 := by have h9 := Hkk.out; have : 128 / 2 ^ j ≤ 128 := Nat.div_le_self _ _; omega
          have hkz : ¬ kk = 0 := by omega
          have hhalf : kk / 2 = ((128 / 2 ^ (j + 1) : Nat) : Int) := by rw [← k_half j]; have := Hkk.out; omega
          obtain ⟨y, hy⟩ : ∃ y : Int, y = (b : Int) := ⟨_, rfl⟩
          have hglt := World.block_lt_of_cell? w _ Hsrc.out
          have hcell : wr.cell? ⟨g, off + i, none⟩ = some (.int .u8 y) := by
            rw [World.cell?_of_block (w := w) (a := ⟨g, off + i, none⟩) (hkx.block g hglt (by simp)), Hsrc.out, hy]; rfl
          have hsz := hkx.size
          have hg1 : ¬ g = wr.heap.size := by simp at hglt; omega
          have hg2 : ¬ wr.heap.size = g := by omega
          obtain ⟨c0, _, fz⟩ := cells_two hbox2
          have c1 := fz 0
          have hne := own_ne2 hbox2 (by decide) hown2
          have hBl := lt_of_block hbox2
          have hB2 : ¬ w.heap.size = wr.heap.size := by omega
          have hB3 : ¬ wr.heap.size = w.heap.size := by omega
          have hn2b : n2 ≤ 140737488355320 := by omega
          have Hdig := Hid.mk (byte_val y kk b (7 - j) hy hb256 hkk)
          have Hnew := Hid.mk (read_digit i j T b hj8)
          have Hown3 := Hid.mk hown2
          have Hne := Hid.mk hne
          have Hn2 := Hid.mk hn2
          have Hhalf := Hid.mk hhalf
          clear hbox2 hown2 hlies2 hkx hkk hhalf hn2 hne fz hglt hsz hy
          go_wp2
          go_region_law (first | (refine step_own _ (by rfl) (.tmp 22) (.tmp 32) 34 (by rfl) 0 5 i0 (.int .u8 0) 1 1 Tryd.underlying34 hi hz0 hz1 hz2 rfl (by decide) _ _ _ (by rfl) ((Hown3.out.alloc _).drew) ⟨wr.heap.size, 0, none⟩ 1 1 [.int .u8 (IntKind.u8.wrap ((IntKind.i64.wrap ((IntKind.i64.wrap y).tdiv kk)).tmod 2))] (by rfl) (by rfl) (cell_one_new _ _ _) (by intro u hu; simp at hu; subst hu; rfl) (by unfold maxLen; omega) (by omega) (Nat.zero_le _) ?_; intro ao4 cp4 w4 ho4 hg4 ha4; have hB4 := (Kept.of_grown hg4).heap ((((Kept.refl [] wr).alloc _).drew).heap Hbox2.out (by simp)) (by rw [mem_own]; exact Hne.out); have q0 := (cells_two hB4).1; have q1 := (cells_two hB4).2.2 0))
          all_goals go_wp2
          all_goals go_roundw
          all_goals first
            | (have P := refr_new Hbox2.out (Nat.le_refl _) Hne.out Hkx.out Hlies2.out (((Kept.refl [] wr).alloc _).drew) hg4 ho4 ha4
               refine ⟨j + 1, kk / 2, _, by omega, Hhalf.out, by go_num, P.1, ?_, P.2.2.2, P.2.2.1⟩
               rw [Hnew.out, List.map_append, List.map_singleton, ← Hdig.out, ← Nat.add_assoc, ← Hn2.out]
               exact P.2.1)
            | (simp [intOf]; omega)
        · obtain rfl : j = 8 := by omega
          obtain rfl : kk = 0 := by rw [hkk]; rfl
          clear hbox2 hown2 hlies2 hkx hkk
          go_wp2
          go_roundw
          case rel => exact ⟨i + 1, V2, by omega, by go_num, Hbox2.out, by rw [← Hend.out]; exact Hown2.out, Hlies2.out, Hkx.out⟩
          case measure => simp [intOf]; omega
    · obtain rfl : i = m := by omega
      go_wp2
      go_ret
      refine ⟨rfl, V1, ⟨Hbox.out, ?_⟩, Hlies.out, Hkr.out⟩
      have h := Hown.out
      rw [← Hm.out, List.take_length] at h
      exact h
end Go.Proofs.YthhcihcgefeblaaDoor
