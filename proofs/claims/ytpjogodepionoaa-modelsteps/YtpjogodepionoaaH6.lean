import Derived.Test.YtpjogodepionoaaH3
import Derived.KernelRfl
namespace Go.Proofs.Ytpjogodepionoaa
open Go.RowKit

/-- The cells of the first k contexts. -/
def flt (A : Int) : Nat → List Value
  | 0 => []
  | k + 1 => flt A k ++ [.int .i64 A, .int .i64 0, .int .i64 0, .int .i64 1]
theorem flt_len (A : Int) (k : Nat) : (flt A k).length = k * 4 := by
  induction k with
  | zero => rfl
  | succ k ih => simp [flt, ih]; omega
theorem flt_at (A : Int) (k j i : Nat) (hj : j < k) (hi : i < 4) : (flt A k)[j * 4 + i]? = [Value.int .i64 A, .int .i64 0, .int .i64 0, .int .i64 1][i]? := by
  induction k with
  | zero => omega
  | succ k ih =>
    rw [flt]
    by_cases h : j < k
    · rw [List.getElem?_append_left (by rw [flt_len]; omega)]; exact ih h
    · obtain rfl : j = k := by omega
      rw [List.getElem?_append_right (by rw [flt_len]; omega), flt_len]
      congr 1; omega
theorem Try.i77 : ∃ i, Try.prog.info? 77 = some i ∧ i.zero = some (.agg #[.int .i64 0, .int .i64 0, .int .i64 0, .int .i64 0]) ∧ i.size = 4 ∧ i.bytes = 32 := ⟨Try.t77, by kernel_rfl, by kernel_rfl, by kernel_rfl, by kernel_rfl⟩
theorem three {w : World} {B t : Nat} {a b c : Value} (hh : w.heap[B]? = some (.cells #[a, b, c] t (0, 0))) :
    w.cell? ⟨B, 0, none⟩ = some a ∧ w.cell? ⟨B, 1, none⟩ = some b ∧ w.cell? ⟨B, 2, none⟩ = some c := by
  refine ⟨?_, ?_, ?_⟩
  all_goals (rw [cell_of_row _ _ _ _ _ _ hh]; rfl)

theorem cell_four_new (w : World) (a b c d : Value) (t : TypeId) : ∀ j u, [a, b, c, d][j]? = some u → (w.alloc (.cells #[a, b, c, d] t (0, 0))).cell? ((⟨w.heap.size, 0, none⟩ : Addr).add j) = some u := by
  intro j u hj
  have e : (⟨w.heap.size, 0, none⟩ : Addr).add j = ⟨w.heap.size, j, none⟩ := by unfold Addr.add; split <;> simp_all
  rw [e, cell_of_row _ _ _ _ _ _ (heap_alloc_new w _)]
  simpa using hj
theorem own_open {w : World} {B k : Nat} {v : Value} {xs : List Value} (h : w.ownsRow B 77 4 v (k + 1) xs) : ∃ g cap cs, v = .slice (some ⟨g, 0, none⟩) (k + 1) cap ∧ B ≤ g ∧ w.heap[g]? = some (.cells cs 77 (0, 0)) ∧ k + 1 ≤ cap ∧ cs.size = cap * 4 ∧ cs.toList.take ((k + 1) * 4) = xs := by
  rcases h.2 with ⟨_, h0⟩ | ⟨g, cap, cur, h1, h2, h3, h4, h5, h6, h7⟩
  · omega
  · exact ⟨g, cap, cur, h1, h2, h3, h4, h6, h7⟩

set_option maxHeartbeats 8000000 in
set_option maxRecDepth 1000000 in
theorem newD_at (D T d : Int) (w : World) (hD : D = 10 ∧ T = 1023 ∨ D = 12 ∧ T = 4095) (d0 : 0 ≤ d) (d1 : d ≤ 63) : Calls Try.prog 26 #[.int .i64 D, .int .i64 d] w fun e w' => ∃ R g cap, e = .returned (.tuple #[.pointer (some ⟨R, 0, none⟩), .int .i64 0]) ∧ Rd w' R g cap T d (fun _ => sx0 T d) ∧ w.heap.size ≤ R ∧ w.heap.size ≤ g ∧ Kept [] w w' := by
  have G : Gd T d := ⟨by omega, d0, d1⟩
  have ⟨g0, g1⟩ := rg_pos T d G
  have CR := Hid.mk (fun u R (hu : Rh u R T d) => rangeD_any R T d u hu G)
  have HS : Hid (sx0 T d = ⟨max ((rg T d + 32) / 64) 2, 0, 0, 1⟩) := Hid.mk rfl
  have HF : Hid (sx0 T d).Fit := Hid.mk (sx0_fit T d G)
  have HG := Hid.mk G
  generalize sx0 T d = s0 at *
  generalize rg T d = K at *
  clear G
  obtain ⟨i7, hi7, hz7, hs7, hb7⟩ := Try.i77
  have HI := Hid.mk hi7
  have HZ := Hid.mk hz7
  have HN := Hid.mk hs7
  have HY := Hid.mk hb7
  clear hi7 hz7 hs7 hb7
  rcases hD with ⟨rfl, rfl⟩ | ⟨rfl, rfl⟩
  · go_enter Try.func26, Try.ntmps26
    go_wp2_with (fail)
    obtain ⟨w1, hw1, k1, hb1⟩ : ∃ w1, w.alloc (.cells #[.int .i64 10, .int .i64 d, .slice none 0 0] 75 (0, 0)) = w1 ∧ Kept [] w w1 ∧ w1.heap[w.heap.size]? = some (.cells #[.int .i64 10, .int .i64 d, .slice none 0 0] 75 (0, 0)) := ⟨_, rfl, alloc_kept _ _, heap_alloc_new _ _⟩
    rw [hw1]
    clear hw1
    obtain ⟨R, hR⟩ : ∃ R, R = w.heap.size := ⟨_, rfl⟩
    rw [← hR] at hb1 ⊢
    have HR := Hid.mk hR
    clear hR
    have ⟨c0, c1, c2⟩ := three hb1
    refine (CR.out w1 R ⟨.inl ⟨c0, rfl⟩, c1⟩).mono ?_
    rintro e w2 ⟨rfl, m2, hw2⟩
    have HB2 : Hid (w2.heap[R]? = some (.cells #[.int .i64 10, .int .i64 d, .slice none 0 0] 75 (0, 0))) := Hid.mk (by rw [hw2]; exact ((Kept.refl [] w1).drewN m2).heap hb1 (by simp))
    have HK2 : Hid (Kept [] w w2) := Hid.mk (by rw [hw2]; exact k1.drewN m2)
    clear hw2 k1 hb1 c0 c1 c2 CR
    by_cases hA : (K + 32) / 64 < 2
    · have HS2 : Hid (s0 = ⟨2, 0, 0, 1⟩) := Hid.mk (by rw [HS.out, show max ((K + 32) / 64) 2 = 2 by omega])
      go_wp2
      go_loopw [8] (fun i wr => ∃ (k : Nat) (v : Value), k ≤ 365 ∧ i = .int .i64 (k : Int) ∧ wr.heap[R]? = some (.cells #[.int .i64 10, .int .i64 d, v] 75 (0, 0)) ∧ wr.ownsRow w.heap.size 77 4 v k (flt 2 k) ∧ Kept [] w wr ∧ v.ownBlock ≠ some R) (fun i _ => 365 - (intOf i).toNat)
      case atStart => exact ⟨0, .slice none 0 0, by omega, rfl, HB2.out, ⟨rfl, .inl ⟨rfl, rfl⟩⟩, HK2.out, by simp [Value.ownBlock]⟩
      case round =>
        obtain ⟨k, v, hk, rfl, hb, ho, hkw, hne⟩ := hrel
        have HB := Hid.mk hb
        have HO := Hid.mk ho
        have HK := Hid.mk hkw
        have HE := Hid.mk hne
        have ⟨x0, x1, x2⟩ := three hb
        have rl : Hid (R < wr.heap.size) := Hid.mk (lt_of_block hb)
        clear hb ho hkw hne
        by_cases hlt : k < 365
        · have ix : (k : Int) < 365 := by omega
          go_wp2_with (at_builtin; generalize hQQ : wpList _ _ _ _ _ _ = QQ)
          rename_i QQ hQQ
          subst hQQ
          refine wpList_append_own_at _ rfl _ _ _ rfl w.heap.size 77 i7 _ 4 32 Try.underlying73 HI.out HZ.out HN.out HY.out rfl (by decide) v k (flt 2 k) rfl (HO.out.alloc _) ⟨wr.heap.size, 0, none⟩ 1 1 [.int .i64 2, .int .i64 0, .int .i64 0, .int .i64 1] rfl rfl (cell_four_new _ _ _ _ _ _) (by intro u hu; simp at hu; rcases hu with rfl | rfl | rfl <;> rfl) (by unfold maxLen; omega) (by omega) (by have := HK.out.size; simp; omega) ?_
          intro v' w5 ho5 hg5 hn5 ha5
          have kk5 := Kept.of_grown hg5
          have hR5 : R ∉ v.ownBlock.toList := by
            intro hm; simp at hm; exact HE.out hm
          have hb5 := Hid.mk (kk5.heap ((alloc_kept wr _).heap HB.out (by simp)) hR5)
          have HK5 : Hid (Kept [] w w5) := Hid.mk ((HK.out.alloc _).step kk5 (fun x hx => by
            rcases HO.out.2 with ⟨rfl, _⟩ | ⟨g2, c2, cu2, rfl, hg2, _⟩
            · simp [Value.ownBlock] at hx
            · simp [Value.ownBlock] at hx; subst hx; exact .inr hg2))
          have HE5 : Hid (v'.ownBlock ≠ some R) := Hid.mk (by
            rcases ha5 with h | h
            · rw [h]; exact HE.out
            · rw [h]; have := rl.out; simp; omega)
          have HO5 := Hid.mk ho5
          obtain ⟨g5, cap5, cs5, rfl, -⟩ := own_open ho5
          have y2 := (three hb5.out).2.2
          have fz := frozen_of_row w5 R 2 _ 75 hb5.out
          clear ho5 hg5 hn5 ha5 kk5 hR5
          go_wp2
          go_roundw
          case rel =>
            refine ⟨k + 1, .slice (some ⟨g5, 0, none⟩) (k + 1) cap5, by omega, by go_num, heap_setCell_at hb5.out, ?_, HK5.out.setCell (p := ⟨R, 2, none⟩) (.inr (by have := HR.out; show _ ≤ R; omega)) _, HE5.out⟩
            exact ((Kept.refl [R] w5).setCell (p := ⟨R, 2, none⟩) (.inl (by simp)) _).row HO5.out (fun g hg hm => by simp at hm; subst hm; exact HE5.out hg)
          case measure => simp [intOf]; omega
        · obtain rfl : k = 365 := by omega
          obtain ⟨g5, cap5, cs5, rfl, hg5, hh5, hc5, hz5, ht5⟩ := own_open (k := 364) HO.out
          have hRg : R ≠ g5 := fun e => HE.out (by rw [e]; rfl)
          go_wp2
          go_ret2
          refine ⟨R, g5, cap5, rfl, ⟨HG.out, ⟨.inl ⟨x0, rfl⟩, x1⟩, x2, ⟨cs5, hh5, by omega⟩, ?_, fun _ => HF.out, hRg⟩, by have := HR.out; omega, hg5, HK.out⟩
          intro j hj
          have at_ : ∀ i, i < 4 → wr.cell? ⟨g5, j * 4 + i, none⟩ = [Value.int .i64 2, .int .i64 0, .int .i64 0, .int .i64 1][i]? := fun i hi => by
            rw [cell_of_row _ _ _ _ _ _ hh5, ← flt_at 2 365 j i hj hi, ← ht5, List.getElem?_take_of_lt (by omega)]
            simp
          rw [HS2.out]
          exact ⟨at_ 0 (by omega), at_ 1 (by omega), at_ 2 (by omega), at_ 3 (by omega)⟩
    · have HS2 : Hid (s0 = ⟨(K + 32) / 64, 0, 0, 1⟩) := Hid.mk (by rw [HS.out, show max ((K + 32) / 64) 2 = (K + 32) / 64 by omega])
      have hA2 : (K + 32) / 64 ≤ 100 := by omega
      go_wp2
      go_loopw [8] (fun i wr => ∃ (k : Nat) (v : Value), k ≤ 365 ∧ i = .int .i64 (k : Int) ∧ wr.heap[R]? = some (.cells #[.int .i64 10, .int .i64 d, v] 75 (0, 0)) ∧ wr.ownsRow w.heap.size 77 4 v k (flt ((K + 32) / 64) k) ∧ Kept [] w wr ∧ v.ownBlock ≠ some R) (fun i _ => 365 - (intOf i).toNat)
      case atStart => exact ⟨0, .slice none 0 0, by omega, rfl, HB2.out, ⟨rfl, .inl ⟨rfl, rfl⟩⟩, HK2.out, by simp [Value.ownBlock]⟩
      case round =>
        obtain ⟨k, v, hk, rfl, hb, ho, hkw, hne⟩ := hrel
        have HB := Hid.mk hb
        have HO := Hid.mk ho
        have HK := Hid.mk hkw
        have HE := Hid.mk hne
        have ⟨x0, x1, x2⟩ := three hb
        have rl : Hid (R < wr.heap.size) := Hid.mk (lt_of_block hb)
        clear hb ho hkw hne
        by_cases hlt : k < 365
        · have ix : (k : Int) < 365 := by omega
          go_wp2_with (at_builtin; generalize hQQ : wpList _ _ _ _ _ _ = QQ)
          rename_i QQ hQQ
          subst hQQ
          refine wpList_append_own_at _ rfl _ _ _ rfl w.heap.size 77 i7 _ 4 32 Try.underlying73 HI.out HZ.out HN.out HY.out rfl (by decide) v k (flt ((K + 32) / 64) k) rfl (HO.out.alloc _) ⟨wr.heap.size, 0, none⟩ 1 1 [.int .i64 ((K + 32) / 64), .int .i64 0, .int .i64 0, .int .i64 1] rfl rfl (cell_four_new _ _ _ _ _ _) (by intro u hu; simp at hu; rcases hu with rfl | rfl | rfl <;> rfl) (by unfold maxLen; omega) (by omega) (by have := HK.out.size; simp; omega) ?_
          intro v' w5 ho5 hg5 hn5 ha5
          have kk5 := Kept.of_grown hg5
          have hR5 : R ∉ v.ownBlock.toList := by
            intro hm; simp at hm; exact HE.out hm
          have hb5 := Hid.mk (kk5.heap ((alloc_kept wr _).heap HB.out (by simp)) hR5)
          have HK5 : Hid (Kept [] w w5) := Hid.mk ((HK.out.alloc _).step kk5 (fun x hx => by
            rcases HO.out.2 with ⟨rfl, _⟩ | ⟨g2, c2, cu2, rfl, hg2, _⟩
            · simp [Value.ownBlock] at hx
            · simp [Value.ownBlock] at hx; subst hx; exact .inr hg2))
          have HE5 : Hid (v'.ownBlock ≠ some R) := Hid.mk (by
            rcases ha5 with h | h
            · rw [h]; exact HE.out
            · rw [h]; have := rl.out; simp; omega)
          have HO5 := Hid.mk ho5
          obtain ⟨g5, cap5, cs5, rfl, -⟩ := own_open ho5
          have y2 := (three hb5.out).2.2
          have fz := frozen_of_row w5 R 2 _ 75 hb5.out
          clear ho5 hg5 hn5 ha5 kk5 hR5
          go_wp2
          go_roundw
          case rel =>
            refine ⟨k + 1, .slice (some ⟨g5, 0, none⟩) (k + 1) cap5, by omega, by go_num, heap_setCell_at hb5.out, ?_, HK5.out.setCell (p := ⟨R, 2, none⟩) (.inr (by have := HR.out; show _ ≤ R; omega)) _, HE5.out⟩
            exact ((Kept.refl [R] w5).setCell (p := ⟨R, 2, none⟩) (.inl (by simp)) _).row HO5.out (fun g hg hm => by simp at hm; subst hm; exact HE5.out hg)
          case measure => simp [intOf]; omega
        · obtain rfl : k = 365 := by omega
          obtain ⟨g5, cap5, cs5, rfl, hg5, hh5, hc5, hz5, ht5⟩ := own_open (k := 364) HO.out
          have hRg : R ≠ g5 := fun e => HE.out (by rw [e]; rfl)
          go_wp2
          go_ret2
          refine ⟨R, g5, cap5, rfl, ⟨HG.out, ⟨.inl ⟨x0, rfl⟩, x1⟩, x2, ⟨cs5, hh5, by omega⟩, ?_, fun _ => HF.out, hRg⟩, by have := HR.out; omega, hg5, HK.out⟩
          intro j hj
          have at_ : ∀ i, i < 4 → wr.cell? ⟨g5, j * 4 + i, none⟩ = [Value.int .i64 ((K + 32) / 64), .int .i64 0, .int .i64 0, .int .i64 1][i]? := fun i hi => by
            rw [cell_of_row _ _ _ _ _ _ hh5, ← flt_at ((K + 32) / 64) 365 j i hj hi, ← ht5, List.getElem?_take_of_lt (by omega)]
            simp
          rw [HS2.out]
          exact ⟨at_ 0 (by omega), at_ 1 (by omega), at_ 2 (by omega), at_ 3 (by omega)⟩
  · go_enter Try.func26, Try.ntmps26
    go_wp2_with (fail)
    obtain ⟨w1, hw1, k1, hb1⟩ : ∃ w1, w.alloc (.cells #[.int .i64 12, .int .i64 d, .slice none 0 0] 75 (0, 0)) = w1 ∧ Kept [] w w1 ∧ w1.heap[w.heap.size]? = some (.cells #[.int .i64 12, .int .i64 d, .slice none 0 0] 75 (0, 0)) := ⟨_, rfl, alloc_kept _ _, heap_alloc_new _ _⟩
    rw [hw1]
    clear hw1
    obtain ⟨R, hR⟩ : ∃ R, R = w.heap.size := ⟨_, rfl⟩
    rw [← hR] at hb1 ⊢
    have HR := Hid.mk hR
    clear hR
    have ⟨c0, c1, c2⟩ := three hb1
    refine (CR.out w1 R ⟨.inr ⟨c0, rfl⟩, c1⟩).mono ?_
    rintro e w2 ⟨rfl, m2, hw2⟩
    have HB2 : Hid (w2.heap[R]? = some (.cells #[.int .i64 12, .int .i64 d, .slice none 0 0] 75 (0, 0))) := Hid.mk (by rw [hw2]; exact ((Kept.refl [] w1).drewN m2).heap hb1 (by simp))
    have HK2 : Hid (Kept [] w w2) := Hid.mk (by rw [hw2]; exact k1.drewN m2)
    clear hw2 k1 hb1 c0 c1 c2 CR
    by_cases hA : (K + 32) / 64 < 2
    · have HS2 : Hid (s0 = ⟨2, 0, 0, 1⟩) := Hid.mk (by rw [HS.out, show max ((K + 32) / 64) 2 = 2 by omega])
      go_wp2
      go_loopw [8] (fun i wr => ∃ (k : Nat) (v : Value), k ≤ 365 ∧ i = .int .i64 (k : Int) ∧ wr.heap[R]? = some (.cells #[.int .i64 12, .int .i64 d, v] 75 (0, 0)) ∧ wr.ownsRow w.heap.size 77 4 v k (flt 2 k) ∧ Kept [] w wr ∧ v.ownBlock ≠ some R) (fun i _ => 365 - (intOf i).toNat)
      case atStart => exact ⟨0, .slice none 0 0, by omega, rfl, HB2.out, ⟨rfl, .inl ⟨rfl, rfl⟩⟩, HK2.out, by simp [Value.ownBlock]⟩
      case round =>
        obtain ⟨k, v, hk, rfl, hb, ho, hkw, hne⟩ := hrel
        have HB := Hid.mk hb
        have HO := Hid.mk ho
        have HK := Hid.mk hkw
        have HE := Hid.mk hne
        have ⟨x0, x1, x2⟩ := three hb
        have rl : Hid (R < wr.heap.size) := Hid.mk (lt_of_block hb)
        clear hb ho hkw hne
        by_cases hlt : k < 365
        · have ix : (k : Int) < 365 := by omega
          go_wp2_with (at_builtin; generalize hQQ : wpList _ _ _ _ _ _ = QQ)
          rename_i QQ hQQ
          subst hQQ
          refine wpList_append_own_at _ rfl _ _ _ rfl w.heap.size 77 i7 _ 4 32 Try.underlying73 HI.out HZ.out HN.out HY.out rfl (by decide) v k (flt 2 k) rfl (HO.out.alloc _) ⟨wr.heap.size, 0, none⟩ 1 1 [.int .i64 2, .int .i64 0, .int .i64 0, .int .i64 1] rfl rfl (cell_four_new _ _ _ _ _ _) (by intro u hu; simp at hu; rcases hu with rfl | rfl | rfl <;> rfl) (by unfold maxLen; omega) (by omega) (by have := HK.out.size; simp; omega) ?_
          intro v' w5 ho5 hg5 hn5 ha5
          have kk5 := Kept.of_grown hg5
          have hR5 : R ∉ v.ownBlock.toList := by
            intro hm; simp at hm; exact HE.out hm
          have hb5 := Hid.mk (kk5.heap ((alloc_kept wr _).heap HB.out (by simp)) hR5)
          have HK5 : Hid (Kept [] w w5) := Hid.mk ((HK.out.alloc _).step kk5 (fun x hx => by
            rcases HO.out.2 with ⟨rfl, _⟩ | ⟨g2, c2, cu2, rfl, hg2, _⟩
            · simp [Value.ownBlock] at hx
            · simp [Value.ownBlock] at hx; subst hx; exact .inr hg2))
          have HE5 : Hid (v'.ownBlock ≠ some R) := Hid.mk (by
            rcases ha5 with h | h
            · rw [h]; exact HE.out
            · rw [h]; have := rl.out; simp; omega)
          have HO5 := Hid.mk ho5
          obtain ⟨g5, cap5, cs5, rfl, -⟩ := own_open ho5
          have y2 := (three hb5.out).2.2
          have fz := frozen_of_row w5 R 2 _ 75 hb5.out
          clear ho5 hg5 hn5 ha5 kk5 hR5
          go_wp2
          go_roundw
          case rel =>
            refine ⟨k + 1, .slice (some ⟨g5, 0, none⟩) (k + 1) cap5, by omega, by go_num, heap_setCell_at hb5.out, ?_, HK5.out.setCell (p := ⟨R, 2, none⟩) (.inr (by have := HR.out; show _ ≤ R; omega)) _, HE5.out⟩
            exact ((Kept.refl [R] w5).setCell (p := ⟨R, 2, none⟩) (.inl (by simp)) _).row HO5.out (fun g hg hm => by simp at hm; subst hm; exact HE5.out hg)
          case measure => simp [intOf]; omega
        · obtain rfl : k = 365 := by omega
          obtain ⟨g5, cap5, cs5, rfl, hg5, hh5, hc5, hz5, ht5⟩ := own_open (k := 364) HO.out
          have hRg : R ≠ g5 := fun e => HE.out (by rw [e]; rfl)
          go_wp2
          go_ret2
          refine ⟨R, g5, cap5, rfl, ⟨HG.out, ⟨.inr ⟨x0, rfl⟩, x1⟩, x2, ⟨cs5, hh5, by omega⟩, ?_, fun _ => HF.out, hRg⟩, by have := HR.out; omega, hg5, HK.out⟩
          intro j hj
          have at_ : ∀ i, i < 4 → wr.cell? ⟨g5, j * 4 + i, none⟩ = [Value.int .i64 2, .int .i64 0, .int .i64 0, .int .i64 1][i]? := fun i hi => by
            rw [cell_of_row _ _ _ _ _ _ hh5, ← flt_at 2 365 j i hj hi, ← ht5, List.getElem?_take_of_lt (by omega)]
            simp
          rw [HS2.out]
          exact ⟨at_ 0 (by omega), at_ 1 (by omega), at_ 2 (by omega), at_ 3 (by omega)⟩
    · have HS2 : Hid (s0 = ⟨(K + 32) / 64, 0, 0, 1⟩) := Hid.mk (by rw [HS.out, show max ((K + 32) / 64) 2 = (K + 32) / 64 by omega])
      have hA2 : (K + 32) / 64 ≤ 100 := by omega
      go_wp2
      go_loopw [8] (fun i wr => ∃ (k : Nat) (v : Value), k ≤ 365 ∧ i = .int .i64 (k : Int) ∧ wr.heap[R]? = some (.cells #[.int .i64 12, .int .i64 d, v] 75 (0, 0)) ∧ wr.ownsRow w.heap.size 77 4 v k (flt ((K + 32) / 64) k) ∧ Kept [] w wr ∧ v.ownBlock ≠ some R) (fun i _ => 365 - (intOf i).toNat)
      case atStart => exact ⟨0, .slice none 0 0, by omega, rfl, HB2.out, ⟨rfl, .inl ⟨rfl, rfl⟩⟩, HK2.out, by simp [Value.ownBlock]⟩
      case round =>
        obtain ⟨k, v, hk, rfl, hb, ho, hkw, hne⟩ := hrel
        have HB := Hid.mk hb
        have HO := Hid.mk ho
        have HK := Hid.mk hkw
        have HE := Hid.mk hne
        have ⟨x0, x1, x2⟩ := three hb
        have rl : Hid (R < wr.heap.size) := Hid.mk (lt_of_block hb)
        clear hb ho hkw hne
        by_cases hlt : k < 365
        · have ix : (k : Int) < 365 := by omega
          go_wp2_with (at_builtin; generalize hQQ : wpList _ _ _ _ _ _ = QQ)
          rename_i QQ hQQ
          subst hQQ
          refine wpList_append_own_at _ rfl _ _ _ rfl w.heap.size 77 i7 _ 4 32 Try.underlying73 HI.out HZ.out HN.out HY.out rfl (by decide) v k (flt ((K + 32) / 64) k) rfl (HO.out.alloc _) ⟨wr.heap.size, 0, none⟩ 1 1 [.int .i64 ((K + 32) / 64), .int .i64 0, .int .i64 0, .int .i64 1] rfl rfl (cell_four_new _ _ _ _ _ _) (by intro u hu; simp at hu; rcases hu with rfl | rfl | rfl <;> rfl) (by unfold maxLen; omega) (by omega) (by have := HK.out.size; simp; omega) ?_
          intro v' w5 ho5 hg5 hn5 ha5
          have kk5 := Kept.of_grown hg5
          have hR5 : R ∉ v.ownBlock.toList := by
            intro hm; simp at hm; exact HE.out hm
          have hb5 := Hid.mk (kk5.heap ((alloc_kept wr _).heap HB.out (by simp)) hR5)
          have HK5 : Hid (Kept [] w w5) := Hid.mk ((HK.out.alloc _).step kk5 (fun x hx => by
            rcases HO.out.2 with ⟨rfl, _⟩ | ⟨g2, c2, cu2, rfl, hg2, _⟩
            · simp [Value.ownBlock] at hx
            · simp [Value.ownBlock] at hx; subst hx; exact .inr hg2))
          have HE5 : Hid (v'.ownBlock ≠ some R) := Hid.mk (by
            rcases ha5 with h | h
            · rw [h]; exact HE.out
            · rw [h]; have := rl.out; simp; omega)
          have HO5 := Hid.mk ho5
          obtain ⟨g5, cap5, cs5, rfl, -⟩ := own_open ho5
          have y2 := (three hb5.out).2.2
          have fz := frozen_of_row w5 R 2 _ 75 hb5.out
          clear ho5 hg5 hn5 ha5 kk5 hR5
          go_wp2
          go_roundw
          case rel =>
            refine ⟨k + 1, .slice (some ⟨g5, 0, none⟩) (k + 1) cap5, by omega, by go_num, heap_setCell_at hb5.out, ?_, HK5.out.setCell (p := ⟨R, 2, none⟩) (.inr (by have := HR.out; show _ ≤ R; omega)) _, HE5.out⟩
            exact ((Kept.refl [R] w5).setCell (p := ⟨R, 2, none⟩) (.inl (by simp)) _).row HO5.out (fun g hg hm => by simp at hm; subst hm; exact HE5.out hg)
          case measure => simp [intOf]; omega
        · obtain rfl : k = 365 := by omega
          obtain ⟨g5, cap5, cs5, rfl, hg5, hh5, hc5, hz5, ht5⟩ := own_open (k := 364) HO.out
          have hRg : R ≠ g5 := fun e => HE.out (by rw [e]; rfl)
          go_wp2
          go_ret2
          refine ⟨R, g5, cap5, rfl, ⟨HG.out, ⟨.inr ⟨x0, rfl⟩, x1⟩, x2, ⟨cs5, hh5, by omega⟩, ?_, fun _ => HF.out, hRg⟩, by have := HR.out; omega, hg5, HK.out⟩
          intro j hj
          have at_ : ∀ i, i < 4 → wr.cell? ⟨g5, j * 4 + i, none⟩ = [Value.int .i64 ((K + 32) / 64), .int .i64 0, .int .i64 0, .int .i64 1][i]? := fun i hi => by
            rw [cell_of_row _ _ _ _ _ _ hh5, ← flt_at ((K + 32) / 64) 365 j i hj hi, ← ht5, List.getElem?_take_of_lt (by omega)]
            simp
          rw [HS2.out]
          exact ⟨at_ 0 (by omega), at_ 1 (by omega), at_ 2 (by omega), at_ 3 (by omega)⟩

end Go.Proofs.Ytpjogodepionoaa
