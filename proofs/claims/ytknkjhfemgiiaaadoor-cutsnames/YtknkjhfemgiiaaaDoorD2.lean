import Derived.Test.YtknkjhfemgiiaaaDoorD1
import Derived.WalkSmall
namespace Go.Proofs.YtknkjhfemgiiaaaDoor
open Go.RowKit Go.Lib

/-- A text's byte. -/
def bt (s : ByteArray) (i : Nat) : Int := if h : i < s.size then ((s[i]'h).toNat : Int) else 0
/-- At this place a text is as a name's must be. -/
def Ok (l : Int) (s : ByteArray) (i : Nat) : Prop := i < 11 ∧ i < s.size ∧ okc l i (bt s i) = true
/-- A text has a name's form. -/
def Gd (l : Int) (s : ByteArray) : Prop := s.size = 11 ∧ ∀ i, i < 11 → Ok l s i
/-- It has not, from this place on. -/
def Bd (l : Int) (s : ByteArray) (k : Nat) : Prop := (∀ i, i < k → Ok l s i) ∧ ¬ Ok l s k ∧ ¬ (k = 11 ∧ s.size = 11)
/-- A field of a name of which k bytes were read. -/
def fv (s : ByteArray) (k j : Nat) : Int := if k ≤ 3 * j then 0 else if k = 3 * j + 1 then bt s (3 * j) - 48 else 10 * (bt s (3 * j) - 48) + (bt s (3 * j + 1) - 48)
theorem fv_same (s : ByteArray) (k j : Nat) (h : k / 3 ≠ j ∨ k % 3 = 2) : fv s (k + 1) j = fv s k j := by
  unfold fv
  by_cases h1 : k + 1 ≤ 3 * j
  · rw [if_pos h1, if_pos (by omega)]
  · rw [if_neg h1]
    by_cases h2 : k + 1 = 3 * j + 1
    · omega
    · rw [if_neg h2, if_neg (by omega)]
      by_cases h3 : k = 3 * j + 1
      · omega
      · rw [if_neg h3]
theorem fv_next (s : ByteArray) (k : Nat) (h : k % 3 < 2) : fv s (k + 1) (k / 3) = 10 * fv s k (k / 3) + (bt s k - 48) := by
  unfold fv
  rw [if_neg (by omega)]
  by_cases h0 : k % 3 = 0
  · have e : k = 3 * (k / 3) := by omega
    rw [if_pos (by omega), if_pos (by omega), ← e]; omega
  · have e : 3 * (k / 3) + 1 = k := by omega
    rw [if_neg (by omega), if_neg (by omega), if_pos e.symm, e]
theorem ok_dig {l : Int} {s : ByteArray} {i : Nat} (h : Ok l s i) (hi : i % 3 < 2) : 48 ≤ bt s i ∧ bt s i ≤ 57 := by
  obtain ⟨_, _, h⟩ := h
  unfold okc at h
  rw [if_pos (by omega)] at h
  simpa using h
theorem fv_bd {l : Int} {s : ByteArray} {k : Nat} (h : ∀ i, i < k → Ok l s i) (j : Nat) : 0 ≤ fv s k j ∧ fv s k j ≤ 99 ∧ (k ≤ 3 * j + 1 → fv s k j ≤ 9) := by
  unfold fv
  by_cases h1 : k ≤ 3 * j
  · rw [if_pos h1]; omega
  · have a := ok_dig (h (3 * j) (by omega)) (by omega)
    rw [if_neg h1]
    by_cases h2 : k = 3 * j + 1
    · rw [if_pos h2]; omega
    · have b := ok_dig (h (3 * j + 1) (by omega)) (by omega)
      rw [if_neg h2]; omega
theorem bt_lt (s : ByteArray) (i : Nat) : bt s i < 256 := by
  unfold bt
  split
  · have := UInt8.toNat_lt (s[i]'(by assumption)); omega
  · omega
theorem okc_high (l i r : Int) (h : 128 ≤ r) : okc l i r = false := by
  have := (show lm l ≤ 59 by unfold lm; split <;> omega)
  unfold okc
  split
  · simp; omega
  · split <;> simp <;> omega
/-- The next rune of a text, whatever it is. -/
theorem next_rune (wr : World) (K : Nat) (s : ByteArray) (k : Nat) (l : Int) (hit : wr.heap[K]? = some (.stringIter s k)) (hk : k < s.size) :
    ∃ (r : Int) (d : Nat), (∀ ty, (Instr.next (.pointer (some ⟨K, 0, none⟩)) true ty).run Tryd.prog wr = .ok (.tuple #[.bool true, .int .i64 k, .int .i32 r]) (wr.iterAt K s (k + d))) ∧ okc l k r = okc l k (bt s k) ∧ (okc l k r = true → r = bt s k ∧ d = 1) := by
  by_cases ha : (s[k]'hk).toNat < 128
  · refine ⟨_, 1, fun ty => run_next_ascii_at wr K s k ty hit hk ha, ?_, fun _ => ⟨?_, rfl⟩⟩ <;> (unfold bt; simp [hk])
  · have hh := decode_high s k hk (by omega)
    have hb : 128 ≤ bt s k := by unfold bt; rw [dif_pos hk]; omega
    refine ⟨_, _, fun ty => run_next_any_at wr K s k ty hit hk, ?_, fun h => ?_⟩
    · rw [okc_high _ _ _ hb, okc_high _ _ _ (by omega)]
    · rw [okc_high _ _ _ (by omega)] at h; cases h
/-- What lies in memory when k bytes were read. -/
structure Rs (w wr : World) (c a b l : Int) (s : ByteArray) (k : Nat) : Prop where
  hk : Kept [] w wr
  p : wr.heap[w.heap.size]? = some (.cells #[.int .i64 c, .int .i64 a, .int .i64 b, .int .i64 l] 116 (0, 0))
  z : wr.heap[w.heap.size + 1]? = some (.cells #[.int .i64 0, .int .i64 0, .int .i64 0, .int .i64 0] 122 (0, 0))
  f : wr.heap[w.heap.size + 2]? = some (.cells #[.int .i64 (fv s k 0), .int .i64 (fv s k 1), .int .i64 (fv s k 2), .int .i64 (fv s k 3)] 152 (0, 0))
  it : wr.heap[w.heap.size + 3]? = some (.stringIter s k)
theorem Rs.start (w : World) (c a b l : Int) (s : ByteArray) : Rs w ((((w.alloc (.cells #[.int .i64 c, .int .i64 a, .int .i64 b, .int .i64 l] 116 (0, 0))).alloc (.cells #[.int .i64 0, .int .i64 0, .int .i64 0, .int .i64 0] 122 (0, 0))).alloc (.cells #[.int .i64 0, .int .i64 0, .int .i64 0, .int .i64 0] 152 (0, 0))).iter s 0) c a b l s 0 := by
  obtain ⟨w1, e1⟩ : ∃ w1, w.alloc (.cells #[.int .i64 c, .int .i64 a, .int .i64 b, .int .i64 l] 116 (0, 0)) = w1 := ⟨_, rfl⟩
  have b1 := blk_new w #[.int .i64 c, .int .i64 a, .int .i64 b, .int .i64 l] 116
  have k1 : Kept [] w w1 := by rw [← e1]; exact alloc_kept _ _
  have z1 : w1.heap.size = w.heap.size + 1 := by rw [← e1]; simp
  rw [e1] at b1 ⊢
  clear e1
  obtain ⟨w2, e2⟩ : ∃ w2, w1.alloc (.cells #[.int .i64 0, .int .i64 0, .int .i64 0, .int .i64 0] 122 (0, 0)) = w2 := ⟨_, rfl⟩
  have b2 := blk_new w1 #[.int .i64 0, .int .i64 0, .int .i64 0, .int .i64 0] 122
  have k2 : Kept [] w1 w2 := by rw [← e2]; exact alloc_kept _ _
  have z2 : w2.heap.size = w.heap.size + 2 := by rw [← e2]; simp [z1]
  rw [e2] at b2 ⊢
  clear e2
  obtain ⟨w3, e3⟩ : ∃ w3, w2.alloc (.cells #[.int .i64 0, .int .i64 0, .int .i64 0, .int .i64 0] 152 (0, 0)) = w3 := ⟨_, rfl⟩
  have b3 := blk_new w2 #[.int .i64 0, .int .i64 0, .int .i64 0, .int .i64 0] 152
  have k3 : Kept [] w2 w3 := by rw [← e3]; exact alloc_kept _ _
  have z3 : w3.heap.size = w.heap.size + 3 := by rw [← e3]; simp [z2]
  rw [e3] at b3 ⊢
  clear e3
  have k4 : Kept [] w3 (w3.iter s 0) := alloc_kept _ _
  have b4 := World.iter_heap w3 s 0
  rw [z1] at b2
  rw [z2] at b3
  rw [z3] at b4
  exact ⟨((k1.trans k2).trans k3).trans k4, ((k2.trans k3).trans k4).heap b1 (by simp), (k3.trans k4).heap b2 (by simp), k4.heap b3 (by simp), b4⟩
theorem Rs.next {w wr : World} {c a b l : Int} {s : ByteArray} {k : Nat} (R : Rs w wr c a b l s k) (d : Nat) : Kept [] w (wr.iterAt (w.heap.size + 3) s (k + d)) ∧
    (wr.iterAt (w.heap.size + 3) s (k + d)).heap[w.heap.size]? = some (.cells #[.int .i64 c, .int .i64 a, .int .i64 b, .int .i64 l] 116 (0, 0)) ∧
    (wr.iterAt (w.heap.size + 3) s (k + d)).heap[w.heap.size + 1]? = some (.cells #[.int .i64 0, .int .i64 0, .int .i64 0, .int .i64 0] 122 (0, 0)) ∧
    (wr.iterAt (w.heap.size + 3) s (k + d)).heap[w.heap.size + 2]? = some (.cells #[.int .i64 (fv s k 0), .int .i64 (fv s k 1), .int .i64 (fv s k 2), .int .i64 (fv s k 3)] 152 (0, 0)) ∧
    (wr.iterAt (w.heap.size + 3) s (k + d)).heap[w.heap.size + 3]? = some (.stringIter s (k + d)) :=
  ⟨R.hk.step (l2 := [w.heap.size + 3]) ⟨rfl, rfl, rfl, by rw [iterAt_size]; exact Nat.le_refl _, fun i _ hi => iterAt_other _ _ _ _ _ (by simpa using hi)⟩ (fun x hx => by simp at hx; omega), (iterAt_other _ _ _ _ _ (by omega)).trans R.p, (iterAt_other _ _ _ _ _ (by omega)).trans R.z, (iterAt_other _ _ _ _ _ (by omega)).trans R.f, iterAt_heap _ _ _ _ _ R.it⟩
theorem fset (s : ByteArray) (k : Nat) (h : k < 11) (hd : k % 3 < 2) (x : Int) (hx : x = fv s (k + 1) (k / 3)) : (#[.int .i64 (fv s k 0), .int .i64 (fv s k 1), .int .i64 (fv s k 2), .int .i64 (fv s k 3)] : Array Value).setIfInBounds (k / 3) (.int .i64 x) = #[.int .i64 (fv s (k + 1) 0), .int .i64 (fv s (k + 1) 1), .int .i64 (fv s (k + 1) 2), .int .i64 (fv s (k + 1) 3)] := by
  subst hx
  have h4 : k / 3 = 0 ∨ k / 3 = 1 ∨ k / 3 = 2 ∨ k / 3 = 3 := by omega
  rcases h4 with e | e | e | e
  · rw [e, fv_same s k 1 (by omega), fv_same s k 2 (by omega), fv_same s k 3 (by omega)]; rfl
  · rw [e, fv_same s k 0 (by omega), fv_same s k 2 (by omega), fv_same s k 3 (by omega)]; rfl
  · rw [e, fv_same s k 0 (by omega), fv_same s k 1 (by omega), fv_same s k 3 (by omega)]; rfl
  · rw [e, fv_same s k 0 (by omega), fv_same s k 1 (by omega), fv_same s k 2 (by omega)]; rfl
theorem fcell {wr : World} {B : Nat} {s : ByteArray} {k : Nat} (h : wr.heap[B]? = some (.cells #[.int .i64 (fv s k 0), .int .i64 (fv s k 1), .int .i64 (fv s k 2), .int .i64 (fv s k 3)] 152 (0, 0))) (J : Nat) (hJ : J < 4) : wr.cell? ⟨B, J, none⟩ = some (.int .i64 (fv s k J)) := by
  have h4 : J = 0 ∨ J = 1 ∨ J = 2 ∨ J = 3 := by omega
  rcases h4 with rfl | rfl | rfl | rfl <;> simp [World.cell?, h]
end Go.Proofs.YtknkjhfemgiiaaaDoor
