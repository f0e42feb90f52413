import Derived.Test.YtkjhegedkamjaaaT8
namespace Go.Proofs.Ytkjhegedkamjaaa
open Go.RowKit Go.Shelf

/-- The k-th slice that is told. -/
def tv (f c : Int) (wd1 : Nat) (k : Nat) : Int := f + ((k / wd1 : Nat) : Int) * c + ((k % wd1 : Nat) : Int)

theorem range_touch {g : Operand} {ps : Array Tmp} {assign body : Code} {Q : Exit → Act → World → Prop} {a : Act} {w : World} {b1 b2 b3 b4 P nr wd1 : Nat} {f l c wd : Int}
    (hc : 1 ≤ c) (hn : 1 ≤ nr) (hw : 1 ≤ wd1) (hwd : wd + 1 = wd1) (hwc : (wd1 : Int) ≤ c) (f0 : 0 ≤ f) (hl : l = f + ((nr : Int) - 1) * c + wd) (l1 : l ≤ 65536) (hc1 : c ≤ 256)
    (hg : a.eval g = .func (.func 44) #[] #[.pointer (some ⟨b1, 0, none⟩), .pointer (some ⟨b2, 0, none⟩), .pointer (some ⟨b3, 0, none⟩), .pointer (some ⟨b4, 0, none⟩)])
    (hps : ps.size = 1) (h1 : w.cell? ⟨b1, 0, none⟩ = some (.int .i64 f)) (h2 : w.cell? ⟨b2, 0, none⟩ = some (.int .i64 l)) (h3 : w.cell? ⟨b3, 0, none⟩ = some (.pointer (some ⟨P, 0, none⟩))) (h4 : w.cell? ⟨b4, 0, none⟩ = some (.int .i64 wd)) (h5 : w.cell? ⟨P, 6, none⟩ = some (.int .i64 c))
    (ks : List Nat) (hks : ∀ x ∈ ks, x < w.heap.size) (n1 : b1 ∉ ks) (n2 : b2 ∉ ks) (n3 : b3 ∉ ks) (n4 : b4 ∉ ks) (n5 : P ∉ ks)
    (U : Nat → World → Prop) (hU : ∀ k W W', U k W → (∀ B, B < w.heap.size → W'.heap[B]? = W.heap[B]?) → U k W') (hU0 : U 0 w)
    (hbody : ∀ k W, k < nr * wd1 → Kept ks w W → w.heap.size + 1 < W.heap.size → U k W → assign.wpIn (Fence.wide.inRound (w.heap.size + 1)) 0 Try.prog (Exit.then (fun a1 Wa => Wa = W ∧ ∀ (Wb : World), Kept ks w Wb → w.heap.size + 1 < Wb.heap.size → U k Wb → body.wpIn (Fence.wide.inRound (w.heap.size + 1)) 0 Try.prog (fun e _ W' => e = .normal ∧ Kept ks Wb W' ∧ U (k + 1) W') a1 Wb) (fun _ _ _ => False)) { tmps := (ps.zip #[.int .i64 (tv f c wd1 k)]).foldl (fun t (p, v) => t.setIfInBounds p v) a.tmps, defers := [] } W)
    (hdone : ∀ W, Kept ks w W → U (nr * wd1) W → w.heap.size + 1 < W.heap.size → W.heap[w.heap.size]? = some (.deferred (some [])) → Q .normal { a with defers := { target := .collected w.heap.size, args := #[] } :: a.defers } W) :
    (Code.rangeFunc g ps assign body).wp Try.prog Q a w := by
  have kp : ∀ k W o, (Kept ks w W ∧ w.heap.size + 1 < W.heap.size ∧ U k W) → (Kept ks w (W.putObj (w.heap.size + 1) o) ∧ w.heap.size + 1 < (W.putObj (w.heap.size + 1) o).heap.size ∧ U k (W.putObj (w.heap.size + 1) o)) := by
    rintro k W o ⟨hk, hs, hu⟩
    exact ⟨hk.putObj o (.inr (by omega)), by rw [World.putObj_size]; exact hs, hU k W _ hu (fun B hB => World.putObj_heap_other (by omega))⟩
  refine range_law hg (enters_of Try.func44 (by kernel_rfl) rfl) (fun k W => Kept ks w W ∧ w.heap.size + 1 < W.heap.size ∧ U k W) (nr * wd1) (fun k v => v = #[.int .i64 (tv f c wd1 k)]) (fun k v hv => by subst hv; simp [hps]) kp ?start ?iter ?body ?done
  case start =>
    intro W1 hk1 hs1
    exact ⟨hk1.mono (fun x hx => by simp at hx), by omega, hU 0 w W1 hU0 (fun B hB => hk1.block B hB (by simp))⟩
  case iter =>
    intro J hJI hJY W1 hJ0
    refine touch_iter (w.heap.size + 1) b1 b2 b3 b4 P nr wd1 f l c wd hc hn hw hwd hwc f0 hl l1 hc1 J (fun k W hJ => ?_) (fun k W i j hJ hi hj hk => ?_) W1 hJ0
    · obtain ⟨hk, _, _⟩ := hJI k W hJ
      exact ⟨cell_keep hk h1 n1, cell_keep hk h2 n2, cell_keep hk h3 n3, cell_keep hk h4 n4, cell_keep hk h5 n5⟩
    · have hlt : k < nr * wd1 := by
        have : (i + 1) * wd1 ≤ nr * wd1 := Nat.mul_le_mul_right _ (by omega)
        rw [Nat.add_mul] at this
        omega
      have e1 : k / wd1 = i := by subst hk; rw [Nat.add_comm, Nat.add_mul_div_right _ _ (by omega), Nat.div_eq_of_lt hj]; omega
      have e2 : k % wd1 = j := by subst hk; rw [Nat.add_comm, Nat.add_mul_mod_self_right, Nat.mod_eq_of_lt hj]
      refine hJY k W _ hJ hlt ?_
      unfold tv
      rw [e1, e2]
  case body =>
    rintro k v W r rfl hkn ⟨hk, hs, hu⟩ hl2
    refine wpIn_mono (hbody k W hkn hk hs hu) ?_
    intro e a1 Wa hq
    cases e with
    | normal =>
      obtain ⟨rfl, hb⟩ := hq
      refine ⟨rfl, fun Wb rb hWb => ?_⟩
      obtain ⟨k1, k2, k3⟩ := kp k Wa (.loop rb) ⟨hk, hs, hu⟩
      rw [← hWb] at k1 k2 k3
      refine wpIn_mono (hb Wb k1 k2 k3) ?_
      rintro e a2 W' ⟨rfl, q1, q2⟩
      have z1 : w.heap.size + 1 ∉ ks := fun hm => by have := hks _ hm; omega
      have z0 : w.heap.size ∉ ks := fun hm => by have := hks _ hm; omega
      exact ⟨rfl, ⟨k1.trans q1, Nat.lt_of_lt_of_le k2 q1.size, q2⟩, q1.block _ k2 z1, q1.block _ (by omega) z0⟩
    | exit id => exact hq.elim
    | goto t => exact hq.elim
    | ret => exact hq.elim
    | panic chain => exact hq.elim
    | outgrown => exact hq.elim
  case done =>
    rintro W ⟨hk, hs, hu⟩ hK
    exact hdone W hk hu hs hK
end Go.Proofs.Ytkjhegedkamjaaa
