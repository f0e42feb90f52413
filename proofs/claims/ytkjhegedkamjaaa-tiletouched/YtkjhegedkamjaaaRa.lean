import Derived.Test.YtkjhegedkamjaaaRj
import Derived.Test.YtkjhegedkamjaaaAl
namespace Go.Proofs.Ytkjhegedkamjaaa
open Go.RowKit Go.Shelf

/-- A range over All, none of whose rounds leaves. -/
theorem range_all {g : Operand} {ps : Array Tmp} {assign body : Code} {Q : Exit → Act → World → Prop} {a : Act} {w : World} {f1 g1 b1 b2 b3 b4 P nr wd1 : Nat} {W' H D sw sh c r : Int} {A : Bool}
    (gd : Gd W' H sw sh c r) (hc : c = (wd1 : Int)) (hr : r = (nr : Int))
    (hg : a.eval g = .func (.func 35) #[] #[.pointer (some ⟨f1, 0, none⟩), .pointer (some ⟨g1, 0, none⟩)])
    (hps : ps.size = 2) (h1 : w.cell? ⟨f1, 0, none⟩ = some (clv b1 b2 b3 b4)) (h2 : w.cell? ⟨g1, 0, none⟩ = some (.pointer (some ⟨P, 0, none⟩))) (h3 : Gr w P W' H D A sw sh c r) (h4 : Cl w b1 b2 b3 b4 P 0 (c * r - 1) (c - 1))
    (ks : List Nat) (hks : ∀ x ∈ ks, x < w.heap.size) (hn : ∀ x ∈ [f1, g1, b1, b2, b3, b4, P], x ∉ ks)
    (U : Nat → World → Prop) (hU : ∀ k W W', U k W → (∀ B, B < w.heap.size → W'.heap[B]? = W.heap[B]?) → U k W') (hU0 : U 0 w)
    (hbody : ∀ k W, k < nr * wd1 → Kept ks w W → w.heap.size + 1 < W.heap.size → U k W → assign.wpIn (Fence.wide.inRound (w.heap.size + 1)) 0 Try.prog (Exit.then (fun a1 Wa => Kept [] W Wa ∧ ∀ (Wb : World) (rb : Loop), Wb = Wa.putObj (w.heap.size + 1) (.loop rb) → Kept ks w Wb → w.heap.size + 1 < Wb.heap.size → U k Wb → body.wpIn (Fence.wide.inRound (w.heap.size + 1)) 0 Try.prog (fun e _ W' => e = .normal ∧ Kept ks Wb W' ∧ U (k + 1) W') a1 Wb) (fun _ _ _ => False)) { tmps := (ps.zip #[.int .i64 (k : Int), sR W' H sw sh c (k : Int)]).foldl (fun t (p, v) => t.setIfInBounds p v) a.tmps, defers := [] } W)
    (hdone : ∀ W, Kept ks w W → U (nr * wd1) W → w.heap.size + 1 < W.heap.size → W.heap[w.heap.size]? = some (.deferred (some [])) → Q .normal { a with defers := { target := .collected w.heap.size, args := #[] } :: a.defers } W) :
    (Code.rangeFunc g ps assign body).wp Try.prog Q a w := by
  have kp : ∀ k W o, (Kept ks w W ∧ w.heap.size + 1 < W.heap.size ∧ U k W) → (Kept ks w (W.putObj (w.heap.size + 1) o) ∧ w.heap.size + 1 < (W.putObj (w.heap.size + 1) o).heap.size ∧ U k (W.putObj (w.heap.size + 1) o)) := by
    rintro k W o ⟨hk, hs, hu⟩
    exact ⟨hk.putObj o (.inr (by omega)), by rw [World.putObj_size]; exact hs, hU k W _ hu (fun B hB => World.putObj_heap_other (by omega))⟩
  refine range_law3 hg (enters_of Try.func35 (by kernel_rfl) rfl) (fun k W => Kept ks w W ∧ w.heap.size + 1 < W.heap.size ∧ U k W) (nr * wd1) (fun k v => v = #[.int .i64 (k : Int), sR W' H sw sh c (k : Int)]) (fun k v hv => by subst hv; simp [hps]) kp ?start ?stb ?iter ?body ?done
  case start =>
    intro W1 hk1 hs1
    exact ⟨hk1.mono (fun x hx => by simp at hx), by omega, hU 0 w W1 hU0 (fun B hB => hk1.block B hB (by simp))⟩
  case stb =>
    rintro k V V' ⟨hk, hs, hu⟩ hst
    exact ⟨hk.of_stb hst (by omega), Nat.lt_of_lt_of_le hs hst.size, hU k V V' hu (fun B hB => hst.block B (by omega))⟩
  case iter =>
    intro J hJI hst hY W1 hJ0
    refine all_iter (w.heap.size + 1) (w.heap.size + 2) f1 g1 b1 b2 b3 b4 P nr wd1 W' H D sw sh c r A gd hc hr J (fun k V hJ => ?_) hst (fun k V hJ hk => hY k V _ hJ hk rfl) W1 (by have := (hJI 0 W1 hJ0).2.1; omega) hJ0
    obtain ⟨hk, _, _⟩ := hJI k V hJ
    exact ⟨cell_keep hk h1 (hn _ (by simp)), cell_keep hk h2 (hn _ (by simp)), h3.keep hk (hn _ (by simp)), cell_keep hk h4.1 (hn _ (by simp)), cell_keep hk h4.2.1 (hn _ (by simp)), cell_keep hk h4.2.2.1 (hn _ (by simp)), cell_keep hk h4.2.2.2 (hn _ (by simp))⟩
  case body =>
    rintro k v W r' rfl hkn ⟨hk, hs, hu⟩ hl2
    refine wpIn_mono (hbody k W hkn hk hs hu) ?_
    intro e a1 Wa hq
    cases e with
    | normal =>
      obtain ⟨hka, hb⟩ := hq
      refine ⟨hka, fun Wb rb hWb => ?_⟩
      have hka2 : Kept ks w Wa := hk.trans (hka.mono (fun x hx => by simp at hx))
      obtain ⟨k1, k2, k3⟩ := kp k Wa (.loop rb) ⟨hka2, Nat.lt_of_lt_of_le hs hka.size, hU k W Wa hu (fun B hB => hka.block B (by omega) (by simp))⟩
      rw [← hWb] at k1 k2 k3
      refine wpIn_mono (hb Wb rb hWb k1 k2 k3) ?_
      rintro e a2 W3 ⟨rfl, q1, q2⟩
      have z1 : w.heap.size + 1 ∉ ks := fun hm => by have := hks _ hm; omega
      have z0 : w.heap.size ∉ ks := fun hm => by have := hks _ hm; omega
      exact ⟨rfl, ⟨k1.trans q1, Nat.lt_of_lt_of_le k2 q1.size, q2⟩, q1.fu (fun x hx => by have := hks x hx; omega), q1.block _ k2 z1, q1.block _ (by omega) z0⟩
    | exit id => exact hq.elim
    | goto t => exact hq.elim
    | ret => exact hq.elim
    | panic chain => exact hq.elim
    | outgrown => exact hq.elim
  case done =>
    rintro W ⟨hk, hs, hu⟩ hK
    exact hdone W hk hu hs hK
end Go.Proofs.Ytkjhegedkamjaaa
