import Derived.Test.YtahoeodpjdbdkaaDoorSc
namespace Go.Proofs.YtahoeodpjdbdkaaDoor
open Go.RowKit

theorem three_new (w : World) (a b c : Value) (t : Nat) : ∃ w1, w.alloc (.cells #[a, b, c] t (0, 0)) = w1 ∧ Kept [] w w1 ∧ w1.heap[w.heap.size]? = some (.cells #[a, b, c] t (0, 0)) :=
  ⟨_, rfl, alloc_kept _ _, heap_alloc_new _ _⟩

set_option maxHeartbeats 4000000 in
set_option maxRecDepth 1000000 in
theorem spot_any (B P X G ty : Nat) (T d D : Int) (W n : Nat) (ext : List Value) (s : Wk) (w : World) (h : Wm w B P X G ty T d D W n ext s) (hD : Dp D T) (hn : n ≤ 4194304) (ht : s.t < n) (hW : 1 ≤ W) (hW2 : W ≤ 4096) (hb : s.In T) :
    Calls Tryd.prog 50 #[.pointer (some ⟨B, 0, none⟩)] w fun e w' => e = .returned (.agg #[.int .i64 (xk T d W s), .int .i64 (xs T d W s), .int .i64 (xp T d W s)]) ∧ Kept [] w w' := by
  have hG := h.md.good
  have hT := hG.t0
  obtain ⟨w1, hw1, k1, b1⟩ := three_new w (.int .i64 0) (.int .i64 0) (.int .i64 0) 98
  have h1 := h.keep k1 (by simp)
  have C := Hid.mk (neigh_any B P X G ty T d D W n ext s w1 h1 hD hn ht hW hW2 (fun i hi => by have := hb.bk i hi; omega))
  have C2 := Hid.mk (fun q => find_any P T d (nA T W s.b s.t) (nB T W s.b s.t) (nC T W s.b s.t) (nE T W s.b s.t) (w1.drewN q) (h1.drewN q).md.hd hG)
  have C3 := Hid.mk (fun q => guess_any P T d (xk T d W s) (xs T d W s) (nA T W s.b s.t) (nB T W s.b s.t) (nC T W s.b s.t) s.L (w1.drewN q) (h1.drewN q).md)
  obtain ⟨-, -, c2, -, -, -, -⟩ := h1.fact
  obtain ⟨z0, z1, z2, zf⟩ := cells_three b1
  have zf0 := zf 0
  have zf1 := zf 1
  have zf2 := zf 2
  clear zf
  have ek : fc T d (nA T W s.b s.t) (nB T W s.b s.t) (nC T W s.b s.t) (nE T W s.b s.t) = xk T d W s := rfl
  have es : fs T d (nA T W s.b s.t) (nB T W s.b s.t) (nC T W s.b s.t) (nE T W s.b s.t) = xs T d W s := rfl
  rw [ek, es] at C2
  have ep : Hid (xp T d W s = if xk T d W s = 0 then nA T W s.b s.t else gs T s.L (xk T d W s) (xs T d W s) (nA T W s.b s.t) (nB T W s.b s.t) (nC T W s.b s.t)) := Hid.mk rfl
  clear ek es
  generalize gs T s.L (xk T d W s) (xs T d W s) (nA T W s.b s.t) (nB T W s.b s.t) (nC T W s.b s.t) = gg at *
  generalize nA T W s.b s.t = a at *
  generalize nB T W s.b s.t = b at *
  generalize nC T W s.b s.t = c at *
  generalize nE T W s.b s.t = e at *
  generalize xk T d W s = k at *
  generalize xs T d W s = g at *
  generalize xp T d W s = p at *
  have HB := Hid.mk b1
  have HK := Hid.mk k1
  clear h h1 b1 k1 hb hT
  by_cases hk : k = 0
  · have e0 : p = a := by rw [ep.out, if_pos hk]
    subst hk e0
    clear ep
    go_enter Tryd.func50, Tryd.ntmps50
    go_wp2_with (first | (go_at_call 71; refine C.out.mono ?_; rintro r w' ⟨rfl, q, rfl⟩) | (go_at_call 72; refine (C2.out _).mono ?_; rintro r w' ⟨rfl, rfl⟩))
    refine bodyPost_ret (v := .agg #[.int .i64 0, .int .i64 g, .int .i64 p]) (by simp [results, Tryd.results50, go_sem, z0, z1, z2]) rfl ⟨rfl, ?_⟩
    exact (((HK.out.drewN q).setCell (p := ⟨w.heap.size, 0, none⟩) (by simp) _).setCell (p := ⟨w.heap.size, 1, none⟩) (by simp) _).setCell (p := ⟨w.heap.size, 2, none⟩) (by simp) _
  · have e0 : p = gg := by rw [ep.out, if_neg hk]
    have hk' : (k == 0) = false := by simpa using hk
    subst e0
    clear ep
    go_enter Tryd.func50, Tryd.ntmps50
    go_wp2_with (first | (go_at_call 71; refine C.out.mono ?_; rintro r w' ⟨rfl, q, rfl⟩) | (go_at_call 72; refine (C2.out _).mono ?_; rintro r w' ⟨rfl, rfl⟩) | (go_at_call 73; refine (C3.out _).mono ?_; rintro r w' ⟨rfl, rfl⟩))
    refine bodyPost_ret (v := .agg #[.int .i64 k, .int .i64 g, .int .i64 p]) (by simp [results, Tryd.results50, go_sem, z0, z1, z2]) rfl ⟨rfl, ?_⟩
    exact (((HK.out.drewN q).setCell (p := ⟨w.heap.size, 0, none⟩) (by simp) _).setCell (p := ⟨w.heap.size, 1, none⟩) (by simp) _).setCell (p := ⟨w.heap.size, 2, none⟩) (by simp) _
end Go.Proofs.YtahoeodpjdbdkaaDoor
