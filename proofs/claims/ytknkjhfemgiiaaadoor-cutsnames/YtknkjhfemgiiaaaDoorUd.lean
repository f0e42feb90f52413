import Derived.Test.YtknkjhfemgiiaaaDoorUc
namespace Go.Proofs.YtknkjhfemgiiaaaDoor
open Go.RowKit Go.Lib

/-- checkEvent of an event of a list whose loop stands so. -/
theorem ce_at (t : ByteArray) (r : Int) (a : Option Addr) (c i : Nat) (l : List Evt) (w : World) (R : Option (Int × Int)) (hL : EvL w a l) (hS : Esz l) (hr : Rt r) (hT : Tb w) (hU : Ut w) (hC : Ckl r l i R) (hi : i < l.length) (hn : l.length ≤ 200) :
    ∃ E : Int, (E = 0 → Ckl r l (i + 1) R) ∧ (E ≠ 0 → R = some ((i : Int), E)) ∧ Calls Tryd.prog 18 #[clv t r a l.length c, .int .i64 i] w fun e w' => CeP i E w e w' := by
  obtain ⟨x, b, hx, h0, h1, h2, h3⟩ := hC.step hi
  rcases hL with rfl | ⟨g, o, rfl, hR⟩
  · simp at hi
  · refine ⟨_, h2, h3, checkEvent_any t r g o c i l x w hR hx hr hT hU (hS x (List.mem_of_getElem? hx)).1 (hS x (List.mem_of_getElem? hx)).2 (lfA b) (fun u hu => ?_)⟩
    cases i with
    | zero => rw [h0 rfl]; exact leftAhead_first t r (some ⟨g, o, none⟩) l.length c u
    | succ j =>
      obtain ⟨y, rfl, hy, hb⟩ := h1 j rfl
      have := leftAhead_next t r g o c j l y u (hR.keep hu) hy hb (by omega)
      simpa [lfA] using this
set_option maxHeartbeats 8000000 in
set_option maxRecDepth 1000000 in
theorem Check_any (t : ByteArray) (r : Int) (a : Option Addr) (c : Nat) (l : List Evt) (w : World) (hL : EvL w a l) (hS : Esz l) (hT : Tb w) (hU : Ut w) (ht : t.size ≤ maxLen) (hl : l.length ≤ maxLen) : Calls Tryd.prog 11 #[clv t r a l.length c] w fun e w' => EoP (ckF t r l) w e w' := by
  unfold maxLen at hl
  obtain ⟨n, en⟩ : ∃ n, l.length = n := ⟨_, rfl⟩
  obtain ⟨w1, e1⟩ : ∃ w1, w.alloc (.cells #[.string t, .int .i64 r, .slice a n c] 26 (0, 0)) = w1 := ⟨_, rfl⟩
  have k1 : Kept [] w w1 := by rw [← e1]; exact alloc_kept _ _
  have b1 := heap_alloc_new w (.cells #[.string t, .int .i64 r, .slice a n c] 26 (0, 0))
  rw [e1] at b1
  obtain ⟨x0, x1, x2⟩ := cut_cells b1
  have CL := Hid.mk (checkList_any t r a n c w1 (hT.keep k1) (hU.keep k1) ht (by omega))
  unfold ckF
  rw [en]
  obtain ⟨E, eE⟩ : ∃ E, clE t r n = E := ⟨_, rfl⟩
  rw [eE] at CL ⊢
  have HB := Hid.mk b1
  have K1 := Hid.mk k1
  by_cases hE : E = 0
  · subst hE
    rw [if_pos rfl]
    obtain ⟨hr, -, hn⟩ := Rt_of eE
    obtain ⟨R, eR⟩ : ∃ R, ckL (dy r) none 0 l = R := ⟨_, rfl⟩
    have HC0 : Hid (Ckl r l 0 R) := Hid.mk (eR ▸ Ckl.start r l)
    rw [eR]
    have CE : Hid (∀ u i, Kept [] w u → Ckl r l i R → i < n → ∃ E : Int, (E = 0 → Ckl r l (i + 1) R) ∧ (E ≠ 0 → R = some ((i : Int), E)) ∧ Calls Tryd.prog 18 #[.agg #[.string t, .int .i64 r, .slice a n c], .int .i64 i] u fun e w' => CeP i E u e w') := Hid.mk (fun u i hu hC hi => by
      have := ce_at t r a c i l u R (hL.keep hu) hS hr (hT.keep hu) (hU.keep hu) hC (by omega) (by omega)
      rw [en] at this
      exact this)
    have HD : Hid (Ckl r l n R → R = none) := Hid.mk (fun h => Ckl.done (r := r) (l := l) (by rw [en]; exact h))
    clear hL hS hT hU ht hl b1 k1 eE eR en
    unfold clv
    go_enter Tryd.func11, Tryd.ntmps11
    go_wp2_with (fail)
    refine CL.out.mono ?_
    rintro e w2 ⟨v2, rfl, rfl, k2⟩
    have hb2 := k2.heap HB.out (by simp)
    obtain ⟨y0, y1, y2⟩ := cut_cells hb2
    have K2 := Hid.mk (K1.out.trans k2)
    have HB2 := Hid.mk hb2
    clear x0 x1 x2 k2 hb2 CL e1
    go_wp2_with (fail)
    clear y0 y1 y2
    go_loopw [4, 5, 14] (fun _ _ v wr => ∃ i : Nat, v = .int .i64 (i : Int) ∧ i ≤ n ∧ Ckl r l i R ∧ Kept [] w wr ∧ wr.heap[w.heap.size]? = some (.cells #[.string t, .int .i64 r, .slice a n c] 26 (0, 0))) (fun _ _ v _ => n - (RowKit.intOf v).toNat)
    case atStart => exact ⟨0, rfl, by omega, HC0.out, K2.out, HB2.out⟩
    case round =>
      obtain ⟨i, rfl, hin, hC, hk, hb⟩ := hrel
      clear HC0
      obtain ⟨y0, y1, y2⟩ := cut_cells hb
      by_cases hlt : i < n
      · have hlt2 : (i : Int) < (n : Int) := by omega
        obtain ⟨E, g1, g2, g3⟩ := CE.out wr i hk hC hlt
        have HG := Hid.mk (And.intro g1 g2)
        have HK := Hid.mk hk
        have HBr := Hid.mk hb
        have C3 := Hid.mk g3
        have w9 : wrap64 ((i : Int) + 1) = (i : Int) + 1 := w64_in (by omega) (by omega)
        clear g1 g2 g3 hk hb hC
        by_cases hE : E = 0
        · subst hE
          go_wp2_with (go_at_call 18; refine C3.out.mono ?_; rintro e w3 ⟨v3, rfl, rfl, k3⟩)
          refine ⟨⟨i + 1, by simp, by omega, (by first | exact HG.out.1 rfl | exact HG.out.1 trivial), HK.out.trans k3, k3.heap HBr.out (by simp)⟩, by simp [RowKit.intOf]; omega⟩
        · go_wp2_with (go_at_call 18; refine C3.out.mono ?_; rintro e w3 ⟨v3, rfl, h3, k3⟩; (simp only [eo, if_neg hE] at h3); obtain ⟨Q, rfl, h3⟩ := h3)
          go_ret
          refine ⟨_, rfl, ?_, HK.out.trans k3⟩
          rw [HG.out.2 hE]
          exact ⟨Q, rfl, h3⟩
      · have hlt2 : ¬ (i : Int) < (n : Int) := by omega
        obtain rfl : i = n := by omega
        have HR := Hid.mk (HD.out hC)
        have HK := Hid.mk hk
        clear hk hb hC
        go_wp2
        go_ret
        rw [HR.out]
        exact ⟨_, rfl, rfl, HK.out⟩
  · rw [if_neg hE]
    clear hL hS hT hU ht hl b1 k1 eE en
    unfold clv
    go_enter Tryd.func11, Tryd.ntmps11
    go_wp2_with (go_at_call 24; refine CL.out.mono ?_; rintro e w3 ⟨v3, rfl, h3, k3⟩; (simp only [eo, if_neg hE] at h3); obtain ⟨Q, rfl, h3⟩ := h3)
    go_ret
    exact ⟨_, rfl, ⟨Q, rfl, h3⟩, K1.out.trans k3⟩
end Go.Proofs.YtknkjhfemgiiaaaDoor
