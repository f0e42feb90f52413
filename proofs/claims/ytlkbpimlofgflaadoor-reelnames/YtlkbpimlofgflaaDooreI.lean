import Derived.Test.YtlkbpimlofgflaaDooreG
import Derived.Test.YtlkbpimlofgflaaDooreH
namespace Go.Proofs.YtlkbpimlofgflaaDoor
open Go.RowKit

set_option maxHeartbeats 4000000 in
set_option maxRecDepth 1000000 in
theorem finish_yes (w : World) (Q P : Nat) (zo : Option Addr) (zn zc : Nat) (zs : List Nat) (V L : Value) (d : Md) (hw : Wr w Q P zo zn zc false) (h : Med w P V L d 0) (ok : Mok d) (hz : Nms w zo zs) (hzn : zs.length = zn) (hlt : ∀ z ∈ zs, z < 4294967296) (hs : zn ≤ 100000) (hzf : zn ≠ 0 → ∀ g off, zo = some ⟨g, off, none⟩ → g ∉ P :: V.ownBlock.toList)
    (e0 : apE d (tl zs d.b.length) = 0) :
    Calls Tryd.prog 11 #[.pointer (some ⟨Q, 0, none⟩)] w fun e w' => ∃ V', e = .returned (.tuple #[.agg #[.int .i64 (zn : Int), .int .i64 (apA d (tl zs d.b.length)), .int .i64 ((tl zs d.b.length).length : Int)], .int .i64 0]) ∧ Wr w' Q P zo zn zc true ∧ Med w' P V' L (apS d (tl zs d.b.length)) 0 ∧ Kept (Q :: P :: V.ownBlock.toList) w w' ∧ Lies w V V' := by
  obtain ⟨w1, ew1, k1, hb1⟩ := alloc_new w (.cells #[.int .i64 0, .int .i64 0, .int .i64 0] 39 (0, 0))
  have hw1 := hw.kept k1 (by simp)
  have hm1 := h.keep k1
  obtain ⟨N, eN⟩ : ∃ N, d.b.length = N := ⟨_, rfl⟩
  have hN : N ≤ 268435456 := by rw [← eN]; exact ok.n
  rw [eN] at e0 ⊢
  have qf := hw1.far hm1
  have hz1 := hz.kept k1 (by simp)
  obtain ⟨c0, c1, c2⟩ := hw1.cells
  obtain ⟨T, eT⟩ : ∃ T, (tl zs N).length = T := ⟨_, rfl⟩
  have C1 : Hid (Calls Tryd.prog 10 #[.pointer (some ⟨P, 0, none⟩)] w1.drew fun e w' => e = .returned (.int .i64 (N : Int)) ∧ (w'.cell? ⟨Q, 0, none⟩ = some (.pointer (some ⟨P, 0, none⟩)) ∧ w'.cell? ⟨Q, 1, none⟩ = some (.slice zo zn zc)) ∧ Hid (Calls Tryd.prog 26 #[.slice zo zn zc, .int .i64 (N : Int)] w' fun e w'' => ∃ bo bc, e = .returned (.slice bo T bc) ∧ (w''.cell? ⟨Q, 0, none⟩ = some (.pointer (some ⟨P, 0, none⟩)) ∧ w''.cell? ⟨Q, 1, none⟩ = some (.slice zo zn zc)) ∧ Hid (w''.ownsRow 0 5 1 (.slice bo T bc) T ((tl zs N).map byt) ∧ Med w'' P V L d 0 ∧ Kept [P] w1 w''))) := Hid.mk (by
    refine (size_any w1.drew P V L d hm1.drew).mono ?_
    rintro e w' ⟨rfl, h2, h3⟩
    have kk : Kept [P] w1 w' := ((Kept.refl [P] w1).drew).trans h3
    have hw2 := hw1.kept kk (fun hm => qf (inP P V L Q hm))
    refine ⟨by rw [eN], ⟨hw2.cells.1, hw2.cells.2.1⟩, Hid.mk ((end_any w' zo zn zc zs N ?_ hzn hlt (by omega) hs).mono ?_)⟩
    · by_cases h0 : zn = 0
      · left; exact List.eq_nil_of_length_eq_zero (by omega)
      · exact hz1.kept kk (fun g off e hm => hzf h0 g off e (by simp at hm; subst hm; simp))
    · rintro e w'' ⟨v', rfl, o1, k2, -⟩
      have hw3 := hw2.kept k2 (by simp)
      rw [eT] at o1
      obtain ⟨bo, bc, rfl, -⟩ := row_none o1
      exact ⟨bo, bc, rfl, ⟨hw3.cells.1, hw3.cells.2.1⟩, Hid.mk ⟨o1, h2.keep k2, kk.step k2 (by simp)⟩⟩)
  have HW1 := Hid.mk hw1
  have HQ := Hid.mk qf
  have HB1 := Hid.mk hb1
  have HNP : Hid (w.heap.size ∉ foot P V L) := Hid.mk (foot_of hm1 hb1 (by decide) (by decide) (by decide))
  have HZ1 := Hid.mk hz1
  have HZF := Hid.mk hzf
  have HL := Hid.mk hlt
  have HO := Hid.mk ok
  have K1 := Hid.mk k1
  have ET := Hid.mk eT
  have E0 := Hid.mk e0
  clear eT e0
  clear hw h ok hz hlt hb1 hw1 hm1 qf hz1 k1 hzf
  go_enter Tryd.func11, Tryd.ntmps11
  go_wp2_with (fail)
  go_region_held_law (fun u => u.cell? ⟨Q, 0, none⟩ = some (.pointer (some ⟨P, 0, none⟩)) ∧ u.cell? ⟨Q, 1, none⟩ = some (.slice zo zn zc)) (first | exact ⟨c0, c1⟩ | exact y0 | exact z0 | go_keep) (first
    | (go_at_call 10; with_reducible refine C1.out.mono ?_; rintro e w2 ⟨rfl, y0, C2⟩)
    | (go_at_call 26; with_reducible refine C2.out.mono ?_; rintro e w3 ⟨bo, bc, rfl, z0, R3⟩))
  all_goals focus
    clear c0 c1 c2 z0 y0 C1 C2
    have hw3 := HW1.out.kept R3.out.2.2 (fun hm => HQ.out (inP P V L Q hm))
    have C4 := Hid.mk (lay_yes w3 Q P zo zn zc V L d bo T bc (tl zs N) hw3 R3.out.2.1 HO.out R3.out.1 ET.out E0.out)
    have hr3 := R3.out.2.2.heap HB1.out (fun hm => HNP.out (inP P V L _ hm))
    have HR3 := Hid.mk hr3
    clear hr3
    clear hw3
    go_wp2_with (fail)
    with_reducible refine C4.out.mono ?_
    rintro e w4 ⟨V4, rfl, hw4, m4, k4, l4⟩
    obtain ⟨c0, c1, c2⟩ := hw4.cells
    have f2 : w4.frozen? ⟨Q, 2, none⟩ = false := by unfold Wr at hw4; simp [World.frozen?, hw4]
    have hw5 : Wr (w4.setCell ⟨Q, 2, none⟩ (.bool true)) Q P zo zn zc true := by unfold Wr at hw4 ⊢; rw [heap_setCell_at hw4]; simp
    have k5 : Kept [Q] w4 (w4.setCell ⟨Q, 2, none⟩ (.bool true)) := (Kept.refl _ _).setCell (.inl (by simp)) _
    have m5 := m4.kept k5 (fun x hx hm => by simp at hm; subst hm; exact hw4.far m4 hx)
    have hb5 := k5.heap (k4.heap HR3.out (fun hm => HNP.out (inV P V L _ hm))) (fun hm => by
      simp at hm
      have h9 := k4.heap HR3.out (fun hm => HNP.out (inV P V L _ hm))
      unfold Wr at hw4
      rw [hm, hw4] at h9
      simp at h9)
    have HW5 := Hid.mk hw5
    have M5 := Hid.mk m5
    have K4 := Hid.mk (And.intro k4 l4)
    have K5 := Hid.mk k5
    have HB5 := Hid.mk hb5
    clear hw4 m4 k4 l4 hw5 m5 k5 hb5 C4
    obtain ⟨A, eA⟩ : ∃ A, apA d (tl zs N) = A := ⟨_, rfl⟩
    rw [eA]
    go_wp2_with (fail)
    obtain ⟨w5, ew5⟩ : ∃ w5, w4.setCell ⟨Q, 2, none⟩ (.bool true) = w5 := ⟨_, rfl⟩
    rw [ew5] at HW5 M5 K5 HB5 ⊢
    refine (count_any w5 Q P zo zn zc true HW5.out).mono ?_
    rintro e w6 ⟨rfl, hx⟩
    subst hx
    have z0 : w6.cell? ⟨w.heap.size, 0, none⟩ = some (.int .i64 0) := by simp [World.cell?, HB5.out]
    have z1 : w6.cell? ⟨w.heap.size, 1, none⟩ = some (.int .i64 0) := by simp [World.cell?, HB5.out]
    have z2 : w6.cell? ⟨w.heap.size, 2, none⟩ = some (.int .i64 0) := by simp [World.cell?, HB5.out]
    have f0 : ∀ i, w6.frozen? ⟨w.heap.size, i, none⟩ = false := fun i => by simp [World.frozen?, HB5.out]
    clear c0 c1 c2 f2 ew5
    go_wp2_with (fail)
    have hfin : (((w6.setCell ⟨w.heap.size, 0, none⟩ (.int .i64 (zn : Int))).setCell ⟨w.heap.size, 1, none⟩ (.int .i64 A)).setCell ⟨w.heap.size, 2, none⟩ (.int .i64 (T : Int))).heap[w.heap.size]? = some (.cells #[.int .i64 (zn : Int), .int .i64 A, .int .i64 (T : Int)] 39 (0, 0)) := by
      rw [heap_setCell_at (heap_setCell_at (heap_setCell_at HB5.out))]
      simp
    have kfin : Kept [w.heap.size] w6 (((w6.setCell ⟨w.heap.size, 0, none⟩ (.int .i64 (zn : Int))).setCell ⟨w.heap.size, 1, none⟩ (.int .i64 A)).setCell ⟨w.heap.size, 2, none⟩ (.int .i64 (T : Int))) := (((Kept.refl _ _).setCell (.inl (by simp)) _).setCell (.inl (by simp)) _).setCell (.inl (by simp)) _
    have far6 : w.heap.size ∉ foot P V4 L := foot_of M5.out HB5.out (by decide) (by decide) (by decide)
    refine ⟨rfl, _, results_two rfl _ _ w.heap.size 39 _ (0, 0) _ _ rfl hfin Tryd.underlying39 (by kernel_rfl) rfl, V4, ?_, HW5.out.kept kfin ?_, M5.out.kept kfin (fun x hx hm => by simp at hm; subst hm; exact far6 hx), ?_, ?_⟩
    · rw [ET.out, eA]; rfl
    · intro hm
      simp at hm
      have h9 := HW5.out
      unfold Wr at h9
      rw [hm, HB5.out] at h9
      simp at h9
    · have q1 : Kept (Q :: P :: V.ownBlock.toList) w w3 := (K1.out.mono (by simp) : Kept (Q :: P :: V.ownBlock.toList) w w1).step R3.out.2.2 (fun x hx => by simp at hx; subst hx; simp)
      have q2 := q1.step K4.out.1 (fun x hx => .inl (List.mem_cons_of_mem _ hx))
      have q3 := q2.step K5.out (fun x hx => by simp at hx; subst hx; simp)
      exact q3.step kfin (fun x hx => by simp at hx; subst hx; exact .inr (Nat.le_refl _))
    · exact (K4.out.2.of_kept R3.out.2.2).of_kept K1.out
end Go.Proofs.YtlkbpimlofgflaaDoor
