import Derived.Test.YtiojcfffhcipnaaMd
namespace Go.Proofs.Ytiojcfffhcipnaa
open Go.RowKit
open Go.MuLone

theorem slice_h (bo : Option Addr) (m cb z : Nat) (h2 : z ≤ cb) (u : World) : Sem.run Try.prog (Instr.slice 29 (.slice bo m cb) none (some (.int .i64 (z : Int))) none) u = .ok (.slice bo z cb) u := by
  have e : (sizeOf (Try.prog.elem 29)).run Try.prog u = .ok 1 u := by kernel_rfl
  rw [run_slice_h (P := Try.prog) (w := u) 29 bo m cb (by kernel_rfl) .i64 (z : Int) (by omega) (by omega), e]
  simp [sliced]
  intro _
  cases bo with
  | none => rfl
  | some x => rw [Option.map_some, show x.add 0 = x by unfold Addr.add; split <;> simp_all]
theorem slice_lh (bo : Option Addr) (m cb a z : Nat) (h1 : a ≤ z) (h2 : z ≤ cb) (u : World) : Sem.run Try.prog (Instr.slice 29 (.slice bo m cb) (some (.int .i64 (a : Int))) (some (.int .i64 (z : Int))) none) u = .ok (.slice (if cb = a then bo else bo.map (fun x => x.add a)) (z - a) (cb - a)) u := by
  have e : (sizeOf (Try.prog.elem 29)).run Try.prog u = .ok 1 u := by kernel_rfl
  rw [run_slice_lh (P := Try.prog) (w := u) 29 bo m cb (by kernel_rfl) .i64 .i64 (a : Int) (z : Int) (by omega) (by omega) (by omega), e]
  simp [sliced]
theorem slice_l (bo : Option Addr) (m cb a : Nat) (h1 : a ≤ m) (u : World) : Sem.run Try.prog (Instr.slice 29 (.slice bo m cb) (some (.int .i64 (a : Int))) none none) u = .ok (.slice (if cb = a then bo else bo.map (fun x => x.add a)) (m - a) (cb - a)) u := by
  have e : (sizeOf (Try.prog.elem 29)).run Try.prog u = .ok 1 u := by kernel_rfl
  rw [run_slice_l (P := Try.prog) (w := u) 29 bo m cb (by kernel_rfl) .i64 (a : Int) (by omega) (by omega), e]
  simp [sliced]

set_option maxHeartbeats 8000000 in
set_option maxRecDepth 100000 in
theorem append_dies (w : World) (P : Nat) (V L : Value) (s : Md) (so : Option Addr) (m sc : Nat) (l : List Nat) (h : Med w P V L s 0) (ok : Mok s) (hr : Reads w so l) (hm : l.length = m) (hms : m ≤ sc) (hc : so = none → sc = 0) (hP : l = [] ∨ ∀ g off, so = some ⟨g, off, none⟩ → g ≠ P)
    (hd : s.dead = false) (hf : s.b.length + m ≤ 268435456) (hl : s.left = 1) :
    Calls Try.prog 15 #[.pointer (some ⟨P, 0, none⟩), .slice so m sc] w fun e w' => ∃ V', e = .returned (.tuple #[.int .i64 0, .int .i64 152]) ∧ Med w' P V' L ⟨s.b ++ l.take s.keep.toNat, s.g, true, 0, 0⟩ 0 ∧ Kept (P :: V.ownBlock.toList) w w' ∧ Lies w V V' := by
  obtain ⟨b, g, d, lf, kp⟩ := s
  simp only at hd hf hl ⊢
  subst hd
  subst hl
  obtain ⟨-, -, -, -, p0, p1⟩ := ok
  simp only at p0 p1
  have HM := Hid.mk h
  have HR := Hid.mk hr
  clear h hr
  obtain ⟨n, en⟩ : ∃ n, b.length = n := ⟨_, rfl⟩
  rw [en] at hf
  have q1 : wrap64 (268435456 - (n : Int)) = 268435456 - (n : Int) := by unfold wrap64; omega
  have q2 : ¬ (268435456 - (n : Int) < (m : Int)) := by omega
  have HF := Hid.mk hf
  have HMS := Hid.mk hms
  by_cases hkp : kp ≤ (m : Int)
  · obtain ⟨q, rfl⟩ : ∃ q : Nat, kp = (q : Int) := ⟨kp.toNat, by omega⟩
    have hqs : (q : Int) ≤ (sc : Int) := by omega
    have hqm : ¬ m < q := by omega
    clear hf p0 p1 hms
    have hsub : ∀ u : World, Reads u so l → Reads u so (l.take q) := fun u h => by
      rcases h with h | ⟨g, off, h, hc⟩
      · exact .inl (by simp [h])
      · exact .inr ⟨g, off, h, fun i hi => by
          have hi' : i < q ∧ i < l.length := by simp at hi; omega
          rw [hc i hi'.2]
          simp [List.getElem?_take_of_lt hi'.1]⟩
    have HS := Hid.mk hsub
    clear hsub
    go_enter_defers Try.func15, Try.ntmps15
    have SL := slice_h so m sc q (by have := HMS.out; omega)
    go_wp2_with (fail)
    refine (mlock HM.out).mono ?_
    rintro e w1 ⟨rfl, h1, k1⟩
    have H1 := Hid.mk h1
    have K1 := Hid.mk k1
    obtain ⟨bo, c, eV, n1, -, -, -⟩ := row_form2 h1.row
    simp only [en] at eV
    subst eV
    have c2 := h1.c2
    have c4 := h1.c4
    have c5 := h1.c5
    have c6 := h1.c6
    have f2 := h1.fz 2
    have r2 : Reads w1.drew so (l.take q) := HS.out _ ((HR.out.keptP k1 hP).keep ((Kept.refl _ _).drew))
    have m2 := h1.drew
    obtain ⟨v', u', hrun, ho, hk, hL⟩ := app_at _ 29 _ _ _ m2.row so q sc (l.take q) r2 (by simp; omega) (by simp only [en]; have := HF.out; omega) hc
    obtain ⟨bz, cz, ez, -, -, -, -⟩ := row_form2 ho
    subst ez
    have e9 : (b ++ l.take q).length = b.length + q := by simp; omega
    obtain ⟨m3, k3⟩ := m2.srow (V' := .slice bz _ cz) (b ++ l.take q) hk (by rw [e9, List.map_append]; exact ho)
    clear e9
    have hb := hk.heap m2.box (own_ty m2.box (by decide) m2.row)
    have cu : u'.cell? ⟨P, 2, none⟩ = some (.slice bo n c) := by simp [World.cell?, hb]
    have fu : u'.frozen? ⟨P, 2, none⟩ = false := by simp [World.frozen?, hb]
    simp only [en] at m3 k3 hL hrun
    have M3 := Hid.mk m3
    have KK := Hid.mk (((k1.drew).at (List.mem_cons_self (a := P) (l := (Value.slice bo n c).ownBlock.toList))).step k3 (fun x hx => .inl hx))
    have HLL := Hid.mk (hL.of_kept (k1.drew))
    have cu6 : u'.cell? ⟨P, 6, none⟩ = some (.int .i64 (q : Int)) := by simp [World.cell?, hb]
    have cv6 := m3.c6
    simp only at c6 cv6
    obtain ⟨m4, k4⟩ := m3.sdead true
    have M4 := Hid.mk m4
    have cv4 := m3.c4
    have fv4 := m3.fz 4
    have KK := Hid.mk (KK.out.step k4 (fun x hx => by simp at hx; subst hx; simp))
    clear m4 k4
    clear h1 k1 m2 r2 ho hk hL m3 k3 HR hb
    go_wp2_with (fail)
    refine wp_region_noPanic ?_
    go_region_law (refine step_app rfl _ _ 29 rfl _ _ _ _ rfl rfl hrun ?_)
    all_goals focus
      refine NoPanic.normal ?_
      go_wp2_with (fail)
      refine (disarm_any _ P _ L _ 1 M4.out).mono ?_
      rintro e w3 ⟨rfl, m5, k5⟩
      have M5 := Hid.mk m5
      have K5 := Hid.mk (KK.out.step k5 (fun x hx => by simp at hx; subst hx; simp))
      clear m5 k5
      go_wp2
      refine leaves_cons (f := 52) (args := #[.pointer (some ⟨P, 0, none⟩)]) (by simp) (by simp [go_sem]) ?_
      refine (munlock M5.out).mono ?_
      rintro e u9 w4 ⟨rfl, rfl, h3, k3⟩
      exact ⟨_, results_tmp2 rfl _ _ _, _, rfl, h3, K5.out.step k3 (fun x hx => by simp at hx; subst hx; simp), HLL.out⟩
  · have e9 : l.take kp.toNat = l := List.take_of_length_le (by omega)
    rw [e9]
    clear e9 hf p0 p1
    have hqs : (m : Int) ≤ (sc : Int) := by omega
    have hkm : (m : Int) < kp := by omega
    go_enter_defers Try.func15, Try.ntmps15
    have SL := slice_h so m sc m (by have := HMS.out; omega)
    go_wp2_with (fail)
    refine (mlock HM.out).mono ?_
    rintro e w1 ⟨rfl, h1, k1⟩
    have H1 := Hid.mk h1
    have K1 := Hid.mk k1
    obtain ⟨bo, c, eV, n1, -, -, -⟩ := row_form2 h1.row
    simp only [en] at eV
    subst eV
    have c2 := h1.c2
    have c4 := h1.c4
    have c5 := h1.c5
    have c6 := h1.c6
    have f2 := h1.fz 2
    have r2 : Reads w1.drew so l := ((HR.out.keptP k1 hP).keep ((Kept.refl _ _).drew))
    have m2 := h1.drew
    obtain ⟨v', u', hrun, ho, hk, hL⟩ := app_at _ 29 _ _ _ m2.row so m sc l r2 hm (by simp only [en]; have := HF.out; omega) hc
    obtain ⟨bz, cz, ez, -, -, -, -⟩ := row_form2 ho
    subst ez
    have e9 : (b ++ l).length = b.length + m := by simp; omega
    obtain ⟨m3, k3⟩ := m2.srow (V' := .slice bz _ cz) (b ++ l) hk (by rw [e9, List.map_append]; exact ho)
    clear e9
    have hb := hk.heap m2.box (own_ty m2.box (by decide) m2.row)
    have cu : u'.cell? ⟨P, 2, none⟩ = some (.slice bo n c) := by simp [World.cell?, hb]
    have fu : u'.frozen? ⟨P, 2, none⟩ = false := by simp [World.frozen?, hb]
    simp only [en] at m3 k3 hL hrun
    have M3 := Hid.mk m3
    have KK := Hid.mk (((k1.drew).at (List.mem_cons_self (a := P) (l := (Value.slice bo n c).ownBlock.toList))).step k3 (fun x hx => .inl hx))
    have HLL := Hid.mk (hL.of_kept (k1.drew))
    have cu6 : u'.cell? ⟨P, 6, none⟩ = some (.int .i64 kp) := by simp [World.cell?, hb]
    have cv6 := m3.c6
    simp only at c6 cv6
    obtain ⟨m4, k4⟩ := m3.sdead true
    have M4 := Hid.mk m4
    have cv4 := m3.c4
    have fv4 := m3.fz 4
    have KK := Hid.mk (KK.out.step k4 (fun x hx => by simp at hx; subst hx; simp))
    clear m4 k4
    clear h1 k1 m2 r2 ho hk hL m3 k3 HR hb
    go_wp2_with (fail)
    refine wp_region_noPanic ?_
    go_region_law (refine step_app rfl _ _ 29 rfl _ _ _ _ rfl rfl hrun ?_)
    all_goals focus
      refine NoPanic.normal ?_
      go_wp2_with (fail)
      refine (disarm_any _ P _ L _ 1 M4.out).mono ?_
      rintro e w3 ⟨rfl, m5, k5⟩
      have M5 := Hid.mk m5
      have K5 := Hid.mk (KK.out.step k5 (fun x hx => by simp at hx; subst hx; simp))
      clear m5 k5
      go_wp2
      refine leaves_cons (f := 52) (args := #[.pointer (some ⟨P, 0, none⟩)]) (by simp) (by simp [go_sem]) ?_
      refine (munlock M5.out).mono ?_
      rintro e u9 w4 ⟨rfl, rfl, h3, k3⟩
      exact ⟨_, results_tmp2 rfl _ _ _, _, rfl, h3, K5.out.step k3 (fun x hx => by simp at hx; subst hx; simp), HLL.out⟩
end Go.Proofs.Ytiojcfffhcipnaa
