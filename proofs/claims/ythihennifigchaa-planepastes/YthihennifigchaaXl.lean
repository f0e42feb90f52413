import Derived.Test.YthihennifigchaaXe
namespace Go.Proofs.Ythihennifigchaa.Bx
open Go.RowKit Bk

set_option maxHeartbeats 4000000 in
set_option maxRecDepth 100000 in
theorem take_k (W w : World) (A : Nat) (s : Bo) (v : Value) (ao : Option Addr) (n c : Nat) (hv : v = .slice ao n c) (h : BAt W w A s) (hr : s.r ≤ 1000000) :
    Calls Try.prog 19 #[.pointer (some ⟨A, 0, none⟩), v] w fun e w' => e = .returned (.tuple #[]) ∧ ∃ Sn, BAt W w' A (s.appo v Sn) ∧ Kept (A :: s.SO.ownBlock.toList) w w' := by
  subst hv
  obtain ⟨i0, hi, hz0, hz1, hz2⟩ := info_parts Try.info36
  have HH := Hid.mk h
  obtain ⟨⟨-, -, c2⟩, f⟩ := h.cells
  have f2 := f 2
  obtain ⟨ao2, cp2, eS⟩ := row_form h.out
  rw [eS] at c2
  have hrow := h.out
  rw [eS] at hrow
  have HRow := Hid.mk hrow
  have HES := Hid.mk eS
  clear h f eS hrow
  go_enter Try.func19, Try.ntmps19
  go_wp2_with (at_builtin; refine wpList_app1 w rfl _ _ 33 0 36 i0 (.slice none 0 0) 24 Try.underlying33 hi hz0 hz1 hz2 rfl rfl (.slice ao2 s.r cp2) s.r (vals s.OV s.r) (by rfl) HRow.out (.slice ao n c) (by rfl) rfl (Nat.zero_le _) (by omega) (by omega) ?_; intro v' w4 ho4 hk4 hl4; obtain ⟨ao4, cp4, rfl⟩ := row_form ho4; rw [← HES.out] at hk4 hl4; have hbx := HH.out.boxKeptO hk4; have z0 : w4.cell? ⟨A, 2, none⟩ = some s.SO := (by simp [World.cell?, hbx]); have z1 : w4.frozen? ⟨A, 2, none⟩ = false := (by simp [World.frozen?, hbx]); have HO4 := Hid.mk ho4; have HK4 := Hid.mk hk4; have HL4 := Hid.mk hl4; clear ho4 hk4 hl4 hbx)
  go_end0
  exact ⟨rfl, _, HH.out.appo _ _ HK4.out HL4.out HO4.out, (HK4.out.mono (fun x hx => .inl (List.mem_cons_of_mem _ hx))).setCell (.inl (by simp)) _⟩

theorem BAt.not_mine {W w : World} {A x t : Nat} {s : Bo} {cs : Array Value} (h : BAt W w A s) (hx : w.heap[x]? = some (.cells cs t (0, 0))) (h1 : t ≠ 35) (h2 : t ≠ 36) : x ∉ A :: s.SO.ownBlock.toList := fun hm => by
  rcases List.mem_cons.1 hm with e | e
  · rw [e, h.box] at hx
    simp at hx
    exact h1 hx.2.symm
  · rcases h.out.2 with ⟨e1, -⟩ | ⟨g, cap, cur, e1, -, hg, -⟩
    · rw [e1] at e; simp [Value.ownBlock] at e
    · rw [e1] at e
      simp [Value.ownBlock] at e
      rw [e, hg] at hx
      simp at hx
      exact h2 hx.2.symm
end Go.Proofs.Ythihennifigchaa.Bx
