import Derived.Test.YtiojcfffhcipnaaRb
namespace Go.Proofs.Ytiojcfffhcipnaa
open Go.RowKit

/-- A part of a row. -/
theorem cut_reads (w : World) (bo : Option Addr) (m c : Nat) (b : List Nat) (hrow : w.ownsRow 0 5 1 (.slice bo m c) m (b.map byt)) (q r z : Nat) (hz : q + r = z) (hqr : z ≤ m) :
    ∃ ao cq, (∀ u, Sem.run Try.prog (Instr.slice 29 (.slice bo m c) (some (.int .i64 (q : Int))) (some (.int .i64 (z : Int))) none) u = .ok (.slice ao r cq) u) ∧ Reads w ao ((b.drop q).take r) ∧ (ao = none → cq = 0) := by
  obtain ⟨bo', c', e9, n1, hmc, -, -⟩ := row_form2 hrow
  cases e9
  have hbl : b.length = m := by have := hrow.1; simpa using this
  refine ⟨if c = q then bo else bo.map (fun x => x.add q), c - q, fun u => ?_, reads_cut (reads_row hrow) q r c (by omega) (by omega), fun h => ?_⟩
  · have := slice_lh bo m c q z (by omega) (by omega) u
    rw [show z - q = r by omega] at this
    exact this
  · by_cases hcq : c = q
    · omega
    · rw [if_neg hcq] at h
      have : bo = none := by cases bo <;> simp at h ⊢
      have := n1 this
      omega

/-- What the document's Read of a medium answers, and what it leaves. -/
def rrE (s : Md) (a n : Int) : Int := if s.dead then 152 else if inB a n (s.b.length : Int) then 0 else 151
def rrB (s : Md) (a n : Int) : List Nat := if s.dead then [] else if inB a n (s.b.length : Int) then (s.b.drop a.toNat).take n.toNat else []
def rrS (s : Md) (a n : Int) : Md := if s.dead then s else if inB a n (s.b.length : Int) then { s with g := s.g ++ [(a, n)] } else s
def RrP (w : World) (P : Nat) (V L : Value) (s : Md) (a n : Int) (e : Ending) (w' : World) : Prop :=
  ∃ bo c L', e = .returned (.tuple #[.slice bo (rrB s a n).length c, .int .i64 (rrE s a n)]) ∧ w'.ownsRow w.heap.size 5 1 (.slice bo (rrB s a n).length c) (rrB s a n).length ((rrB s a n).map byt) ∧ Rmd w' P V L' (rrS s a n) ∧ Kept (P :: L.ownBlock.toList) w w' ∧ Lies w L L'

set_option maxHeartbeats 8000000 in
set_option maxRecDepth 100000 in
theorem rread_any (w : World) (P : Nat) (V L : Value) (s : Md) (a n : Int) (h : Rmd w P V L s) (ok : s.b.length ≤ 268435456) (okg : s.g.length ≤ 8796093022207) (a1 : a ≤ 9223372036854775807) :
    Calls Try.prog 40 #[.pointer (some ⟨P, 0, none⟩), .int .i64 a, .int .i64 n] w (RrP w P V L s a n) := by
  unfold RrP
  obtain ⟨b, g, d, lf, kp⟩ := s
  simp only at ok okg
  obtain ⟨m, em⟩ : ∃ m, b.length = m := ⟨_, rfl⟩
  have HM := Hid.mk h
  have c1 := h.c1
  simp only at c1
  cases d with
  | true =>
    have e1 : rrB ⟨b, g, true, lf, kp⟩ a n = [] := by simp [rrB]
    have e2 : rrE ⟨b, g, true, lf, kp⟩ a n = 152 := by simp [rrE]
    have e3 : rrS ⟨b, g, true, lf, kp⟩ a n = ⟨b, g, true, lf, kp⟩ := by simp [rrS]
    rw [e1, e2, e3]
    clear e1 e2 e3 h
    go_enter Try.func40, Try.ntmps40
    go_wp2
    go_ret2
    exact ⟨none, 0, L, rfl, own_nil _ _ _ _, HM.out, Kept.refl _ _, Lies.refl _ _⟩
  | false =>
    obtain ⟨bo, c, eV, n1, -⟩ := h.bounds
    simp only [em] at eV
    subst eV
    have c0 := h.c0
    rw [em] at ok
    have CL := Hid.mk (fun u => rlies_any a n (m : Int) u a1 (by omega) (by omega))
    by_cases hin : inB a n (m : Int) = true
    · have hin' := hin
      simp only [inB, decide_eq_true_eq] at hin'
      obtain ⟨q, rfl⟩ : ∃ q : Nat, a = (q : Int) := ⟨a.toNat, by omega⟩
      obtain ⟨r, rfl⟩ : ∃ r : Nat, n = (r : Int) := ⟨n.toNat, by omega⟩
      have e1 : rrB ⟨b, g, false, lf, kp⟩ (q : Int) (r : Int) = (b.drop q).take r := by simp [rrB, em, hin]
      have e2 : rrE ⟨b, g, false, lf, kp⟩ (q : Int) (r : Int) = 0 := by simp [rrE, em, hin]
      have e3 : rrS ⟨b, g, false, lf, kp⟩ (q : Int) (r : Int) = ⟨b, g ++ [((q : Int), (r : Int))], false, lf, kp⟩ := by simp [rrS, em, hin]
      have e4 : ((b.drop q).take r).length = r := by simp; omega
      rw [e1, e2, e3, e4]
      rw [hin] at CL
      obtain ⟨z, ez⟩ : ∃ z, q + r = z := ⟨_, rfl⟩
      have v3 : wrap64 ((q : Int) + (r : Int)) = (z : Int) := by unfold wrap64; omega
      have v5 : (q : Int) + (r : Int) = (z : Int) := by omega
      have v6 : wrap64 (z : Int) = (z : Int) := by unfold wrap64; omega
      -- the log
      obtain ⟨lo, lc, eL, hlc, -, -, -⟩ := row_form2 h.log
      simp only at eL
      subst eL
      obtain ⟨G, eG⟩ : ∃ G, g.length = G := ⟨_, rfl⟩
      have t0 := h.c4
      simp only [eG] at t0
      obtain ⟨w4, ew4, k4, hb4⟩ := alloc_new w (.cells #[.int .i64 (q : Int), .int .i64 (r : Int)] 63 (0, 0))
      have h4 := h.keep k4
      have rds : RdS w4 (some ⟨w.heap.size, 0, none⟩) [((q : Int), (r : Int))] := .inr ⟨_, 0, rfl, fun j u hj => by
        obtain ⟨z0, z1⟩ := cells2 hb4
        rw [spc_one] at hj
        match j, hj with
        | 0, hj => simp at hj; subst hj; exact z0
        | 1, hj => simp at hj; subst hj; exact z1
        | j + 2, hj => simp at hj⟩
      obtain ⟨v', u', hrun, ho, hk, hL⟩ := app_sp w4 30 _ _ _ h4.log (some ⟨w.heap.size, 0, none⟩) 1 1 _ rds rfl (by simp only; omega) (by simp)
      obtain ⟨lz, cz, e9, -, -, -, -⟩ := row_form2 ho
      subst e9
      obtain ⟨m5, k5⟩ := h4.slog (L' := .slice lz _ cz) (g ++ [((q : Int), (r : Int))]) hk (by rw [spc_append]; simpa using ho)
      have hb5 := hk.heap h4.box (own_ty h4.box (by decide) h4.log)
      have cu : u'.cell? ⟨P, 4, none⟩ = some (.slice lo G lc) := by simp [World.cell?, hb5, eG]
      have fu : u'.frozen? ⟨P, 4, none⟩ = false := by simp [World.frozen?, hb5]
      have t4 := h4.c4
      simp only [eG] at t4 m5 k5 hL hrun
      rw [← ew4] at hrun t4
      -- the bytes
      obtain ⟨w6, ew6⟩ : ∃ w6, u'.setCell ⟨P, 4, none⟩ (.slice lz (G + 1) cz) = w6 := ⟨_, rfl⟩
      rw [ew6] at m5 k5
      have r5 := m5.row
      simp only [em] at r5
      obtain ⟨ao, cq, SL, hrd, hnc⟩ := cut_reads w6 bo m c b r5 q r z ez (by omega)
      obtain ⟨b9, c9, w9, hrun9, o9, k9⟩ := app_none w6 29 ao r cq _ hrd e4 (by omega) hnc
      have x0 : (w6.alloc (.cells #[] 5)).cell? ⟨P, 0, none⟩ = some (.slice bo m c) := (m5.keep ((Kept.refl _ _).alloc _)).c0
      have FN := Hid.mk (And.intro (own_base o9 (Nat.le_trans k4.size k5.size)) (And.intro (m5.keep k9) (And.intro ((((k4.mono (by simp) : Kept (P :: (Value.slice lo G lc).ownBlock.toList) w w4).step k5 (fun x hx => .inl hx)).step k9 (by simp))) (hL.of_kept k4))))
      clear h h4 rds ho hk hL m5 k5 hb5 hb4 k4 r5 hrd hnc o9 k9 e1 e2 e3 e4 ok okg hin hin' a1 ez HM ew4
      go_enter Try.func40, Try.ntmps40
      go_wp2_with (fail)
      refine (CL.out w).mono ?_
      rintro e wq ⟨rfl, hwq⟩
      obtain rfl := hwq.symm
      go_wp2_with (first | (at_builtin; refine wpList_app_eq' rfl _ _ 30 rfl _ _ _ _ rfl rfl hrun ?_; try rw [ew6]) | (at_builtin; refine wpList_app_eq' rfl _ _ 29 rfl _ _ _ _ rfl rfl hrun9 ?_))
      go_ret2
      subst eG
      exact ⟨b9, c9, _, rfl, FN.out⟩
    · have hin' : inB a n (m : Int) = false := by simpa using hin
      have e1 : rrB ⟨b, g, false, lf, kp⟩ a n = [] := by simp [rrB, em, hin']
      have e2 : rrE ⟨b, g, false, lf, kp⟩ a n = 151 := by simp [rrE, em, hin']
      have e3 : rrS ⟨b, g, false, lf, kp⟩ a n = ⟨b, g, false, lf, kp⟩ := by simp [rrS, em, hin']
      rw [e1, e2, e3]
      rw [hin'] at CL
      clear e1 e2 e3 h hin hin' a1 ok
      go_enter Try.func40, Try.ntmps40
      go_wp2_with (fail)
      refine (CL.out w).mono ?_
      rintro e wq ⟨rfl, hwq⟩
      obtain rfl := hwq.symm
      go_wp2
      go_ret2
      exact ⟨none, 0, L, rfl, own_nil _ _ _ _, HM.out, Kept.refl _ _, Lies.refl _ _⟩
end Go.Proofs.Ytiojcfffhcipnaa
