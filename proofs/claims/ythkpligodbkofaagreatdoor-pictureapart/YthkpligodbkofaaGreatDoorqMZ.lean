import Derived.Test.YthkpligodbkofaaGreatDoorqJZ
import Derived.Test.YthkpligodbkofaaGreatDoorpKZ
namespace Go.Proofs.YthkpligodbkofaaGreatDoor.Pc
open Go.RowKit

/-- A head's bytes, as they must be by what they say. -/
def thB (l : List Nat) : List Nat := hdB (nb l 4 2) (nb l 6 2) (nb l 8 1) (nb l 10 2) (nb l 12 2) (!(((nb l 9 1 : Nat) : Int) == 0)) (fun i => nb l (14 + i) 1) (nb l 18 4) (nb l 22 1) (nb l 24 4)
theorem thB_len (l : List Nat) : (thB l).length = 32 := hdB_len ..
/-- Do they tell a head that may be? -/
def rtl (l : List Nat) : Bool := rgt (nb l 4 2 : Int) (nb l 6 2 : Int) (nb l 8 1 : Int) (!(((nb l 9 1 : Nat) : Int) == 0)) (nb l 10 2 : Int) (nb l 12 2 : Int) (fun i => (nb l (14 + i) 1 : Int)) (nb l 18 4 : Int) (nb l 22 1 : Int) (nb l 24 4 : Int)
/-- Is it a head? -/
def hok (l : List Nat) : Bool := rtl l && ((bstr (thB l)).toList == (bstr (l.take 32)).toList)
theorem nbn {l : List Nat} (h : Byts l) (hl : 32 ≤ l.length) (a k M : Nat) (hk : a + k ≤ 32) (hM : 256 ^ k = M) : nb l a k < M := by
  have := nb_lt h (a := a) (k := k) (by omega)
  omega

set_option maxHeartbeats 16000000 in
set_option maxRecDepth 1000000 in
theorem head_yes (g off cap m : Nat) (l : List Nat) (w : World) (hr : Reads w (some ⟨g, off, none⟩) l) (hb : Byts l) (hm : l.length = m) (hc : m ≤ cap) (hcap : cap ≤ 9223372036854775807) (h32 : 32 ≤ m) (hrt : rtl l = true) :
    Calls Tryz.prog 26 #[.slice (some ⟨g, off, none⟩) m cap] w fun e w' => e = .returned (if hok l then .tuple #[tldv l, .int .i64 0] else .tuple #[.agg #[.int .i64 0, .int .i64 0, .int .i64 0, .bool false, .int .i64 0, .int .i64 0, .int .i64 0, .int .i64 0, .int .i64 0, .int .i64 0, .int .i64 0, .int .i64 0, .int .i64 0], .int .i64 123]) ∧ Kept [] w w' := by
  obtain ⟨w1, e1⟩ : ∃ w1, w.alloc (.cells #[.int .i64 0, .int .i64 0, .int .i64 0, .bool false, .int .i64 0, .int .i64 0, .int .i64 0, .int .i64 0, .int .i64 0, .int .i64 0, .int .i64 0, .int .i64 0, .int .i64 0] 75 (0, 0)) = w1 := ⟨_, rfl⟩
  have k1 : Kept [] w w1 := by rw [← e1]; exact (Kept.refl [] w).alloc _
  obtain ⟨B, eB⟩ : ∃ B, w.heap.size = B := ⟨_, rfl⟩
  have b1 : w1.heap[B]? = some (.cells #[.int .i64 0, .int .i64 0, .int .i64 0, .bool false, .int .i64 0, .int .i64 0, .int .i64 0, .int .i64 0, .int .i64 0, .int .i64 0, .int .i64 0, .int .i64 0, .int .i64 0] 75 (0, 0)) := by rw [← e1, ← eB]; exact heap_alloc_new _ _
  have C1 := Hid.mk (told_any g off cap m l w1 (hr.keep k1) hb hm hc hcap h32)
  have hn := fun a k M => nbn hb (by omega : 32 ≤ l.length) a k M
  have CR : Hid (∀ u, Calls Tryz.prog 55 #[tldv l] u fun e w' => e = .returned (.bool (rtl l)) ∧ Kept [] u w') := Hid.mk (fun u => pright_any (nb l 4 2 : Int) (nb l 6 2 : Int) (nb l 8 1 : Int) (!(((nb l 9 1 : Nat) : Int) == 0)) (nb l 10 2 : Int) (nb l 12 2 : Int) (fun i => (nb l (14 + i) 1 : Int)) (nb l 18 4 : Int) (nb l 22 1 : Int) (nb l 24 4 : Int) u (by omega) (by have := hn 10 2 65536 (by decide) (by decide); omega))
  have CH : Hid (∀ u, Calls Tryz.prog 57 #[tldv l] u fun e w' => ∃ V, e = .returned V ∧ w'.ownsRow u.heap.size 5 1 V 32 ((thB l).map byt) ∧ Kept [] u w') := Hid.mk (fun u => headBytes_any (nb l 4 2) (nb l 6 2) (nb l 8 1) (nb l 10 2) (nb l 12 2) (!(((nb l 9 1 : Nat) : Int) == 0)) (fun i => nb l (14 + i) 1) (nb l 18 4) (nb l 22 1) (nb l 24 4) u (hn 4 2 _ (by decide) (by decide)) (hn 6 2 _ (by decide) (by decide)) (hn 8 1 _ (by decide) (by decide)) (hn 10 2 _ (by decide) (by decide)) (hn 12 2 _ (by decide) (by decide)) (fun i hi => hn (14 + i) 1 _ (by omega) (by decide)) (hn 18 4 _ (by decide) (by decide)) (hn 22 1 _ (by decide) (by decide)) (hn 24 4 _ (by decide) (by decide)))
  have HRT : Hid (∀ u, Kept [] w1 u → Reads u (some ⟨g, off, none⟩) (l.take 32)) := Hid.mk (fun u k => by
    have h9 := reads_cut ((hr.keep k1).keep k) 0 32 (by omega)
    simpa using h9)
  have HLT : Hid ((l.take 32).length = 32) := Hid.mk (by simp; omega)
  have EH : Hid (hok l = (rtl l && ((bstr (thB l)).toList == (bstr (l.take 32)).toList))) := Hid.mk rfl
  have HTL := Hid.mk (thB_len l)
  have d32 : decide ((m : Int) < 32) = false := by simp; omega
  have i32 : (32 : Int) ≤ (cap : Int) := by omega
  obtain ⟨x0, ex0⟩ : ∃ x, nb l 4 2 = x := ⟨_, rfl⟩
  obtain ⟨x1, ex1⟩ : ∃ x, nb l 6 2 = x := ⟨_, rfl⟩
  obtain ⟨x2, ex2⟩ : ∃ x, nb l 8 1 = x := ⟨_, rfl⟩
  obtain ⟨x3, ex3⟩ : ∃ x, nb l 9 1 = x := ⟨_, rfl⟩
  obtain ⟨x4, ex4⟩ : ∃ x, nb l 10 2 = x := ⟨_, rfl⟩
  obtain ⟨x5, ex5⟩ : ∃ x, nb l 12 2 = x := ⟨_, rfl⟩
  obtain ⟨x6, ex6⟩ : ∃ x, nb l 14 1 = x := ⟨_, rfl⟩
  obtain ⟨x7, ex7⟩ : ∃ x, nb l 15 1 = x := ⟨_, rfl⟩
  obtain ⟨x8, ex8⟩ : ∃ x, nb l 16 1 = x := ⟨_, rfl⟩
  obtain ⟨x9, ex9⟩ : ∃ x, nb l 17 1 = x := ⟨_, rfl⟩
  obtain ⟨x10, ex10⟩ : ∃ x, nb l 18 4 = x := ⟨_, rfl⟩
  obtain ⟨x11, ex11⟩ : ∃ x, nb l 22 1 = x := ⟨_, rfl⟩
  obtain ⟨x12, ex12⟩ : ∃ x, nb l 24 4 = x := ⟨_, rfl⟩
  obtain ⟨al, eal⟩ : ∃ x, (!((x3 : Int) == 0)) = x := ⟨_, rfl⟩
  have ET : Hid (tldv l = .agg #[.int .i64 (x0 : Int), .int .i64 (x1 : Int), .int .i64 (x2 : Int), .bool al, .int .i64 (x4 : Int), .int .i64 (x5 : Int), .int .i64 (x6 : Int), .int .i64 (x7 : Int), .int .i64 (x8 : Int), .int .i64 (x9 : Int), .int .i64 (x10 : Int), .int .i64 (x11 : Int), .int .i64 (x12 : Int)]) := Hid.mk (by unfold tldv hvv; simp only [Nat.add_zero, Nat.reduceAdd, ex0, ex1, ex2, ex3, ex4, ex5, ex6, ex7, ex8, ex9, ex10, ex11, ex12, eal])
  rw [ET.out] at C1 CR CH ⊢
  obtain ⟨hk9, eh9⟩ : ∃ x, hok l = x := ⟨_, rfl⟩
  rw [eh9] at EH ⊢
  obtain ⟨tb, etb⟩ : ∃ x, thB l = x := ⟨_, rfl⟩
  rw [etb] at CH EH HTL
  obtain ⟨t2, et2⟩ : ∃ x, l.take 32 = x := ⟨_, rfl⟩
  rw [et2] at HRT HLT EH
  rw [hrt] at CR EH
  obtain ⟨RV, eRV⟩ : ∃ RV : Value, (if hk9 then .tuple #[.agg #[.int .i64 (x0 : Int), .int .i64 (x1 : Int), .int .i64 (x2 : Int), .bool al, .int .i64 (x4 : Int), .int .i64 (x5 : Int), .int .i64 (x6 : Int), .int .i64 (x7 : Int), .int .i64 (x8 : Int), .int .i64 (x9 : Int), .int .i64 (x10 : Int), .int .i64 (x11 : Int), .int .i64 (x12 : Int)], .int .i64 0] else .tuple #[.agg #[.int .i64 0, .int .i64 0, .int .i64 0, .bool false, .int .i64 0, .int .i64 0, .int .i64 0, .int .i64 0, .int .i64 0, .int .i64 0, .int .i64 0, .int .i64 0, .int .i64 0], .int .i64 123]) = RV := ⟨_, rfl⟩
  rw [eRV]
  have ERV := Hid.mk eRV
  clear eRV
  have K1 := Hid.mk k1
  have HB := Hid.mk b1
  have HBB := Hid.mk eB
  clear hr hb hm hc hcap h32 k1 b1 hn ET eh9 etb et2 hrt eal ex0 ex1 ex2 ex3 ex4 ex5 ex6 ex7 ex8 ex9 ex10 ex11 ex12
  go_enter Tryz.func26, Tryz.ntmps26
  go_wp2_with (fail)
  clear e1 eB
  refine C1.out.mono ?_
  rintro e w2 ⟨rfl, k2⟩
  obtain ⟨w3, e3⟩ : ∃ w3, w2.alloc (.cells #[.int .i64 (x0 : Int), .int .i64 (x1 : Int), .int .i64 (x2 : Int), .bool al, .int .i64 (x4 : Int), .int .i64 (x5 : Int), .int .i64 (x6 : Int), .int .i64 (x7 : Int), .int .i64 (x8 : Int), .int .i64 (x9 : Int), .int .i64 (x10 : Int), .int .i64 (x11 : Int), .int .i64 (x12 : Int)] 75 (0, 0)) = w3 := ⟨_, rfl⟩
  obtain ⟨Q, eQ⟩ : ∃ Q, w2.heap.size = Q := ⟨_, rfl⟩
  have k3 : Kept [] w2 w3 := by rw [← e3]; exact (Kept.refl [] w2).alloc _
  have HQ := Hid.mk (show w3.heap[Q]? = some (.cells #[.int .i64 (x0 : Int), .int .i64 (x1 : Int), .int .i64 (x2 : Int), .bool al, .int .i64 (x4 : Int), .int .i64 (x5 : Int), .int .i64 (x6 : Int), .int .i64 (x7 : Int), .int .i64 (x8 : Int), .int .i64 (x9 : Int), .int .i64 (x10 : Int), .int .i64 (x11 : Int), .int .i64 (x12 : Int)] 75 (0, 0)) by rw [← e3, ← eQ]; exact heap_alloc_new _ _)
  have K3 := Hid.mk (k2.trans k3)
  have HQB : Hid (B < Q) := Hid.mk (by rw [← eQ]; exact Nat.lt_of_lt_of_le (lt_of_block HB.out) k2.size)
  have RK : Hid (∀ u, Kept [] w3 u → u.cell? ⟨Q, 0, none⟩ = some (.int .i64 (x0 : Int)) ∧ u.cell? ⟨Q, 1, none⟩ = some (.int .i64 (x1 : Int)) ∧ u.cell? ⟨Q, 2, none⟩ = some (.int .i64 (x2 : Int)) ∧ u.cell? ⟨Q, 3, none⟩ = some (.bool al) ∧ u.cell? ⟨Q, 4, none⟩ = some (.int .i64 (x4 : Int)) ∧ u.cell? ⟨Q, 5, none⟩ = some (.int .i64 (x5 : Int)) ∧ u.cell? ⟨Q, 6, none⟩ = some (.int .i64 (x6 : Int)) ∧ u.cell? ⟨Q, 7, none⟩ = some (.int .i64 (x7 : Int)) ∧ u.cell? ⟨Q, 8, none⟩ = some (.int .i64 (x8 : Int)) ∧ u.cell? ⟨Q, 9, none⟩ = some (.int .i64 (x9 : Int)) ∧ u.cell? ⟨Q, 10, none⟩ = some (.int .i64 (x10 : Int)) ∧ u.cell? ⟨Q, 11, none⟩ = some (.int .i64 (x11 : Int)) ∧ u.cell? ⟨Q, 12, none⟩ = some (.int .i64 (x12 : Int))) := Hid.mk (fun u k => cel13 (k.heap HQ.out (by simp)))
  have RK0 := RK.out _ (Kept.refl [] w3).drew
  clear k2 k3 C1
  go_wp2_with (fail)
  clear e3 eQ
  refine wp_region_held_drew (S := fun u => u.cell? ⟨Q, 0, none⟩ = some (.int .i64 (x0 : Int)) ∧ u.cell? ⟨Q, 1, none⟩ = some (.int .i64 (x1 : Int)) ∧ u.cell? ⟨Q, 2, none⟩ = some (.int .i64 (x2 : Int)) ∧ u.cell? ⟨Q, 3, none⟩ = some (.bool al) ∧ u.cell? ⟨Q, 4, none⟩ = some (.int .i64 (x4 : Int)) ∧ u.cell? ⟨Q, 5, none⟩ = some (.int .i64 (x5 : Int)) ∧ u.cell? ⟨Q, 6, none⟩ = some (.int .i64 (x6 : Int)) ∧ u.cell? ⟨Q, 7, none⟩ = some (.int .i64 (x7 : Int)) ∧ u.cell? ⟨Q, 8, none⟩ = some (.int .i64 (x8 : Int)) ∧ u.cell? ⟨Q, 9, none⟩ = some (.int .i64 (x9 : Int)) ∧ u.cell? ⟨Q, 10, none⟩ = some (.int .i64 (x10 : Int)) ∧ u.cell? ⟨Q, 11, none⟩ = some (.int .i64 (x11 : Int)) ∧ u.cell? ⟨Q, 12, none⟩ = some (.int .i64 (x12 : Int))) (by kernel_rfl) RK0 (fun hH0 => ?_)
  clear RK0
  refine wpAnyH_take (i := 0) (oi := _) (v := ?_) rfl (by kernel_rfl) (by kernel_rfl) (by kernel_rfl) (fun _ _ _ h => h) (Or.inl ⟨by rfl, ?y0⟩) (by assumption) ?r0
  case y0 => (intro w hSw; (try dsimp only at hSw); go_simp; try with_reducible rfl)
  refine wpAnyH_ready (rs := [1]) (by kernel_rfl) (by simp) ?_
  refine AllReadyH.cons rfl (fun K hK => ?_) AllReadyH.nil
  go_simp
  go_at_call 55
  refine (CR.out _).mono ?_
  rintro e w4 ⟨rfl, k4⟩
  have K4 : Hid (Kept [] w3 w4) := Hid.mk (((Kept.refl [] w3).drew).trans k4)
  refine hK.out _ _ (RK.out _ K4.out) (fun hH1 => ?_)
  clear hK K k4 hH0 CR
  refine wpAnyH_take (i := 2) (oi := _) (v := ?_) rfl (by kernel_rfl) (by kernel_rfl) (by kernel_rfl) (fun _ _ _ h => h) (Or.inl ⟨by rfl, ?y2⟩) (by assumption) ?r2
  case y2 => (intro w hSw; (try dsimp only at hSw); go_simp; try with_reducible rfl)
  refine wpAnyH_take (i := 3) (oi := _) (v := ?_) rfl (by kernel_rfl) (by kernel_rfl) (by kernel_rfl) (fun _ _ _ h => h) (Or.inl ⟨by rfl, ?y3⟩) (by assumption) ?r3
  case y3 => (intro w hSw; (try dsimp only at hSw); go_simp; try with_reducible rfl)
  refine wpAnyH_take (i := 4) (oi := _) (v := ?_) rfl (by kernel_rfl) (by kernel_rfl) (by kernel_rfl) (fun _ _ _ h => h) (Or.inl ⟨by rfl, ?y4⟩) (by assumption) ?r4
  case y4 => (intro w hSw; (try dsimp only at hSw); go_simp; try with_reducible rfl)
  refine wpAnyH_take (i := 6) (oi := _) (v := ?_) rfl (by kernel_rfl) (by kernel_rfl) (by kernel_rfl) (fun _ _ _ h => h) (Or.inl ⟨by rfl, ?y6⟩) (by assumption) ?r6
  case y6 => (intro w hSw; (try dsimp only at hSw); go_simp; try with_reducible rfl)
  refine wpAnyH_take (i := 7) (oi := _) (v := ?_) rfl (by kernel_rfl) (by kernel_rfl) (by kernel_rfl) (fun _ _ _ h => h) (Or.inl ⟨by rfl, ?y7⟩) (by assumption) ?r7
  case y7 => (intro w hSw; (try dsimp only at hSw); go_simp; try with_reducible rfl)
  refine wpAnyH_ready (rs := [5]) (by kernel_rfl) (by simp) ?_
  refine AllReadyH.cons rfl (fun K hK => ?_) AllReadyH.nil
  go_simp
  go_at_call 57
  refine (CH.out _).mono ?_
  rintro e w5 ⟨V5, rfl, ho5, k5⟩
  have K5 : Hid (Kept [] w3 w5) := Hid.mk (K4.out.trans k5)
  obtain ⟨b5, c5, rfl⟩ := row_form ho5
  have CE := Hid.mk (equal_any b5 (some ⟨g, off, none⟩) 32 32 c5 cap tb t2 w5 (reads_row ho5) (HRT.out w5 (K3.out.trans K5.out)) HTL.out HLT.out)
  obtain ⟨eb, eeb⟩ : ∃ b, ((bstr tb).toList == (bstr t2).toList) = b := ⟨_, rfl⟩
  rw [eeb] at CE EH
  refine hK.out _ _ (RK.out _ K5.out) (fun hH2 => ?_)
  clear hK K k5 ho5 eeb hH1 CH
  refine wpAnyH_ready (rs := [8]) (by kernel_rfl) (by simp) ?_
  refine AllReadyH.cons rfl (fun K hK => ?_) AllReadyH.nil
  go_simp
  go_at_call 56
  refine CE.out.mono ?_
  rintro e w6 ⟨rfl, hw6⟩
  obtain rfl := hw6.symm
  refine hK.out _ _ (RK.out _ K5.out) (fun hH3 => ?_)
  clear hK K hH2 CE
  refine wpAnyH_take (i := 9) (oi := _) (v := ?_) rfl (by kernel_rfl) (by kernel_rfl) (by kernel_rfl) (fun _ _ _ h => h) (Or.inl ⟨by rfl, ?y9⟩) (by assumption) ?r9
  case y9 => (intro w hSw; (try dsimp only at hSw); go_simp; try with_reducible rfl)
  refine wpAnyH_take (i := 10) (oi := _) (v := ?_) rfl (by kernel_rfl) (by kernel_rfl) (by kernel_rfl) (fun _ _ _ h => h) (Or.inl ⟨by rfl, ?y10⟩) (by assumption) ?r10
  case y10 => (intro w hSw; (try dsimp only at hSw); go_simp; try with_reducible rfl)
  cases eb
  · refine wpAnyH_done (by kernel_rfl) ?_ _
    clear hH3
    obtain ⟨z0, z1, z2, z3, z4, z5, z6, z7, z8, z9, z10, z11, z12⟩ := cel13 ((K3.out.trans K5.out).heap HB.out (by simp))
    have zz := row_fz ((K3.out.trans K5.out).heap HB.out (by simp))
    have S9 := Hid.mk (setAll_row [.int .i64 0, .int .i64 0, .int .i64 0, .bool false, .int .i64 0, .int .i64 0, .int .i64 0, .int .i64 0, .int .i64 0, .int .i64 0, .int .i64 0, .int .i64 0, .int .i64 0] 0 w5 [] _ ((K3.out.trans K5.out).heap HB.out (by simp)) rfl rfl)
    simp only [setAll] at S9
    go_wp2
    refine bodyPost_ret (v := .tuple #[.agg #[.int .i64 0, .int .i64 0, .int .i64 0, .bool false, .int .i64 0, .int .i64 0, .int .i64 0, .int .i64 0, .int .i64 0, .int .i64 0, .int .i64 0, .int .i64 0, .int .i64 0], .int .i64 123]) ?_ rfl ⟨by rw [← ERV.out, if_neg (by have h9 := EH.out; simp at h9; simp [h9])], ?_⟩
    · exact Tl.results_two rfl _ _ B 75 _ (0, 0) _ _ rfl S9.out.1 Tryz.underlying75 Tryz.infoHd rfl
    · exact ((K1.out.trans K3.out).trans K5.out).step S9.out.2 (fun x hx => by simp at hx; subst hx; exact .inr (Nat.le_of_eq HBB.out))
  · refine wpAnyH_done (by kernel_rfl) ?_ _
    clear hH3
    obtain ⟨z0, z1, z2, z3, z4, z5, z6, z7, z8, z9, z10, z11, z12⟩ := cel13 ((K3.out.trans K5.out).heap HB.out (by simp))
    have zz := row_fz ((K3.out.trans K5.out).heap HB.out (by simp))
    obtain ⟨y0, y1, y2, y3, y4, y5, y6, y7, y8, y9, y10, y11, y12⟩ := RK.out _ K5.out
    have S9 := Hid.mk (setAll_row [.int .i64 (x0 : Int), .int .i64 (x1 : Int), .int .i64 (x2 : Int), .bool al, .int .i64 (x4 : Int), .int .i64 (x5 : Int), .int .i64 (x6 : Int), .int .i64 (x7 : Int), .int .i64 (x8 : Int), .int .i64 (x9 : Int), .int .i64 (x10 : Int), .int .i64 (x11 : Int), .int .i64 (x12 : Int)] 0 w5 [] _ ((K3.out.trans K5.out).heap HB.out (by simp)) rfl rfl)
    simp only [setAll] at S9
    go_wp2
    refine bodyPost_ret (v := .tuple #[.agg #[.int .i64 (x0 : Int), .int .i64 (x1 : Int), .int .i64 (x2 : Int), .bool al, .int .i64 (x4 : Int), .int .i64 (x5 : Int), .int .i64 (x6 : Int), .int .i64 (x7 : Int), .int .i64 (x8 : Int), .int .i64 (x9 : Int), .int .i64 (x10 : Int), .int .i64 (x11 : Int), .int .i64 (x12 : Int)], .int .i64 0]) ?_ rfl ⟨by rw [← ERV.out, if_pos (by have h9 := EH.out; simpa using h9)], ?_⟩
    · exact Tl.results_two rfl _ _ B 75 _ (0, 0) _ _ rfl S9.out.1 Tryz.underlying75 Tryz.infoHd rfl
    · exact ((K1.out.trans K3.out).trans K5.out).step S9.out.2 (fun x hx => by simp at hx; subst hx; exact .inr (Nat.le_of_eq HBB.out))
end Go.Proofs.YthkpligodbkofaaGreatDoor.Pc

namespace Go.Proofs.YthkpligodbkofaaGreatDoor.Pc
open Go.RowKit

theorem nb_at (a b : List Nat) (k X s : Nat) (ha : a.length = s) (hX : X < 256 ^ k) : nb (a ++ (big k X ++ b)) s k = X := by
  subst ha
  unfold nb
  rw [List.drop_left, List.take_left' (big_length ..), num_big, Nat.mod_eq_of_lt hX]
theorem nb_fld (f1 f2 : List (Nat × Nat)) (X k s : Nat) (t : List Nat) (ha : (fds f1).length = s) (hX : X < 256 ^ k) : nb (fds (f1 ++ (X, k) :: f2) ++ t) s k = X := by
  rw [fds_app]
  show nb ((fds f1 ++ (big k X ++ fds f2)) ++ t) s k = X
  rw [List.append_assoc, List.append_assoc]
  exact nb_at _ _ _ _ _ ha hX
/-- What the bytes of a head say. -/
theorem hd_told (W H D sw sh : Nat) (A : Bool) (r : Nat → Nat) (N p ln : Nat) (t : List Nat) (hW : W < 65536) (hH : H < 65536) (hD : D < 256) (hsw : sw < 65536) (hsh : sh < 65536) (hr : ∀ i, i < 4 → r i < 256) (hN : N < 4294967296) (hp : p < 256) (hln : ln < 4294967296) :
    (nb (hdB W H D sw sh A r N p ln ++ t) 4 2 = W ∧ nb (hdB W H D sw sh A r N p ln ++ t) 6 2 = H ∧ nb (hdB W H D sw sh A r N p ln ++ t) 8 1 = D ∧ nb (hdB W H D sw sh A r N p ln ++ t) 9 1 = (if A then 1 else 0)) ∧
    (nb (hdB W H D sw sh A r N p ln ++ t) 10 2 = sw ∧ nb (hdB W H D sw sh A r N p ln ++ t) 12 2 = sh) ∧
    (nb (hdB W H D sw sh A r N p ln ++ t) 14 1 = r 0 ∧ nb (hdB W H D sw sh A r N p ln ++ t) 15 1 = r 1 ∧ nb (hdB W H D sw sh A r N p ln ++ t) 16 1 = r 2 ∧ nb (hdB W H D sw sh A r N p ln ++ t) 17 1 = r 3) ∧
    nb (hdB W H D sw sh A r N p ln ++ t) 18 4 = N ∧ nb (hdB W H D sw sh A r N p ln ++ t) 22 1 = p ∧ nb (hdB W H D sw sh A r N p ln ++ t) 24 4 = ln := by
  unfold hdB
  rw [List.append_assoc]
  generalize big 4 (s4 (fds (hdF W H D sw sh A r N p ln))) ++ t = u
  have r0 := hr 0 (by omega)
  have r1 := hr 1 (by omega)
  have r2 := hr 2 (by omega)
  have r3 := hr 3 (by omega)
  have hA : (if A then 1 else 0 : Nat) < 256 := by split <;> decide
  refine ⟨⟨?_, ?_, ?_, ?_⟩, ⟨?_, ?_⟩, ⟨?_, ?_, ?_, ?_⟩, ?_, ?_, ?_⟩
  · exact nb_fld [(1145854257, 4)] [(H, 2), (D, 1), (if A then 1 else 0, 1), (sw, 2), (sh, 2), (r 0, 1), (r 1, 1), (r 2, 1), (r 3, 1), (N, 4), (p, 1), (0, 1), (ln, 4)] W 2 4 u (by simp [fds, big_length]) hW
  · exact nb_fld [(1145854257, 4), (W, 2)] [(D, 1), (if A then 1 else 0, 1), (sw, 2), (sh, 2), (r 0, 1), (r 1, 1), (r 2, 1), (r 3, 1), (N, 4), (p, 1), (0, 1), (ln, 4)] H 2 6 u (by simp [fds, big_length]) hH
  · exact nb_fld [(1145854257, 4), (W, 2), (H, 2)] [(if A then 1 else 0, 1), (sw, 2), (sh, 2), (r 0, 1), (r 1, 1), (r 2, 1), (r 3, 1), (N, 4), (p, 1), (0, 1), (ln, 4)] D 1 8 u (by simp [fds, big_length]) hD
  · exact nb_fld [(1145854257, 4), (W, 2), (H, 2), (D, 1)] [(sw, 2), (sh, 2), (r 0, 1), (r 1, 1), (r 2, 1), (r 3, 1), (N, 4), (p, 1), (0, 1), (ln, 4)] (if A then 1 else 0) 1 9 u (by simp [fds, big_length]) hA
  · exact nb_fld [(1145854257, 4), (W, 2), (H, 2), (D, 1), (if A then 1 else 0, 1)] [(sh, 2), (r 0, 1), (r 1, 1), (r 2, 1), (r 3, 1), (N, 4), (p, 1), (0, 1), (ln, 4)] sw 2 10 u (by simp [fds, big_length]) hsw
  · exact nb_fld [(1145854257, 4), (W, 2), (H, 2), (D, 1), (if A then 1 else 0, 1), (sw, 2)] [(r 0, 1), (r 1, 1), (r 2, 1), (r 3, 1), (N, 4), (p, 1), (0, 1), (ln, 4)] sh 2 12 u (by simp [fds, big_length]) hsh
  · exact nb_fld [(1145854257, 4), (W, 2), (H, 2), (D, 1), (if A then 1 else 0, 1), (sw, 2), (sh, 2)] [(r 1, 1), (r 2, 1), (r 3, 1), (N, 4), (p, 1), (0, 1), (ln, 4)] (r 0) 1 14 u (by simp [fds, big_length]) r0
  · exact nb_fld [(1145854257, 4), (W, 2), (H, 2), (D, 1), (if A then 1 else 0, 1), (sw, 2), (sh, 2), (r 0, 1)] [(r 2, 1), (r 3, 1), (N, 4), (p, 1), (0, 1), (ln, 4)] (r 1) 1 15 u (by simp [fds, big_length]) r1
  · exact nb_fld [(1145854257, 4), (W, 2), (H, 2), (D, 1), (if A then 1 else 0, 1), (sw, 2), (sh, 2), (r 0, 1), (r 1, 1)] [(r 3, 1), (N, 4), (p, 1), (0, 1), (ln, 4)] (r 2) 1 16 u (by simp [fds, big_length]) r2
  · exact nb_fld [(1145854257, 4), (W, 2), (H, 2), (D, 1), (if A then 1 else 0, 1), (sw, 2), (sh, 2), (r 0, 1), (r 1, 1), (r 2, 1)] [(N, 4), (p, 1), (0, 1), (ln, 4)] (r 3) 1 17 u (by simp [fds, big_length]) r3
  · exact nb_fld [(1145854257, 4), (W, 2), (H, 2), (D, 1), (if A then 1 else 0, 1), (sw, 2), (sh, 2), (r 0, 1), (r 1, 1), (r 2, 1), (r 3, 1)] [(p, 1), (0, 1), (ln, 4)] N 4 18 u (by simp [fds, big_length]) hN
  · exact nb_fld [(1145854257, 4), (W, 2), (H, 2), (D, 1), (if A then 1 else 0, 1), (sw, 2), (sh, 2), (r 0, 1), (r 1, 1), (r 2, 1), (r 3, 1), (N, 4)] [(0, 1), (ln, 4)] p 1 22 u (by simp [fds, big_length]) hp
  · exact nb_fld [(1145854257, 4), (W, 2), (H, 2), (D, 1), (if A then 1 else 0, 1), (sw, 2), (sh, 2), (r 0, 1), (r 1, 1), (r 2, 1), (r 3, 1), (N, 4), (p, 1), (0, 1)] [] ln 4 24 u (by simp [fds, big_length]) hln

/-- Head of bytes that begin with a head that may be. -/
theorem head_of (W H D sw sh : Nat) (A : Bool) (r : Nat → Nat) (N p ln : Nat) (t : List Nat) (hW : W < 65536) (hH : H < 65536) (hD : D < 256) (hsw : sw < 65536) (hsh : sh < 65536) (hr : ∀ i, i < 4 → r i < 256) (hN : N < 4294967296) (hp : p < 256) (hln : ln < 4294967296)
    (hR : rgt (W : Int) (H : Int) (D : Int) A (sw : Int) (sh : Int) (fun i => (r i : Int)) (N : Int) (p : Int) (ln : Int) = true) (ht : Byts t)
    (g off cap m : Nat) (w : World) (hrd : Reads w (some ⟨g, off, none⟩) (hdB W H D sw sh A r N p ln ++ t)) (hm : 32 + t.length = m) (hc : m ≤ cap) (hcap : cap ≤ 9223372036854775807) :
    Calls Tryz.prog 26 #[.slice (some ⟨g, off, none⟩) m cap] w fun e w' => e = .returned (.tuple #[hvv (W : Int) (H : Int) (D : Int) A (sw : Int) (sh : Int) (fun i => (r i : Int)) (N : Int) (p : Int) (ln : Int), .int .i64 0]) ∧ Kept [] w w' := by
  obtain ⟨⟨a1, a2, a3, a4⟩, ⟨b1, b2⟩, ⟨c0, c1, c2, c3⟩, d1, d2, d3⟩ := hd_told W H D sw sh A r N p ln t hW hH hD hsw hsh hr hN hp hln
  have hAA : (!(((nb (hdB W H D sw sh A r N p ln ++ t) 9 1 : Nat) : Int) == 0)) = A := by rw [a4]; cases A <;> rfl
  have hby : Byts (hdB W H D sw sh A r N p ln ++ t) := fun b hb => by
    rcases List.mem_append.1 hb with h | h
    · unfold hdB at h
      rcases List.mem_append.1 h with h | h
      · exact fds_byts _ b h
      · exact big_lt _ _ b h
    · exact ht b h
  have hlen : (hdB W H D sw sh A r N p ln ++ t).length = m := by rw [List.length_append, hdB_len]; exact hm
  have hrt : rtl (hdB W H D sw sh A r N p ln ++ t) = true := by
    unfold rtl
    rw [a1, a2, a3, hAA, b1, b2, d1, d2, d3, ← hR]
    unfold rgt rmb
    simp only [Nat.add_zero, Nat.reduceAdd, c0, c1, c2, c3]
  have hth : thB (hdB W H D sw sh A r N p ln ++ t) = hdB W H D sw sh A r N p ln := by
    unfold thB
    rw [a1, a2, a3, hAA, b1, b2, d1, d2, d3]
    unfold hdB hdF
    simp only [Nat.add_zero, Nat.reduceAdd]
    have e0 := c0
    have e1 := c1
    have e2 := c2
    have e3 := c3
    unfold hdB hdF at e0 e1 e2 e3
    rw [e0, e1, e2, e3]
  have htk : (hdB W H D sw sh A r N p ln ++ t).take 32 = hdB W H D sw sh A r N p ln := List.take_left' (hdB_len ..)
  have hok1 : hok (hdB W H D sw sh A r N p ln ++ t) = true := by
    unfold hok
    rw [hrt, hth, htk]
    simp
  have h := head_yes g off cap m (hdB W H D sw sh A r N p ln ++ t) w hrd hby hlen hc hcap (by omega) hrt
  rw [if_pos hok1] at h
  have hv : tldv (hdB W H D sw sh A r N p ln ++ t) = hvv (W : Int) (H : Int) (D : Int) A (sw : Int) (sh : Int) (fun i => (r i : Int)) (N : Int) (p : Int) (ln : Int) := by
    unfold tldv hvv
    rw [a1, a2, a3, hAA, b1, b2, d1, d2, d3]
    simp only [Nat.add_zero, Nat.reduceAdd, c0, c1, c2, c3]
  rw [hv] at h
  exact h

set_option maxHeartbeats 8000000 in
set_option maxRecDepth 1000000 in
theorem tsize_ok (W H D : Int) (A : Bool) (sw sh : Int) (r : Nat → Int) (N p : Nat) (ln : Int) (w : World) (s0 : -9223372036854775808 ≤ sw) (s1 : sw ≤ 9223372036854775807) (hR : rgt W H D A sw sh r (N : Int) (p : Int) ln = true) (hN : N ≤ 70000) (hp : p ≤ 16) :
    Calls Tryz.prog 28 #[hvv W H D A sw sh r (N : Int) (p : Int) ln] w fun e w' => e = .returned (.int .i64 ((8 * N + 4 * p + 4 : Nat) : Int)) ∧ Kept [] w w' := by
  have C1 := Hid.mk (fun u => pright_any W H D A sw sh r (N : Int) (p : Int) ln u s0 s1)
  rw [hR] at C1
  have C2 := Hid.mk (fun u => ptz_any N p u (by omega) (by omega))
  obtain ⟨T, eT⟩ : ∃ T, 8 * N + 4 * p + 4 = T := ⟨_, rfl⟩
  rw [eT] at C2 ⊢
  obtain ⟨r0, er0⟩ : ∃ x, r 0 = x := ⟨_, rfl⟩
  obtain ⟨r1, er1⟩ : ∃ x, r 1 = x := ⟨_, rfl⟩
  obtain ⟨r2, er2⟩ : ∃ x, r 2 = x := ⟨_, rfl⟩
  obtain ⟨r3, er3⟩ : ∃ x, r 3 = x := ⟨_, rfl⟩
  have e9 : hvv W H D A sw sh r (N : Int) (p : Int) ln = .agg #[.int .i64 W, .int .i64 H, .int .i64 D, .bool A, .int .i64 sw, .int .i64 sh, .int .i64 r0, .int .i64 r1, .int .i64 r2, .int .i64 r3, .int .i64 (N : Int), .int .i64 (p : Int), .int .i64 ln] := by unfold hvv; rw [er0, er1, er2, er3]
  rw [e9] at C1 ⊢
  obtain ⟨w1, e1⟩ : ∃ w1, w.alloc (.cells #[.int .i64 W, .int .i64 H, .int .i64 D, .bool A, .int .i64 sw, .int .i64 sh, .int .i64 r0, .int .i64 r1, .int .i64 r2, .int .i64 r3, .int .i64 (N : Int), .int .i64 (p : Int), .int .i64 ln] 75 (0, 0)) = w1 := ⟨_, rfl⟩
  obtain ⟨B, eB⟩ : ∃ B, w.heap.size = B := ⟨_, rfl⟩
  have K1 : Hid (Kept [] w w1) := Hid.mk (by rw [← e1]; exact (Kept.refl [] w).alloc _)
  have HB1 := Hid.mk (show w1.heap[B]? = some (.cells #[.int .i64 W, .int .i64 H, .int .i64 D, .bool A, .int .i64 sw, .int .i64 sh, .int .i64 r0, .int .i64 r1, .int .i64 r2, .int .i64 r3, .int .i64 (N : Int), .int .i64 (p : Int), .int .i64 ln] 75 (0, 0)) by rw [← e1, ← eB]; exact heap_alloc_new _ _)
  obtain ⟨h0, h1, h2, h3, h4, h5, h6, h7, h8, h9, h10, h11, h12⟩ := cel13 HB1.out
  clear hR er0 er1 er2 er3 e9 eT s0 s1
  go_enter Tryz.func28, Tryz.ntmps28
  go_wp2_with (fail)
  clear e1 eB
  refine (C1.out _).mono ?_
  rintro e w2 ⟨rfl, k2⟩
  have K2 := Hid.mk k2
  clear h0 h1 h2 h3 h4 h5 h6 h7 h8 h9 h10 h11 h12
  obtain ⟨h0, h1, h2, h3, h4, h5, h6, h7, h8, h9, h10, h11, h12⟩ := cel13 (k2.heap HB1.out (by simp))
  clear k2
  go_wp2_with (fail)
  refine (C2.out _).mono ?_
  rintro e w3 ⟨rfl, hw⟩
  obtain rfl := hw.symm
  go_wp2
  go_ret
  exact ⟨rfl, K1.out.trans K2.out⟩
end Go.Proofs.YthkpligodbkofaaGreatDoor.Pc
