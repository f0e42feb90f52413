import Derived.Test.YtiojcfffhcipnaaOb
namespace Go.Proofs.Ytiojcfffhcipnaa
open Go.RowKit
open Go.MuLone

set_option maxHeartbeats 64000000 in
set_option maxRecDepth 1000000 in
theorem full_any (ov : Int) (so : Option Addr) (m0 c : Nat) (l0 : List Nat) (w : World) (o0 : -9223372036854775808 ≤ ov) (o1 : ov ≤ 9223372036854775807) (hr : Reads w so l0) (hb : Byts l0) (hm0 : l0.length = m0) (hmc : m0 ≤ c) (_hcc : c ≤ 140737488351292) (hc : so = none → c = 0) :
    Calls Try.prog 4 #[.int .i64 ov, .slice so m0 c] w fun e w' => e = .returned (.bool true) ∧ Kept [] w w' := by
  obtain ⟨M, hM⟩ : ∃ M : Nat, M = 268435457 := ⟨_, rfl⟩
  obtain ⟨F, hF⟩ : ∃ F : Nat, F = 268435456 := ⟨_, rfl⟩
  have HMF : Hid (M = 268435457 ∧ F = 268435456) := Hid.mk ⟨hM, hF⟩
  have CP := Hid.mk (fun u => place_any ov 256 u o0 o1 (by decide))
  obtain ⟨z, ez⟩ : ∃ z, pick ov 256 = z := ⟨_, rfl⟩
  have hz : 0 ≤ z := by rw [← ez]; exact pick_lo ov 256 (by decide)
  rw [ez] at CP
  clear o0 o1 ez hM hF
  obtain ⟨mm, ll, hS, hbr⟩ : ∃ m l, Small w so m c l ∧ ((1000 < m0 ∧ m = 1000 ∧ ∀ u, Sem.run Try.prog (Instr.slice 29 (.slice so m0 c) none (some (.int .i64 1000)) none) u = .ok (.slice so m c) u) ∨ (¬ 1000 < m0 ∧ m = m0)) := by
    by_cases hbig : 1000 < m0
    · refine ⟨1000, l0.take 1000, ⟨reads_take _ hr, fun b h => hb b (List.mem_of_mem_take h), by simp; omega, by omega, by omega, hc, ?_⟩, .inl ⟨hbig, rfl, fun u => slice_h so m0 c 1000 (by omega) u⟩⟩
      exact reads_lt (reads_take _ hr)
    · exact ⟨m0, l0, ⟨hr, hb, hm0, hmc, by omega, hc, reads_lt hr⟩, .inr ⟨hbig, rfl⟩⟩
  obtain ⟨m, em⟩ : ∃ m, m = mm := ⟨_, rfl⟩
  obtain ⟨l, el⟩ : ∃ l, l = ll := ⟨_, rfl⟩
  rw [← em, ← el] at hS
  rw [← em] at hbr
  clear em el hr hb hm0 hmc
  have HS := Hid.mk hS
  obtain ⟨r, er⟩ : ∃ r : Nat, r = 268435456 - m := ⟨_, rfl⟩
  obtain ⟨q, eq⟩ : ∃ q : Nat, q = r + 1 := ⟨_, rfl⟩
  have hlow := hS.low
  have v1 : wrap64 (268435456 - (m : Int)) = (r : Int) := by unfold wrap64; omega
  have v2 : wrap64 ((r : Int) + 1) = (q : Int) := by unfold wrap64; omega
  have vqq : wrap64 (q : Int) = (q : Int) := by unfold wrap64; omega
  have vq : 268435456 - (m : Int) + 1 = (q : Int) := by omega
  have HQ : Hid (m + q = 268435457 ∧ q ≤ M ∧ m ≤ 1000) := Hid.mk (by have := HMF.out; omega)
  clear er eq hlow hS
  obtain ⟨y, ey⟩ : ∃ y : Nat, y = min 3 m := ⟨_, rfl⟩
  obtain ⟨lf, elf⟩ : ∃ lf : Nat, lf = m + y := ⟨_, rfl⟩
  have HY : Hid (y = min 3 m ∧ lf = m + y) := Hid.mk ⟨ey, elf⟩
  have hm1 := HQ.out.2.2
  have HV : Hid (wrap64 ((m : Int) + (y : Int)) = (lf : Int) ∧ wrap64 (lf : Int) = (lf : Int) ∧ wrap64 ((lf : Int) + (m : Int)) = ((lf + m : Nat) : Int)) := Hid.mk ⟨by unfold wrap64; omega, by unfold wrap64; omega, by unfold wrap64; omega⟩
  have HW : Hid (((m : Int) < 3 ∧ m < 3 ∧ m = y ∧ (m : Int) + (m : Int) = (lf : Int)) ∨ (¬ (m : Int) < 3 ∧ ¬ m < 3 ∧ y = 3 ∧ (m : Int) + 3 = (lf : Int))) := Hid.mk (by omega)
  have HZ : Hid ((∀ k, k = m → min 3 k + k = lf) ∧ lf ≤ 2000) := Hid.mk ⟨fun k hk => by omega, by omega⟩
  clear hm1
  clear ey elf
  rcases hbr with ⟨q0, hm9, SLB⟩ | ⟨q0, hm9⟩
  · have q0' :  (1000 : Int) < (m0 : Int) := by omega
    clear q0 hm9
    go_enter Try.func4, Try.ntmps4
    go_wp2_with (fail)
    refine (shown_any w).mono ?_
    rintro e w1 ⟨rfl, k1⟩
    have K1 := Hid.mk k1
    clear k1
    obtain ⟨w2, hmk, hT, k2⟩ := make_at w1 M (by have := HMF.out; omega)
    obtain ⟨T, eT⟩ : ∃ T, w1.heap.size = T := ⟨_, rfl⟩
    rw [eT] at hmk hT
    have HT := Hid.mk hT
    have K2 := Hid.mk (K1.out.trans k2)
    clear hT k2 eT
    go_wp2_with (fail)
    refine (load_no (some ⟨T, 0, none⟩) M M w2 (by have := HMF.out; omega)).mono ?_
    rintro e w2' ⟨rfl, hw2⟩
    obtain rfl := hw2.symm
    clear hmk q0'
    go_wp2_with (fail)
    refine (load_ok so m c l w2 (HS.out.rd.keep K2.out) HS.out.len HS.out.non (by have := HQ.out; omega)).mono ?_
    rintro e w3 ⟨P, V, rfl, h3, k3, f3⟩
    have O3 : Hid (Ow w2 w3 P V (.slice none 0 0) ⟨l, [], false, 0, 0⟩) := Hid.mk ⟨h3, f3, k3⟩
    have HP := Hid.mk (HS.out.ne (f3 P (by simp [foot])) K2.out.size)
    have HTP : Hid (T ≠ P) := Hid.mk (fun e => by have := f3 P (by simp [foot]); have := (Array.getElem?_eq_some_iff.1 HT.out).1; omega)
    clear h3 k3 f3
    go_wp2_with (fail)
    refine (arm_any w3 P V _ _ 1 3 O3.out.med).mono ?_
    rintro e w4 ⟨rfl, h4, k4⟩
    have a1 : arE ⟨l, [], false, 0, 0⟩ 1 3 = 0 := by simp [arE]
    have a2 : arS ⟨l, [], false, 0, 0⟩ 1 3 = ⟨l, [], false, 1, 3⟩ := by simp [arS]
    rw [a1]
    rw [a2] at h4
    have O4 := Hid.mk (O3.out.p h4 k4)
    clear h4 k4 a1 a2
    have SL := slice_h (some ⟨T, 0, none⟩) M M q HQ.out.2.1
    have iq : (q : Int) ≤ (M : Int) := by have := HQ.out; omega
    go_wp2_with (fail)
    refine (append_full w4 P V _ _ (some ⟨T, 0, none⟩) q M O4.out.med (by simp only [HS.out.len]; have := HQ.out; omega) rfl (by simp only [HS.out.len]; have := HQ.out; omega)).mono ?_
    rintro e w5 ⟨rfl, h5, k5⟩
    have O5 := Hid.mk (O4.out.p h5 k5)
    clear h5 k5 SL iq
    go_wp2_with (fail)
    refine (size_any w5 P V _ _ O5.out.med).mono ?_
    rintro e w6 ⟨rfl, h6, k6⟩
    have O6 := Hid.mk (O5.out.p h6 k6)
    clear h6 k6
    simp only [HS.out.len]
    go_wp2_with (fail)
    refine (dead_any w6 P V _ _ O6.out.med).mono ?_
    rintro e w7 ⟨rfl, h7, k7⟩
    have O7 := Hid.mk (O6.out.p h7 k7)
    clear h7 k7
    go_wp2_with (fail)
    refine (append_dies w7 P V _ _ so m c l O7.out.med ⟨by simp only [HS.out.len]; have := HQ.out; omega, HS.out.by_, by simp, by simp, by simp, by simp⟩ (HS.out.rd.keep (K2.out.trans O7.out.old)) HS.out.len HS.out.cap HS.out.non HP.out rfl (by simp only [HS.out.len]; have := HQ.out; omega) rfl).mono ?_
    rintro e w8 ⟨V8, rfl, h8, k8, l8⟩
    have O8 := Hid.mk (O7.out.v h8 k8 l8)
    clear h8 k8 l8
    simp only [Int.reduceToNat] at O8
    go_wp2_with (fail)
    refine (append_dead w8 P V8 _ _ (some ⟨T, 0, none⟩) M M O8.out.med rfl).mono ?_
    rintro e w9 ⟨rfl, h9, k9⟩
    have O9 := Hid.mk (O8.out.p h9 k9)
    clear h9 k9
    have hl3 : Hid ((l ++ l.take 3).length = lf) := Hid.mk (by rw [List.length_append, List.length_take, Nat.add_comm]; exact HZ.out.1 _ HS.out.len)
    have vy := HV.out.1
    have vlf := HV.out.2.1
    rcases HW.out with ⟨hm3, hm4, ey, vs⟩ | ⟨hm3, hm4, ey, vs⟩
    · subst ey
      clear vy
      go_wp2_with (fail)
      refine (dead_any w9 P V8 _ _ O9.out.med).mono ?_
      rintro e wa ⟨rfl, ha, ka⟩
      have Oa := Hid.mk (O9.out.p ha ka)
      clear ha ka
      go_wp2_with (fail)
      refine (size_any wa P V8 _ _ Oa.out.med).mono ?_
      rintro e wb ⟨rfl, hb, kb⟩
      have Ob := Hid.mk (Oa.out.p hb kb)
      clear hb kb
      simp only [hl3.out]
      clear vlf
      go_wp2_with (fail)
      refine (revive_any wb P V8 _ _ Ob.out.med).mono ?_
      rintro e wc ⟨rfl, hc, kc⟩
      have Oc := Hid.mk (Ob.out.p hc kc)
      clear hc kc
      go_wp2_with (fail)
      refine (CP.out wc).mono ?_
      rintro e wd ⟨rfl, hwd⟩
      obtain rfl := hwd.symm
      by_cases hz0 : 0 < z
      · go_wp2_with (fail)
        refine (append_ok wc P V8 _ _ so m c l Oc.out.med ⟨by simp only [hl3.out]; have := HZ.out.2; have := HQ.out; omega, ?_, by simp, by simp, by simp, by simp⟩ (HS.out.rd.keep (K2.out.trans Oc.out.old)) HS.out.len HS.out.non HP.out rfl (by simp only [hl3.out]; have := HZ.out.2; have := HQ.out; omega) (by simp)).mono ?_
        · intro b hb
          simp only [List.mem_append] at hb
          rcases hb with hb | hb
          · exact HS.out.by_ b hb
          · exact HS.out.by_ b (List.mem_of_mem_take hb)
        rintro e we ⟨Ve, rfl, he, ke, le⟩
        have Oe := Hid.mk (Oc.out.v he ke le)
        clear he ke le
        simp only [hl3.out]
        go_wp2_with (fail)
        refine (size_any we P Ve _ _ Oe.out.med).mono ?_
        rintro e wf ⟨rfl, hf, kf⟩
        have Of := Hid.mk (Oe.out.p hf kf)
        clear hf kf
        have hl4 : (l ++ l.take 3 ++ l).length = lf + m := by rw [List.length_append, hl3.out, HS.out.len]
        have vz := HV.out.2.2
        simp only [hl4]
        clear hl4
        go_wp2
        go_ret
        exact ⟨rfl, K2.out.trans Of.out.old⟩
      · have SLF : ∀ u, Sem.run Try.prog (Instr.slice 29 (.slice (some ⟨T, 0, none⟩) M M) none (some (.int .i64 268435456)) none) u = .ok (.slice (some ⟨T, 0, none⟩) F M) u := fun u => by
          have := slice_h (some ⟨T, 0, none⟩) M M F (by have := HMF.out; omega) u
          rw [show ((F : Nat) : Int) = 268435456 by have := HMF.out; omega] at this
          exact this
        have iM : (268435456 : Int) ≤ (M : Int) := by have := HMF.out; omega
        go_wp2_with (fail)
        refine (load_ok (some ⟨T, 0, none⟩) F M (List.replicate F 0) wc (reads_zero F (Oc.out.old.heap HT.out (by simp)) (by have := HMF.out; omega)) (by simp) (by simp) (by have := HMF.out; omega)).mono ?_
        rintro e we ⟨P2, V2, rfl, he, ke, fe⟩
        have Oe : Hid (Ow wc we P2 V2 (.slice none 0 0) ⟨List.replicate F 0, [], false, 0, 0⟩) := Hid.mk ⟨he, fe, ke⟩
        clear he ke fe SLF iM
        go_wp2_with (fail)
        obtain ⟨wf, ewf, kf, hbf⟩ := alloc_new we (.cells #[.int .u8 1] 5 (0, 0))
        rw [ewf]
        have Of := Hid.mk (Oe.out.keep kf)
        clear ewf
        refine (append_full wf P2 V2 _ _ (some ⟨we.heap.size, 0, none⟩) 1 1 Of.out.med (by simp; have := HMF.out; omega) rfl (by simp; have := HMF.out; omega)).mono ?_
        rintro e wg ⟨rfl, hg, kg⟩
        have Og := Hid.mk (Of.out.p hg kg)
        clear hg kg kf hbf
        go_wp2_with (fail)
        refine (append_ok wg P2 V2 _ _ none 0 0 [] Og.out.med ⟨by simp; have := HMF.out; omega, byts_zero F, by simp, by simp, by simp, by simp⟩ (.inl rfl) rfl (fun _ => rfl) (.inl rfl) rfl (by simp; have := HMF.out; omega) (by simp)).mono ?_
        rintro e wh ⟨Vh, rfl, hh, kh, lh⟩
        have Oh := Hid.mk (Og.out.v hh kh lh)
        clear hh kh lh
        have eF1 : ((List.replicate F 0).length : Int) = 268435456 := by have := HMF.out; simp; omega
        simp only [eF1]
        go_wp2_with (fail)
        refine (size_any wh P2 Vh _ _ Oh.out.med).mono ?_
        rintro e wi ⟨rfl, hi, ki⟩
        have Oi := Hid.mk (Oh.out.p hi ki)
        clear hi ki
        have eF2 : ((List.replicate F 0 ++ ([] : List Nat)).length : Int) = 268435456 := by have := HMF.out; simp; omega
        simp only [eF2]
        go_wp2
        go_ret
        exact ⟨rfl, (K2.out.trans Oc.out.old).trans Oi.out.old⟩
    · subst ey
      clear vy
      go_wp2_with (fail)
      refine (dead_any w9 P V8 _ _ O9.out.med).mono ?_
      rintro e wa ⟨rfl, ha, ka⟩
      have Oa := Hid.mk (O9.out.p ha ka)
      clear ha ka
      go_wp2_with (fail)
      refine (size_any wa P V8 _ _ Oa.out.med).mono ?_
      rintro e wb ⟨rfl, hb, kb⟩
      have Ob := Hid.mk (Oa.out.p hb kb)
      clear hb kb
      simp only [hl3.out]
      clear vlf
      go_wp2_with (fail)
      refine (revive_any wb P V8 _ _ Ob.out.med).mono ?_
      rintro e wc ⟨rfl, hc, kc⟩
      have Oc := Hid.mk (Ob.out.p hc kc)
      clear hc kc
      go_wp2_with (fail)
      refine (CP.out wc).mono ?_
      rintro e wd ⟨rfl, hwd⟩
      obtain rfl := hwd.symm
      by_cases hz0 : 0 < z
      · go_wp2_with (fail)
        refine (append_ok wc P V8 _ _ so m c l Oc.out.med ⟨by simp only [hl3.out]; have := HZ.out.2; have := HQ.out; omega, ?_, by simp, by simp, by simp, by simp⟩ (HS.out.rd.keep (K2.out.trans Oc.out.old)) HS.out.len HS.out.non HP.out rfl (by simp only [hl3.out]; have := HZ.out.2; have := HQ.out; omega) (by simp)).mono ?_
        · intro b hb
          simp only [List.mem_append] at hb
          rcases hb with hb | hb
          · exact HS.out.by_ b hb
          · exact HS.out.by_ b (List.mem_of_mem_take hb)
        rintro e we ⟨Ve, rfl, he, ke, le⟩
        have Oe := Hid.mk (Oc.out.v he ke le)
        clear he ke le
        simp only [hl3.out]
        go_wp2_with (fail)
        refine (size_any we P Ve _ _ Oe.out.med).mono ?_
        rintro e wf ⟨rfl, hf, kf⟩
        have Of := Hid.mk (Oe.out.p hf kf)
        clear hf kf
        have hl4 : (l ++ l.take 3 ++ l).length = lf + m := by rw [List.length_append, hl3.out, HS.out.len]
        have vz := HV.out.2.2
        simp only [hl4]
        clear hl4
        go_wp2
        go_ret
        exact ⟨rfl, K2.out.trans Of.out.old⟩
      · have SLF : ∀ u, Sem.run Try.prog (Instr.slice 29 (.slice (some ⟨T, 0, none⟩) M M) none (some (.int .i64 268435456)) none) u = .ok (.slice (some ⟨T, 0, none⟩) F M) u := fun u => by
          have := slice_h (some ⟨T, 0, none⟩) M M F (by have := HMF.out; omega) u
          rw [show ((F : Nat) : Int) = 268435456 by have := HMF.out; omega] at this
          exact this
        have iM : (268435456 : Int) ≤ (M : Int) := by have := HMF.out; omega
        go_wp2_with (fail)
        refine (load_ok (some ⟨T, 0, none⟩) F M (List.replicate F 0) wc (reads_zero F (Oc.out.old.heap HT.out (by simp)) (by have := HMF.out; omega)) (by simp) (by simp) (by have := HMF.out; omega)).mono ?_
        rintro e we ⟨P2, V2, rfl, he, ke, fe⟩
        have Oe : Hid (Ow wc we P2 V2 (.slice none 0 0) ⟨List.replicate F 0, [], false, 0, 0⟩) := Hid.mk ⟨he, fe, ke⟩
        clear he ke fe SLF iM
        go_wp2_with (fail)
        obtain ⟨wf, ewf, kf, hbf⟩ := alloc_new we (.cells #[.int .u8 1] 5 (0, 0))
        rw [ewf]
        have Of := Hid.mk (Oe.out.keep kf)
        clear ewf
        refine (append_full wf P2 V2 _ _ (some ⟨we.heap.size, 0, none⟩) 1 1 Of.out.med (by simp; have := HMF.out; omega) rfl (by simp; have := HMF.out; omega)).mono ?_
        rintro e wg ⟨rfl, hg, kg⟩
        have Og := Hid.mk (Of.out.p hg kg)
        clear hg kg kf hbf
        go_wp2_with (fail)
        refine (append_ok wg P2 V2 _ _ none 0 0 [] Og.out.med ⟨by simp; have := HMF.out; omega, byts_zero F, by simp, by simp, by simp, by simp⟩ (.inl rfl) rfl (fun _ => rfl) (.inl rfl) rfl (by simp; have := HMF.out; omega) (by simp)).mono ?_
        rintro e wh ⟨Vh, rfl, hh, kh, lh⟩
        have Oh := Hid.mk (Og.out.v hh kh lh)
        clear hh kh lh
        have eF1 : ((List.replicate F 0).length : Int) = 268435456 := by have := HMF.out; simp; omega
        simp only [eF1]
        go_wp2_with (fail)
        refine (size_any wh P2 Vh _ _ Oh.out.med).mono ?_
        rintro e wi ⟨rfl, hi, ki⟩
        have Oi := Hid.mk (Oh.out.p hi ki)
        clear hi ki
        have eF2 : ((List.replicate F 0 ++ ([] : List Nat)).length : Int) = 268435456 := by have := HMF.out; simp; omega
        simp only [eF2]
        go_wp2
        go_ret
        exact ⟨rfl, (K2.out.trans Oc.out.old).trans Oi.out.old⟩
  · have q0' : ¬ (1000 : Int) < (m0 : Int) := by omega
    clear q0
    subst hm9
    go_enter Try.func4, Try.ntmps4
    go_wp2_with (fail)
    refine (shown_any w).mono ?_
    rintro e w1 ⟨rfl, k1⟩
    have K1 := Hid.mk k1
    clear k1
    obtain ⟨w2, hmk, hT, k2⟩ := make_at w1 M (by have := HMF.out; omega)
    obtain ⟨T, eT⟩ : ∃ T, w1.heap.size = T := ⟨_, rfl⟩
    rw [eT] at hmk hT
    have HT := Hid.mk hT
    have K2 := Hid.mk (K1.out.trans k2)
    clear hT k2 eT
    go_wp2_with (fail)
    refine (load_no (some ⟨T, 0, none⟩) M M w2 (by have := HMF.out; omega)).mono ?_
    rintro e w2' ⟨rfl, hw2⟩
    obtain rfl := hw2.symm
    clear hmk q0'
    go_wp2_with (fail)
    refine (load_ok so m c l w2 (HS.out.rd.keep K2.out) HS.out.len HS.out.non (by have := HQ.out; omega)).mono ?_
    rintro e w3 ⟨P, V, rfl, h3, k3, f3⟩
    have O3 : Hid (Ow w2 w3 P V (.slice none 0 0) ⟨l, [], false, 0, 0⟩) := Hid.mk ⟨h3, f3, k3⟩
    have HP := Hid.mk (HS.out.ne (f3 P (by simp [foot])) K2.out.size)
    have HTP : Hid (T ≠ P) := Hid.mk (fun e => by have := f3 P (by simp [foot]); have := (Array.getElem?_eq_some_iff.1 HT.out).1; omega)
    clear h3 k3 f3
    go_wp2_with (fail)
    refine (arm_any w3 P V _ _ 1 3 O3.out.med).mono ?_
    rintro e w4 ⟨rfl, h4, k4⟩
    have a1 : arE ⟨l, [], false, 0, 0⟩ 1 3 = 0 := by simp [arE]
    have a2 : arS ⟨l, [], false, 0, 0⟩ 1 3 = ⟨l, [], false, 1, 3⟩ := by simp [arS]
    rw [a1]
    rw [a2] at h4
    have O4 := Hid.mk (O3.out.p h4 k4)
    clear h4 k4 a1 a2
    have SL := slice_h (some ⟨T, 0, none⟩) M M q HQ.out.2.1
    have iq : (q : Int) ≤ (M : Int) := by have := HQ.out; omega
    go_wp2_with (fail)
    refine (append_full w4 P V _ _ (some ⟨T, 0, none⟩) q M O4.out.med (by simp only [HS.out.len]; have := HQ.out; omega) rfl (by simp only [HS.out.len]; have := HQ.out; omega)).mono ?_
    rintro e w5 ⟨rfl, h5, k5⟩
    have O5 := Hid.mk (O4.out.p h5 k5)
    clear h5 k5 SL iq
    go_wp2_with (fail)
    refine (size_any w5 P V _ _ O5.out.med).mono ?_
    rintro e w6 ⟨rfl, h6, k6⟩
    have O6 := Hid.mk (O5.out.p h6 k6)
    clear h6 k6
    simp only [HS.out.len]
    go_wp2_with (fail)
    refine (dead_any w6 P V _ _ O6.out.med).mono ?_
    rintro e w7 ⟨rfl, h7, k7⟩
    have O7 := Hid.mk (O6.out.p h7 k7)
    clear h7 k7
    go_wp2_with (fail)
    refine (append_dies w7 P V _ _ so m c l O7.out.med ⟨by simp only [HS.out.len]; have := HQ.out; omega, HS.out.by_, by simp, by simp, by simp, by simp⟩ (HS.out.rd.keep (K2.out.trans O7.out.old)) HS.out.len HS.out.cap HS.out.non HP.out rfl (by simp only [HS.out.len]; have := HQ.out; omega) rfl).mono ?_
    rintro e w8 ⟨V8, rfl, h8, k8, l8⟩
    have O8 := Hid.mk (O7.out.v h8 k8 l8)
    clear h8 k8 l8
    simp only [Int.reduceToNat] at O8
    go_wp2_with (fail)
    refine (append_dead w8 P V8 _ _ (some ⟨T, 0, none⟩) M M O8.out.med rfl).mono ?_
    rintro e w9 ⟨rfl, h9, k9⟩
    have O9 := Hid.mk (O8.out.p h9 k9)
    clear h9 k9
    have hl3 : Hid ((l ++ l.take 3).length = lf) := Hid.mk (by rw [List.length_append, List.length_take, Nat.add_comm]; exact HZ.out.1 _ HS.out.len)
    have vy := HV.out.1
    have vlf := HV.out.2.1
    rcases HW.out with ⟨hm3, hm4, ey, vs⟩ | ⟨hm3, hm4, ey, vs⟩
    · subst ey
      clear vy
      go_wp2_with (fail)
      refine (dead_any w9 P V8 _ _ O9.out.med).mono ?_
      rintro e wa ⟨rfl, ha, ka⟩
      have Oa := Hid.mk (O9.out.p ha ka)
      clear ha ka
      go_wp2_with (fail)
      refine (size_any wa P V8 _ _ Oa.out.med).mono ?_
      rintro e wb ⟨rfl, hb, kb⟩
      have Ob := Hid.mk (Oa.out.p hb kb)
      clear hb kb
      simp only [hl3.out]
      clear vlf
      go_wp2_with (fail)
      refine (revive_any wb P V8 _ _ Ob.out.med).mono ?_
      rintro e wc ⟨rfl, hc, kc⟩
      have Oc := Hid.mk (Ob.out.p hc kc)
      clear hc kc
      go_wp2_with (fail)
      refine (CP.out wc).mono ?_
      rintro e wd ⟨rfl, hwd⟩
      obtain rfl := hwd.symm
      by_cases hz0 : 0 < z
      · go_wp2_with (fail)
        refine (append_ok wc P V8 _ _ so m c l Oc.out.med ⟨by simp only [hl3.out]; have := HZ.out.2; have := HQ.out; omega, ?_, by simp, by simp, by simp, by simp⟩ (HS.out.rd.keep (K2.out.trans Oc.out.old)) HS.out.len HS.out.non HP.out rfl (by simp only [hl3.out]; have := HZ.out.2; have := HQ.out; omega) (by simp)).mono ?_
        · intro b hb
          simp only [List.mem_append] at hb
          rcases hb with hb | hb
          · exact HS.out.by_ b hb
          · exact HS.out.by_ b (List.mem_of_mem_take hb)
        rintro e we ⟨Ve, rfl, he, ke, le⟩
        have Oe := Hid.mk (Oc.out.v he ke le)
        clear he ke le
        simp only [hl3.out]
        go_wp2_with (fail)
        refine (size_any we P Ve _ _ Oe.out.med).mono ?_
        rintro e wf ⟨rfl, hf, kf⟩
        have Of := Hid.mk (Oe.out.p hf kf)
        clear hf kf
        have hl4 : (l ++ l.take 3 ++ l).length = lf + m := by rw [List.length_append, hl3.out, HS.out.len]
        have vz := HV.out.2.2
        simp only [hl4]
        clear hl4
        go_wp2
        go_ret
        exact ⟨rfl, K2.out.trans Of.out.old⟩
      · have SLF : ∀ u, Sem.run Try.prog (Instr.slice 29 (.slice (some ⟨T, 0, none⟩) M M) none (some (.int .i64 268435456)) none) u = .ok (.slice (some ⟨T, 0, none⟩) F M) u := fun u => by
          have := slice_h (some ⟨T, 0, none⟩) M M F (by have := HMF.out; omega) u
          rw [show ((F : Nat) : Int) = 268435456 by have := HMF.out; omega] at this
          exact this
        have iM : (268435456 : Int) ≤ (M : Int) := by have := HMF.out; omega
        go_wp2_with (fail)
        refine (load_ok (some ⟨T, 0, none⟩) F M (List.replicate F 0) wc (reads_zero F (Oc.out.old.heap HT.out (by simp)) (by have := HMF.out; omega)) (by simp) (by simp) (by have := HMF.out; omega)).mono ?_
        rintro e we ⟨P2, V2, rfl, he, ke, fe⟩
        have Oe : Hid (Ow wc we P2 V2 (.slice none 0 0) ⟨List.replicate F 0, [], false, 0, 0⟩) := Hid.mk ⟨he, fe, ke⟩
        clear he ke fe SLF iM
        go_wp2_with (fail)
        obtain ⟨wf, ewf, kf, hbf⟩ := alloc_new we (.cells #[.int .u8 1] 5 (0, 0))
        rw [ewf]
        have Of := Hid.mk (Oe.out.keep kf)
        clear ewf
        refine (append_full wf P2 V2 _ _ (some ⟨we.heap.size, 0, none⟩) 1 1 Of.out.med (by simp; have := HMF.out; omega) rfl (by simp; have := HMF.out; omega)).mono ?_
        rintro e wg ⟨rfl, hg, kg⟩
        have Og := Hid.mk (Of.out.p hg kg)
        clear hg kg kf hbf
        go_wp2_with (fail)
        refine (append_ok wg P2 V2 _ _ none 0 0 [] Og.out.med ⟨by simp; have := HMF.out; omega, byts_zero F, by simp, by simp, by simp, by simp⟩ (.inl rfl) rfl (fun _ => rfl) (.inl rfl) rfl (by simp; have := HMF.out; omega) (by simp)).mono ?_
        rintro e wh ⟨Vh, rfl, hh, kh, lh⟩
        have Oh := Hid.mk (Og.out.v hh kh lh)
        clear hh kh lh
        have eF1 : ((List.replicate F 0).length : Int) = 268435456 := by have := HMF.out; simp; omega
        simp only [eF1]
        go_wp2_with (fail)
        refine (size_any wh P2 Vh _ _ Oh.out.med).mono ?_
        rintro e wi ⟨rfl, hi, ki⟩
        have Oi := Hid.mk (Oh.out.p hi ki)
        clear hi ki
        have eF2 : ((List.replicate F 0 ++ ([] : List Nat)).length : Int) = 268435456 := by have := HMF.out; simp; omega
        simp only [eF2]
        go_wp2
        go_ret
        exact ⟨rfl, (K2.out.trans Oc.out.old).trans Oi.out.old⟩
    · subst ey
      clear vy
      go_wp2_with (fail)
      refine (dead_any w9 P V8 _ _ O9.out.med).mono ?_
      rintro e wa ⟨rfl, ha, ka⟩
      have Oa := Hid.mk (O9.out.p ha ka)
      clear ha ka
      go_wp2_with (fail)
      refine (size_any wa P V8 _ _ Oa.out.med).mono ?_
      rintro e wb ⟨rfl, hb, kb⟩
      have Ob := Hid.mk (Oa.out.p hb kb)
      clear hb kb
      simp only [hl3.out]
      clear vlf
      go_wp2_with (fail)
      refine (revive_any wb P V8 _ _ Ob.out.med).mono ?_
      rintro e wc ⟨rfl, hc, kc⟩
      have Oc := Hid.mk (Ob.out.p hc kc)
      clear hc kc
      go_wp2_with (fail)
      refine (CP.out wc).mono ?_
      rintro e wd ⟨rfl, hwd⟩
      obtain rfl := hwd.symm
      by_cases hz0 : 0 < z
      · go_wp2_with (fail)
        refine (append_ok wc P V8 _ _ so m c l Oc.out.med ⟨by simp only [hl3.out]; have := HZ.out.2; have := HQ.out; omega, ?_, by simp, by simp, by simp, by simp⟩ (HS.out.rd.keep (K2.out.trans Oc.out.old)) HS.out.len HS.out.non HP.out rfl (by simp only [hl3.out]; have := HZ.out.2; have := HQ.out; omega) (by simp)).mono ?_
        · intro b hb
          simp only [List.mem_append] at hb
          rcases hb with hb | hb
          · exact HS.out.by_ b hb
          · exact HS.out.by_ b (List.mem_of_mem_take hb)
        rintro e we ⟨Ve, rfl, he, ke, le⟩
        have Oe := Hid.mk (Oc.out.v he ke le)
        clear he ke le
        simp only [hl3.out]
        go_wp2_with (fail)
        refine (size_any we P Ve _ _ Oe.out.med).mono ?_
        rintro e wf ⟨rfl, hf, kf⟩
        have Of := Hid.mk (Oe.out.p hf kf)
        clear hf kf
        have hl4 : (l ++ l.take 3 ++ l).length = lf + m := by rw [List.length_append, hl3.out, HS.out.len]
        have vz := HV.out.2.2
        simp only [hl4]
        clear hl4
        go_wp2
        go_ret
        exact ⟨rfl, K2.out.trans Of.out.old⟩
      · have SLF : ∀ u, Sem.run Try.prog (Instr.slice 29 (.slice (some ⟨T, 0, none⟩) M M) none (some (.int .i64 268435456)) none) u = .ok (.slice (some ⟨T, 0, none⟩) F M) u := fun u => by
          have := slice_h (some ⟨T, 0, none⟩) M M F (by have := HMF.out; omega) u
          rw [show ((F : Nat) : Int) = 268435456 by have := HMF.out; omega] at this
          exact this
        have iM : (268435456 : Int) ≤ (M : Int) := by have := HMF.out; omega
        go_wp2_with (fail)
        refine (load_ok (some ⟨T, 0, none⟩) F M (List.replicate F 0) wc (reads_zero F (Oc.out.old.heap HT.out (by simp)) (by have := HMF.out; omega)) (by simp) (by simp) (by have := HMF.out; omega)).mono ?_
        rintro e we ⟨P2, V2, rfl, he, ke, fe⟩
        have Oe : Hid (Ow wc we P2 V2 (.slice none 0 0) ⟨List.replicate F 0, [], false, 0, 0⟩) := Hid.mk ⟨he, fe, ke⟩
        clear he ke fe SLF iM
        go_wp2_with (fail)
        obtain ⟨wf, ewf, kf, hbf⟩ := alloc_new we (.cells #[.int .u8 1] 5 (0, 0))
        rw [ewf]
        have Of := Hid.mk (Oe.out.keep kf)
        clear ewf
        refine (append_full wf P2 V2 _ _ (some ⟨we.heap.size, 0, none⟩) 1 1 Of.out.med (by simp; have := HMF.out; omega) rfl (by simp; have := HMF.out; omega)).mono ?_
        rintro e wg ⟨rfl, hg, kg⟩
        have Og := Hid.mk (Of.out.p hg kg)
        clear hg kg kf hbf
        go_wp2_with (fail)
        refine (append_ok wg P2 V2 _ _ none 0 0 [] Og.out.med ⟨by simp; have := HMF.out; omega, byts_zero F, by simp, by simp, by simp, by simp⟩ (.inl rfl) rfl (fun _ => rfl) (.inl rfl) rfl (by simp; have := HMF.out; omega) (by simp)).mono ?_
        rintro e wh ⟨Vh, rfl, hh, kh, lh⟩
        have Oh := Hid.mk (Og.out.v hh kh lh)
        clear hh kh lh
        have eF1 : ((List.replicate F 0).length : Int) = 268435456 := by have := HMF.out; simp; omega
        simp only [eF1]
        go_wp2_with (fail)
        refine (size_any wh P2 Vh _ _ Oh.out.med).mono ?_
        rintro e wi ⟨rfl, hi, ki⟩
        have Oi := Hid.mk (Oh.out.p hi ki)
        clear hi ki
        have eF2 : ((List.replicate F 0 ++ ([] : List Nat)).length : Int) = 268435456 := by have := HMF.out; simp; omega
        simp only [eF2]
        go_wp2
        go_ret
        exact ⟨rfl, (K2.out.trans Oc.out.old).trans Oi.out.old⟩
end Go.Proofs.Ytiojcfffhcipnaa
