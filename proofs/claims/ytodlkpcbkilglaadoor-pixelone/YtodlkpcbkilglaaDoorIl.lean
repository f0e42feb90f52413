import Derived.Test.YtodlkpcbkilglaaDoorRl
namespace Go.Proofs.YtodlkpcbkilglaaDoor
open Go.RowKit Go.Shelf
attribute [local go_sem] Oper.semAt_some

set_option maxHeartbeats 8000000 in
set_option maxRecDepth 1000000 in
theorem iterL_v210 (l Bk Bf : Nat) (W D : Int) (A : Bool) (po : Option Addr) (n c h : Nat) (ln pb pf pc wd : Nat → Nat) (hn : n = np A) (h1 : 1 ≤ h) (h2 : h ≤ 4096)
    (hln : ∀ i, i < n → ln i = wd i * h ∧ 1 ≤ wd i ∧ wd i ≤ 4096) (hpc : ∀ i, i < n → ln i ≤ pc i) (J : Nat → World → Prop) (E : World → Prop) (t : Nat)
    (hJF : ∀ k W', J k W' → Rio W' Bk Bf 66 67 68 69 70 W h D A po n c ln pb pf pc) (hJk : ∀ k W' W'', J k W' → Kept [] W' W'' → J k W'')
    (hY : ∀ k W' i y v, J k W' → k = i * h + y → i < 1 → y < h → Yv W' 3 pb pf pc wd ((fun _ j => j) i) y v → YieldAt Fence.wide 0 Tryd.prog l v W' (fun e W'' => (e = .returned (.bool true) ∧ J (k + 1) W'' ∨ e = .returned (.bool false) ∧ E W'') ∧ Fu t W' W'')) (W0 : World) (h0 : J 0 W0) (ht : t ≤ W0.heap.size) :
    CallsIn Fence.wide 0 Tryd.prog 93 #[.func (.yield l) #[] #[], .pointer (some ⟨Bk, 0, none⟩), .pointer (some ⟨Bf, 0, none⟩)] W0 (fun e W' => (∃ v, e = .returned v) ∧ (J (1 * h) W' ∨ E W')) := by
  refine callsIn_of_wp Tryd.func93 rfl trivial ?_ rfl
  simp only [Tryd.ntmps93, List.size_toArray, List.length_cons, List.length_nil, Nat.reduceAdd, Nat.reduceSub, Array.replicate_succ, Array.replicate_zero, List.push_toArray, List.append_toArray, List.nil_append, List.cons_append]
  have HJ := Hid.mk hJF
  have HK := Hid.mk hJk
  have HY := Hid.mk hY
  have HL := Hid.mk hln
  have HP := Hid.mk hpc
  have HN := Hid.mk hn
  have CS := Hid.mk (fun u => nsets67 W (h : Int) D A u)
  clear hJF hJk hY hln hpc hn
  obtain ⟨f0, f1, f2, f3, f4, hF, hP⟩ := HJ.out 0 W0 h0
  obtain ⟨d0, d1, d2, d3, d4⟩ := hF
  have h3 : np A ≤ 4 := np_hi A
  gi_wp2
  refine ⟨trivial, rfl, (callsIn_wide.2 (CS.out _)).mono ?_⟩
  rintro e w2 ⟨sg, sc, rfl, hns, hk2⟩
  have hJ1 := HK.out _ _ _ h0 hk2
  have HNS := Hid.mk hns
  clear f0 f1 f2 f3 f4 d0 d1 d2 d3 d4 hP h0 hns
  gi_wp2
  gi_loopw [13] (fun x wr => ∃ i : Nat, i ≤ 1 ∧ x = .int .i64 (i : Int) ∧ J (i * h) wr ∧ Fu t w2 wr) (fun x _ => 1 - (intOf x).toNat)
  case atStart => exact ⟨0, by omega, rfl, by simpa using hJ1, Fu.refl _ _⟩
  case round =>
    obtain ⟨i, hi, rfl, hJ, hkr⟩ := hrel
    obtain ⟨f0, f1, f2, f3, f4, hF, hP⟩ := HJ.out _ _ hJ
    obtain ⟨d0, d1, d2, d3, d4⟩ := hF
    by_cases hlt : i < 1
    · have iq : (i : Int) < (1 : Int) := by omega
      have HLT := Hid.mk hlt
      obtain ⟨_, hns⟩ := HNS.out.fu hkr ht
      obtain ⟨sb, sc2, sbl, t1, t2⟩ := hns i hlt
      obtain ⟨wo, ewo⟩ : ∃ wo, wo = wr := ⟨_, rfl⟩
      have HKR := Hid.mk hkr
      rw [← ewo] at HKR t2
      have HTT := Hid.mk (And.intro sbl t2)
      clear sbl t2 hkr hns hP
      gi_wp2
      gi_loopw [20] (fun x wr2 => ∃ y : Nat, y ≤ h ∧ x = .int .i64 (y : Int) ∧ J (i * h + y) wr2 ∧ Fu t wo wr2) (fun x _ => h - (intOf x).toNat)
      case atStart => exact ⟨0, by omega, rfl, by simpa using hJ, by rw [ewo]; exact Fu.refl _ _⟩
      case round =>
        obtain ⟨y, hy, rfl, hJ2, hkr2⟩ := hrel
        clear f0 f1 f2 f3 f4 d0 d1 d2 d3 d4 t1
        obtain ⟨f0, f1, f2, f3, f4, hF, hP⟩ := HJ.out _ _ hJ2
        obtain ⟨d0, d1, d2, d3, d4⟩ := hF
        by_cases hyl : y < h
        · have yh : (y : Int) < (h : Int) := by omega
          have HSI : ∀ j : Nat, j < 3 → (fun _ j => j) i j < n := by
            intro j hj
            show j < n
            have h5 := HN.out
            have h6 := np_lo A
            have h7 := HLT.out
            omega
          have CR := Hid.mk (rowOf_any W D A po n c h y 3 sb sc2 ln pb pf pc (fun j => wd ((fun _ j => j) i j)) ((fun _ j => j) i) wr hP HP.out h1 h2 hyl (by omega) (fun j hj => ⟨hkr2.cell (HTT.out.2 j hj) (by have := HTT.out.1; omega), HSI j hj⟩) (fun j hj => HL.out _ (HSI j hj)))
          clear HSI
          have HF2 := Hid.mk hkr2
          clear hP hkr2
          gi_wp2
          refine ⟨trivial, rfl, (callsIn_wide.2 CR.out).mono ?_⟩
          rintro e w3 ⟨rfl, hrw, hk3⟩
          have hJ3 := HK.out _ _ _ hJ2 hk3
          obtain ⟨fn, tmps, assign, body, hyy, hR⟩ := HY.out _ _ i y _ hJ3 rfl HLT.out hyl ⟨_, rfl, hrw⟩
          gi_wp2
          refine ⟨rfl, hR.mono ?_⟩
          rintro e W4 ⟨⟨rfl, hJ4⟩ | ⟨rfl, hE4⟩, hf4⟩
          · gi_wp2
            go_roundw
            case rel => exact ⟨y + 1, by omega, by go_num, by rw [← Nat.add_assoc]; exact hJ4, (HF2.out.trans (hk3.fu (by simp))).trans hf4⟩
            case measure => first | (simp [intOf]; done) | (simp [intOf]; omega)
          · gi_wp2
            exact bodyPost_ret (results_none rfl _ _ _) rfl ⟨⟨_, rfl⟩, .inr hE4⟩
        · obtain rfl : h = y := by omega
          gi_wp2
          go_roundw
          case rel => exact ⟨i + 1, by have := HLT.out; omega, by go_num, by rw [Nat.add_mul, Nat.one_mul]; exact hJ2, HKR.out.trans hkr2⟩
          case measure => first | (simp [intOf]; done) | (simp [intOf]; omega)
    · obtain rfl : i = 1 := by omega
      gi_wp2
      go_end0
      exact ⟨⟨_, rfl⟩, .inl hJ⟩
end Go.Proofs.YtodlkpcbkilglaaDoor
