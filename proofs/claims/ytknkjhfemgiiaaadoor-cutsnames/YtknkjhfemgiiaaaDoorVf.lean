import Derived.Test.YtknkjhfemgiiaaaDoorVe
namespace Go.Proofs.YtknkjhfemgiiaaaDoor
open Go.RowKit Go.Lib

set_option maxHeartbeats 8000000 in
set_option maxRecDepth 1000000 in
theorem checkText_any (s : ByteArray) (w : World) (hs : s.size ≤ maxLen) : Calls Tryd.prog 7 #[.string s] w fun e w' => CtP s w e w' := by
  unfold maxLen at hs
  unfold CtP
  by_cases hl : 20000 < s.size
  · have hE : ctE s = some (0, 191) := by unfold ctE; rw [if_pos hl]
    rw [hE]
    have hl2 : (20000 : Int) < (s.size : Int) := by omega
    clear hE hl
    go_enter Tryd.func7, Tryd.ntmps7
    go_wp2
    go_ret
    exact ⟨_, rfl, ⟨_, rfl, heap_alloc_new _ _⟩, alloc_kept _ _⟩
  · obtain ⟨R, eR⟩ : ∃ R, ctF s s.size 0 = R := ⟨_, rfl⟩
    obtain ⟨ER, eER⟩ : ∃ ER, ctE s = ER := ⟨_, rfl⟩
    have HE : Hid ((∀ k, R = some k → ER = some ((k : Int), 192)) ∧ (R = none → ER = none)) := Hid.mk (by
      unfold ctE at eER
      rw [if_neg hl, eR] at eER
      exact ⟨fun k hk => by rw [hk] at eER; exact eER.symm, fun hk => by rw [hk] at eER; exact eER.symm⟩)
    rw [eER]
    have HR0 := Hid.mk eR
    have hl2 : ¬ (20000 : Int) < (s.size : Int) := by omega
    have k0 : Kept [] w (w.iter s 0) := alloc_kept _ _
    have i0 := World.iter_heap w s 0
    have H0 := Hid.mk (And.intro k0 i0)
    clear k0 i0 eR eER
    go_enter Tryd.func7, Tryd.ntmps7
    go_wp2
    go_loopw [3, 4] (fun _ _ wr => ∃ k : Nat, ctF s s.size k = R ∧ wr.heap[w.heap.size]? = some (.stringIter s k) ∧ Kept [] w wr) (fun _ _ wr => s.size - wr.iterPos w.heap.size)
    case atStart => exact ⟨0, HR0.out, H0.out.2, H0.out.1⟩
    case round =>
      obtain ⟨k, hR, hit, hkw⟩ := hrel
      clear H0 HR0
      by_cases hlt : k < s.size
      · have hnx0 := fun ty => run_next_any_at (P := Tryd.prog) wr w.heap.size s k ty hit hlt
        have ip := iterPos_of hit
        have hd1 : 1 ≤ dn s k := decode_width_pos s k hlt
        have hk2 : Kept [w.heap.size] wr (wr.iterAt w.heap.size s (k + dn s k)) := ⟨rfl, rfl, rfl, by rw [iterAt_size]; exact Nat.le_refl _, fun i _ hi => iterAt_other _ _ _ _ _ (by simpa using hi)⟩
        have hi2 := iterAt_heap wr w.heap.size s k (k + dn s k) hit
        have hz : s.size = (s.size - 1) + 1 := by omega
        have hR2 : (if rn s k = 65533 ∧ pfx s k = false then some k else ctF s (s.size - 1) (k + dn s k)) = R := by
          rw [← hR]; conv => rhs; rw [hz]
          simp only [ctF, if_pos hlt]
        have hR3 : ctF s (s.size - 1) (k + dn s k) = ctF s s.size (k + dn s k) := ctF_fuel s _ _ _ (by omega) (by omega)
        rw [hR3] at hR2
        obtain ⟨wa, ewa⟩ : ∃ wa, wr.iterAt w.heap.size s (k + dn s k) = wa := ⟨_, rfl⟩
        obtain ⟨r, er⟩ : ∃ r, rn s k = r := ⟨_, rfl⟩
        obtain ⟨d, ed⟩ : ∃ d, dn s k = d := ⟨_, rfl⟩
        have hnx : ∀ ty, (Instr.next (.pointer (some ⟨w.heap.size, 0, none⟩)) true ty).run Tryd.prog wr = .ok (.tuple #[.bool true, .int .i64 (k : Int), .int .i32 r]) wa := fun ty => by rw [hnx0, ← er, ← ewa]; rfl
        rw [ewa] at hk2 hi2
        rw [ed] at hi2 hd1 hR2
        rw [er] at hR2
        have CP := Hid.mk (fun u => hasPre (s.extract k s.size) u)
        have ePf : Lib.hasPrefix (s.extract k s.size).data.toList [239, 191, 189] = pfx s k := rfl
        rw [ePf] at CP
        unfold reB at CP
        generalize pfx s k = b at *
        have HI := Hid.mk ip
        have HA := Hid.mk (And.intro hi2 (hkw.step hk2 (fun x hx => by simp at hx; omega)))
        have hkl : (k : Int) ≤ (s.size : Int) := by omega
        clear hnx0 ip hk2 hi2 hit hkw ewa er ed hz hR3 hR ePf
        by_cases h5 : r = 65533
        · subst h5
          cases b with
          | false =>
            have HF := Hid.mk (HE.out.1 k (by simpa using hR2.symm))
            clear hR2
            go_wp2_with (go_at_call 13; refine (CP.out _).mono ?_; rintro e w' ⟨rfl, rfl⟩)
            go_ret
            rw [HF.out]
            exact ⟨_, rfl, ⟨_, rfl, heap_alloc_new _ _⟩, HA.out.2.alloc _⟩
          | true =>
            have HF : Hid (ctF s s.size (k + d) = R) := Hid.mk (by simpa using hR2)
            clear hR2
            go_wp2_with (go_at_call 13; refine (CP.out _).mono ?_; rintro e w' ⟨rfl, rfl⟩)
            refine ⟨⟨k + d, HF.out, HA.out.1, HA.out.2⟩, ?_⟩
            rw [HI.out, iterPos_of HA.out.1]; omega
        · have HF : Hid (ctF s s.size (k + d) = R) := Hid.mk (by rw [if_neg (fun h => h5 h.1)] at hR2; exact hR2)
          clear hR2
          go_wp2_with (go_at_call 13; refine (CP.out _).mono ?_; rintro e w' ⟨rfl, rfl⟩)
          refine ⟨⟨k + d, HF.out, HA.out.1, HA.out.2⟩, ?_⟩
          rw [HI.out, iterPos_of HA.out.1]; omega
      · have hnx := fun ty => run_next_end_at (P := Tryd.prog) wr w.heap.size s k ty hit hlt
        have HF := Hid.mk (HE.out.2 (by rw [← hR]; exact ctF_end _ _ _ hlt))
        have HK := Hid.mk hkw
        clear hR hkw hit
        go_wp2
        go_ret
        rw [HF.out]
        exact ⟨_, rfl, rfl, HK.out⟩
end Go.Proofs.YtknkjhfemgiiaaaDoor
