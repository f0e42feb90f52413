import Derived.Test.YtjnmnkheichflabRw
namespace Go.Proofs.Ytjnmnkheichflab
open Go.RowKit

/-- Written over. -/
def xr (L : List (List Nat)) (n i : Nat) : List Nat := if i < n then x90 (L.getD i []) ++ x90 (List.replicate 70 167) else [167]
def gk (L : List (List Nat)) (n k i : Nat) : List Nat := if i < k then xr L n i else lr L n i

theorem Lm.upd {w w' : World} {G n : Nat} {cb : Nat → Nat} {L : List (List Nat)} {R R2 : Nat → List Nat} {k : Nat} (h : Lm w G n cb L R) (hk : k < n + 4) (hw : Kept [cb k] w w') (hr : Row w' (cb k) (R2 k)) (hR : ∀ i, i < n + 4 → i ≠ k → R2 i = R i) : Lm w' G n cb L R2 := by
  refine ⟨fun i hi => cell_keep hw (h.out i hi) (by simpa using (h.ne k hk).symm), fun i hi => ?_, h.ne, h.inj⟩
  by_cases e : i = k
  · subst e; exact hr
  · rw [hR i hi e]
    exact (h.row i hi).keep hw (by simpa using fun e2 => e (h.inj i k hi hk e2))
theorem Lm.congr {w : World} {G n : Nat} {cb : Nat → Nat} {L : List (List Nat)} {R R2 : Nat → List Nat} (h : Lm w G n cb L R) (hR : ∀ i, i < n + 4 → R2 i = R i) : Lm w G n cb L R2 :=
  ⟨h.out, fun i hi => by rw [hR i hi]; exact h.row i hi, h.ne, h.inj⟩
theorem Lm.reads2 {w : World} {G n : Nat} {cb : Nat → Nat} {L : List (List Nat)} (h : Lm w G n cb L (xr L n)) (hn : L.length = n) : MR w (some ⟨G, 0, none⟩) (L.map x90) := by
  refine .inr ⟨G, 0, rfl, fun i hi => ?_⟩
  have hi2 : i < n := by rw [List.length_map] at hi; omega
  have h1 := h.out i (by omega)
  have h2 := h.row i (by omega)
  unfold lv at h1
  unfold xr at h2
  rw [if_pos hi2] at h1 h2
  have e : (L.map x90).getD i [] = x90 (L.getD i []) := by
    have : i < L.length := by omega
    simp [this]
  rw [Nat.zero_add, e, x90_length]
  exact ⟨_, _, h1, heap_left h2⟩

set_option maxHeartbeats 4000000 in
set_option maxRecDepth 1000000 in
theorem given_any (wA : World) (am : Option Addr) (cap n G : Nat) (cb : Nat → Nat) (L : List (List Nat)) (w : World) (hM : MR wA am L) (hn : L.length = n) (hB : Bm L) (hw : ∀ i, i < n → (L.getD i []).length ≤ 140737488351232) (hl : n * 24 ≤ 140737488351232) (hA : Below wA.heap.size wA w) (hL : Lm w G n cb L (lr L n)) (hc : ∀ i, i < n + 4 → wA.heap.size ≤ cb i) :
    Calls Try.prog 15 #[.slice (some ⟨G, 0, none⟩) n (n + 4), .slice am n cap] w fun e w' => e = .returned (.bool true) ∧ Lm w' G n cb L (xr L n) ∧ Kept ((List.range n).map cb) w w' := by
  have HM := Hid.mk hM
  have Hn := Hid.mk hn
  have HBm := Hid.mk hB
  have HW := Hid.mk hw
  have HA := Hid.mk hA
  have HL := Hid.mk (hL.congr (R2 := gk L n 0) (fun i _ => if_neg (by omega)))
  have HC := Hid.mk hc
  have SA : Hid (wA.heap.size ≤ w.heap.size) := Hid.mk hA.size
  clear hM hn hB hw hA hL hc
  go_enter Try.func15, Try.ntmps15
  go_wp2
  go_loopw [6, 7] (fun s6 s7 wr => ∃ k : Nat, k ≤ n + 4 ∧ s6 = .bool true ∧ s7 = .int .i64 (k : Int) ∧ Lm wr G n cb L (gk L n k) ∧ Kept ((List.range n).map cb) w wr) (fun _ s _ => (n + 4) - (intOf s).toNat)
  case atStart => exact ⟨0, by omega, rfl, rfl, HL.out, Kept.refl _ _⟩
  case round =>
    obtain ⟨k, hk, rfl, rfl, hm, hkr⟩ := hrel
    clear HL
    by_cases hlt : k < n
    · have hkk : Kept [] wA wr := Kept.of_below (HA.out.trans (hkr.below SA.out (fun x hx => by
        simp only [List.mem_map, List.mem_range] at hx
        obtain ⟨i, hi, rfl⟩ := hx
        exact HC.out i (by omega))))
      obtain ⟨g, off, bo, cp, hao, hc0, hrd⟩ := HM.out.at (i := k) (by have := Hn.out; omega)
      have e1 := cell_keep hkk hc0 (by simp)
      have e2 := hm.out k (by omega)
      unfold lv at e2
      rw [if_pos hlt] at e2
      have hrow := hm.row k (by omega)
      unfold gk lr at hrow
      rw [if_neg (by omega), if_pos hlt] at hrow
      have hl2 := HW.out k hlt
      have C0 : Hid (∀ q, Calls Try.prog 40 #[.slice (some ⟨cb k, 0, none⟩) (L.getD k []).length ((L.getD k []).length + 70), .slice bo (L.getD k []).length cp] (wr.drewN q) fun e w' => e = .returned (.bool true) ∧ Row w' (cb k) (xr L n k) ∧ Kept [cb k] (wr.drewN q) w') := Hid.mk (fun q => by
        have hkq : Kept [] wr (wr.drewN q) := (Kept.refl [] wr).drewN q
        have := back_call (cb k) bo cp (L.getD k []).length (L.getD k []) (wr.drewN q) ((hrd.keep hkk).keep hkq) (HBm.out.at k) rfl (by omega) (hkq.heap hrow (by simp)) (fun hp b off2 e => by
          have h1 := hrd.lt hp b off2 e
          have h2 := HC.out k (by omega)
          omega)
        refine this.mono fun e w' ⟨he, hr, hk⟩ => ⟨he, ?_, hk⟩
        unfold Row xr
        rw [if_pos hlt, ← x90_app]
        exact hr)
      have HMm := Hid.mk hm
      have HK := Hid.mk hkr
      obtain ⟨mm, em⟩ : ∃ mm, mm = (L.getD k []).length := ⟨_, rfl⟩
      rw [← em] at e1 e2 C0 hl2
      clear em hm hkr hkk hc0 hrd hrow
      subst hao
      have i1 : (k : Int) < (n : Int) := by omega
      have i2 : (k : Int) < (n : Int) + 4 := by omega
      go_wp2
      go_quiet (fail)
      go_wp2
      go_region_law (first | (go_simp; go_at_call 40; refine (C0.out _).mono ?_; rintro e w5 ⟨rfl, hr5, hk5⟩))
      all_goals (have M5 := Hid.mk ((HMm.out.keep ((Kept.refl [] wr).drewN _) (by simp) (by simp)).upd (R2 := gk L n (k + 1)) (by omega) hk5 (by unfold gk; rw [if_pos (by omega)]; exact hr5) (fun i _ hn => by
        unfold gk
        have h1 : (i < k + 1) = (i < k) := by apply propext; omega
        simp only [h1])))
      all_goals (have K5 := Hid.mk ((HK.out.drewN _).step hk5 (fun x hx => .inl (by simp at hx; subst hx; simp; exact ⟨k, hlt, rfl⟩))))
      all_goals clear hr5 hk5 e1 e2 HMm HK
      all_goals go_wp2
      all_goals go_roundw
      all_goals first
        | exact ⟨k + 1, by omega, rfl, by go_num, M5.out, K5.out⟩
        | (simp [intOf]; omega)
    · by_cases hlt4 : k < n + 4
      · have e2 := hm.out k hlt4
        unfold lv at e2
        rw [if_neg hlt] at e2
        have hrow := hm.row k hlt4
        unfold gk lr at hrow
        rw [if_neg (by omega), if_neg hlt] at hrow
        have s1 := str_one wr (cb k) 167 { data := #[167] } rfl hrow
        have M5 := Hid.mk (hm.congr (R2 := gk L n (k + 1)) (fun i _ => by
          unfold gk
          by_cases e : i = k
          · subst e
            rw [if_pos (by omega), if_neg (by omega)]
            unfold xr lr
            rw [if_neg hlt, if_neg hlt]
          · have h1 : (i < k + 1) = (i < k) := by apply propext; omega
            simp only [h1]))
        have HK := Hid.mk hkr
        clear hm hkr hrow
        have i1 : ¬ (k : Int) < (n : Int) := by omega
        have i2 : (k : Int) < (n : Int) + 4 := by omega
        have i3 : decide ((k : Int) < (n : Int)) = false := by simp; omega
        go_wp2
        go_roundw
        case rel => exact ⟨k + 1, by omega, rfl, by go_num, M5.out, HK.out⟩
        case measure => simp [intOf]; omega
      · obtain rfl : k = n + 4 := by omega
        have M5 := Hid.mk (hm.congr (R2 := xr L n) (fun i hi => by unfold gk; rw [if_pos hi]))
        have HK := Hid.mk hkr
        clear hm hkr
        go_wp2
        go_ret
        exact ⟨rfl, M5.out, HK.out⟩
end Go.Proofs.Ytjnmnkheichflab
