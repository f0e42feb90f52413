import Derived.Test.YtodlkpcbkilglaaDoorUz
namespace Go.Proofs.YtodlkpcbkilglaaDoor
open Go.RowKit Go.Shelf

/-- What a frame is packed as, by one of both. -/
def pkL (v : Bool) (W : Int) (h : Nat) (A : Bool) (F : Nat → Nat → Nat) : List Nat := if v = true then ctN (v2L W) (v2R W F) (1 * h) else ctN (plL W h) (plR W h F) (np A * h)
/-- The bytes of a list. -/
def gb (l : List Nat) (i : Nat) : Nat := l.getD i 0
theorem range_gb (l : List Nat) : (List.range l.length).map (gb l) = l := by
  apply List.ext_getElem?
  intro i
  by_cases h : i < l.length
  · rw [List.getElem?_map, List.getElem?_range h]
    simp [gb, h]
  · rw [List.getElem?_eq_none (by simpa using h), List.getElem?_eq_none (by omega)]
theorem gb_lt {l : List Nat} (h : ∀ b ∈ l, b < 256) (i : Nat) (hi : i < l.length) : gb l i < 256 := by
  unfold gb
  rw [List.getD_eq_getElem?_getD, List.getElem?_eq_getElem hi]
  exact h _ (List.getElem_mem hi)
theorem plE_zero {W H D : Int} {A : Bool} {M : Nat} {fb : Nat → Nat} (h : plE W H D A M fb = 0) : shE W H D A = 0 ∧ M = ctL (plL W H.toNat) (np A * H.toNat) ∧ vE W H D A (np A) (pz W H) (pnF W H.toNat fb) = 0 := by
  unfold plE at h
  split at h
  · split at h
    · split at h
      · exact ⟨by assumption, by assumption, by assumption⟩
      · cases h
    · cases h
  · cases h
theorem v2E_zero {W H D : Int} {A : Bool} {M : Nat} {fb : Nat → Nat} (h : v2E W H D A M fb = 0) : shE W H D A = 0 ∧ (D = 10 ∧ A = false) ∧ M = ctL (v2L W) (1 * H.toNat) ∧ ∀ k, k < H.toNat → rwOk W fb k := by
  unfold v2E at h
  split at h
  · split at h
    · split at h
      · split at h
        · exact ⟨by assumption, by assumption, by assumption, by assumption⟩
        · cases h
      · cases h
    · cases h
  · cases h
/-- Bytes that are read are what their frame is packed as. -/
theorem un_yes {v : Bool} {W H D : Int} {A : Bool} {l : List Nat} (hl : ∀ b ∈ l, b < 256) (h : unE v W H D A l.length (gb l) = 0) : ∃ k : Nat, H = (k : Int) ∧ Vld W (k : Int) D A (np A) (pz W (k : Int)) (unF v W H (gb l)) ∧ (v = true → D = 10 ∧ A = false) ∧ 1 ≤ l.length ∧
    ∀ F : Nat → Nat → Nat, (∀ i, i < np A → ∀ j, j < pz W (k : Int) i → F i j = unF v W H (gb l) i j) → pkL v W k A F = l := by
  cases v with
  | false =>
    obtain ⟨h1, h2, h3⟩ := plE_zero (show plE W H D A l.length (gb l) = 0 from h)
    have hs := shp_of h1
    obtain ⟨k, rfl⟩ : ∃ k : Nat, H = (k : Int) := ⟨H.toNat, by have := hs.2.1; omega⟩
    have hk1 : 1 ≤ k := by have := hs.2.1; omega
    have hw : ∀ p, 1 ≤ wdN W p := fun p => (wdN_ok hs p).1
    have h2' : l.length = ctL (plL W k) (np A * k) := h2
    have hV := vE_zero.1 h3
    have hg := pnF_good (h := k) hw (np A * k) (fun i hi => gb_lt hl i (by omega))
    refine ⟨k, rfl, hV, fun h => (by cases h), ?_, fun F hF => ?_⟩
    · have hm := ctL_mono (plL W k) (show 1 ≤ np A * k from Nat.mul_pos (by have := np_lo A; omega) hk1)
      have h5 : ctL (plL W k) 1 = 0 + plL W k 0 := rfl
      have h6 : plL W k 0 = 2 * wdN W (0 / k) := rfl
      have h7 := hw (0 / k)
      omega
    · show ctN (plL W k) (plR W k F) (np A * k) = l
      rw [ctN_eq (plL W k) (plR W k F) (gb l) (np A * k) (fun q hq t ht => ?_), ← h2', range_gb]
      rw [hg q hq t ht]
      unfold plR plB
      have hi : q / k < np A := Nat.div_lt_of_lt_mul (by rw [Nat.mul_comm]; exact hq)
      have ht2 : t / 2 < wdN W (q / k) := by have : t < 2 * wdN W (q / k) := ht; omega
      have hl2 := hV.len (q / k) hi
      obtain ⟨m1, m2, m3⟩ := wdN_ok hs (q / k)
      rw [← m3, ← Int.natCast_mul] at hl2
      have hy : q % k + 1 ≤ k := Nat.mod_lt _ hk1
      have hb : (q % k + 1) * wdN W (q / k) ≤ k * wdN W (q / k) := Nat.mul_le_mul_right _ hy
      rw [Nat.add_mul, Nat.one_mul, Nat.mul_comm k] at hb
      have he := hF (q / k) hi (q % k * wdN W (q / k) + t / 2) (by omega)
      show _ = F (q / k) (q % k * wdN W (q / k) + t / 2) / 256 ^ (t % 2) % 256
      rw [he]
      rfl
  | true =>
    obtain ⟨h1, hDA, h2, h3⟩ := v2E_zero (show v2E W H D A l.length (gb l) = 0 from h)
    have hs := shp_of h1
    obtain ⟨k, rfl⟩ : ∃ k : Nat, H = (k : Int) := ⟨H.toNat, by have := hs.2.1; omega⟩
    have hk1 : 1 ≤ k := by have := hs.2.1; omega
    have hw : ∀ p, 1 ≤ wdN W p := fun p => (wdN_ok hs p).1
    have h2' : l.length = ctL (v2L W) (1 * k) := h2
    have h3' : ∀ q, q < k → rwOk W (gb l) q := h3
    have hV : Vld W (k : Int) D A (np A) (pz W (k : Int)) (vnF W (gb l)) := vld_zero hs _ (fun i hi j hj => by have h8 := vnF_lt W (gb l) i j; have h9 : mx D = 1023 := (by rw [hDA.1]; rfl); omega)
    have hg := vnF_good hw (1 * k) (fun i hi => gb_lt hl i (by omega)) (fun q hq => h3' q (by omega))
    refine ⟨k, rfl, hV, fun _ => hDA, ?_, fun F hF => ?_⟩
    · have hm := ctL_mono (v2L W) (show 1 ≤ 1 * k by omega)
      have h5 : ctL (v2L W) 1 = 0 + v2L W 0 := rfl
      have h6 : v2L W 0 = 4 * ((wdN W 0 + 47) / 48 * 32) := rfl
      have h7 := hw 0
      omega
    · show ctN (v2L W) (v2R W F) (1 * k) = l
      rw [ctN_eq (v2L W) (v2R W F) (gb l) (1 * k) (fun q hq t ht => ?_), ← h2', range_gb]
      rw [hg q hq t ht]
      unfold v2R v2B
      have hS : ∀ s, v2S (fun p x => vnF W (gb l) p (q * wdN W p + x)) (wdN W) s = v2S (fun p x => F p (q * wdN W p + x)) (wdN W) s := fun s => by
        unfold v2S
        split
        · rename_i hx
          have hp : gP (s % 12) < np A := by have := np_lo A; unfold gP; split <;> (try split) <;> omega
          have hl2 := hV.len _ hp
          obtain ⟨m1, m2, m3⟩ := wdN_ok hs (gP (s % 12))
          rw [← m3, ← Int.natCast_mul] at hl2
          have hb : (q + 1) * wdN W (gP (s % 12)) ≤ k * wdN W (gP (s % 12)) := Nat.mul_le_mul_right _ (by omega)
          rw [Nat.add_mul, Nat.one_mul, Nat.mul_comm k] at hb
          exact (hF _ hp _ (by omega)).symm
        · rfl
      unfold v2W
      rw [hS, hS, hS]
/-- Bytes of the same length are read, or one of their samples is wrong. -/
theorem un_other {v : Bool} {W H D : Int} {A : Bool} {M : Nat} {fb fb' : Nat → Nat} (h : unE v W H D A M fb = 0) : unE v W H D A M fb' = 0 ∨ unE v W H D A M fb' = 73 := by
  cases v with
  | false =>
    obtain ⟨h1, h2, h3⟩ := plE_zero (show plE W H D A M fb = 0 from h)
    show plE W H D A M fb' = 0 ∨ plE W H D A M fb' = 73
    unfold plE
    rw [if_pos h1, if_pos h2]
    split
    · exact .inl rfl
    · exact .inr rfl
  | true =>
    obtain ⟨h1, hDA, h2, h3⟩ := v2E_zero (show v2E W H D A M fb = 0 from h)
    show v2E W H D A M fb' = 0 ∨ v2E W H D A M fb' = 73
    unfold v2E
    rw [if_pos h1, if_pos hDA, if_pos h2]
    split
    · exact .inl rfl
    · exact .inr rfl
end Go.Proofs.YtodlkpcbkilglaaDoor
