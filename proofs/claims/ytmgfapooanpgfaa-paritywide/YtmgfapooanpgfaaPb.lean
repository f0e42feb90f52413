import Derived.Test.YtmgfapooanpgfaaPa
namespace Go.Proofs.Ytmgfapooanpgfaa
open Go.RowKit

/-- A flat row, to a part of which another row is added f times. -/
def adm (Z : Nat → Nat) (o n f : Nat) (l : List Nat) : Nat → Nat := fun q => if o ≤ q ∧ q < o + n then Z q ^^^ mu f (l.getD (q - o) 0) else Z q
theorem adm_lo {Z : Nat → Nat} (h : ∀ q, Z q < 256) (o n f : Nat) (l : List Nat) : ∀ q, adm Z o n f l q < 256 := by
  intro q
  unfold adm
  split
  · exact xor_lt (h q) (mu_lt _ _)
  · exact h q
/-- Rows that lie apart, or not where it matters. -/
def Apt (bo : Option Addr) (m b o n : Nat) : Prop := 0 < m → ∀ g off, bo = some ⟨g, off, none⟩ → g ≠ b ∨ off + m ≤ o ∨ o + n ≤ off

theorem cell_other {w : World} {g off b o : Nat} {u : Value} (h : g ≠ b ∨ off ≠ o) : (w.setCell ⟨b, o, none⟩ u).cell? ⟨g, off, none⟩ = w.cell? ⟨g, off, none⟩ := by
  by_cases e : g = b
  · subst e
    rcases h with h | h
    · exact absurd rfl h
    · exact World.cell?_setCell_other _ _ _ _ (by intro e; cases e; exact h rfl)
  · exact World.cell?_of_block (a := ⟨g, off, none⟩) (Below.heap_setCell _ _ _ _ (by simpa using e))

theorem Reads.setApt {w : World} {bo : Option Addr} {l : List Nat} {b o n k : Nat} (h : Reads w bo l) (ha : Apt bo l.length b o n) (hk : k < n) (u : Value) : Reads (w.setCell ⟨b, o + k, none⟩ u) bo l := by
  rcases h with h | ⟨g, off, rfl, hc⟩
  · exact .inl h
  · refine .inr ⟨g, off, rfl, fun i hi => ?_⟩
    rw [cell_other (by rcases ha (by omega) g off rfl with h | h | h; exact .inl h; exact .inr (by omega); exact .inr (by omega))]
    exact hc i hi

theorem adm_zero (Z : Nat → Nat) (o f : Nat) (l : List Nat) : adm Z o 0 f l = Z := by
  funext q
  exact if_neg (by omega)
theorem adm_at (Z : Nat → Nat) (o k f : Nat) (l : List Nat) : adm Z o k f l (o + k) = Z (o + k) := if_neg (by omega)
theorem adm_next (Z : Nat → Nat) (o k f : Nat) (l : List Nat) : ∀ j, adm Z o (k + 1) f l j = if j = o + k then Z (o + k) ^^^ mu f (l.getD k 0) else adm Z o k f l j := by
  intro j
  unfold adm
  by_cases e : j = o + k
  · subst e
    rw [if_pos (by omega), if_pos rfl, Nat.add_sub_cancel_left]
  · rw [if_neg e]
    have : (o ≤ j ∧ j < o + (k + 1)) = (o ≤ j ∧ j < o + k) := by apply propext; omega
    simp only [this]
theorem adm_end (Z : Nat → Nat) (o n f k : Nat) (l : List Nat) (h1 : k ≤ n) (h2 : k = n ∨ k = l.length) : adm Z o k f l = adm Z o n f l := by
  funext q
  rcases h2 with rfl | rfl
  · rfl
  · unfold adm
    by_cases a : o ≤ q ∧ q < o + l.length
    · rw [if_pos a, if_pos (by omega)]
    · rw [if_neg a]
      by_cases c : o ≤ q ∧ q < o + n
      · rw [if_pos c, List.getD_eq_getElem?_getD, List.getElem?_eq_none (by omega), Option.getD_none, mu_zero, Nat.xor_zero]
      · rw [if_neg c]

theorem Row.put {w : World} {b T q x : Nat} {P Q : Nat → Nat} {u : Value} (h : Row w b (rg P T)) (hQ : ∀ j, Q j = if j = q then x else P j) (hu : u = byt x) : Row (w.setCell ⟨b, q, none⟩ u) b (rg Q T) := by
  subst hu
  unfold Row at h ⊢
  rw [heap_setCell_at h, List.setIfInBounds_toArray, ← List.map_set]
  congr 4
  apply List.ext_getElem?
  intro j
  by_cases hj : j < T
  · rw [List.getElem?_set, rg_at _ _ _ hj, rg_at _ _ _ hj, rg_length, hQ j]
    by_cases e : q = j
    · subst e; simp [hj]
    · rw [if_neg e, if_neg (Ne.symm e)]
  · rw [List.getElem?_eq_none (by simp [rg_length]; omega), List.getElem?_eq_none (by simp [rg_length]; omega)]

set_option maxHeartbeats 2000000 in
set_option maxRecDepth 1000000 in
theorem padd_any (b o n cap f m cb T : Nat) (bo : Option Addr) (Z : Nat → Nat) (l : List Nat) (hf : f < 256) (w : World) (hr : Row w b (rg Z T)) (hoT : o + n ≤ T) (hZ : ∀ q, Z q < 256) (hl : Byts l) (hm : l.length = m) (ho : f ≠ 0 → Reads w bo l) (hcb : m ≤ cb) (hne : f ≠ 0 → Apt bo l.length b o n) (hn : n ≤ 140737488355328) (hm1 : m ≤ 140737488355328) :
    Calls Try.prog 49 #[.slice (some ⟨b, o, none⟩) n cap, .int .u8 (f : Int), .slice bo m cb] w fun e w' => e = .returned (.tuple #[]) ∧ Row w' b (rg (adm Z o n f l) T) ∧ Kept [b] w w' := by
  by_cases hf0 : f = 0
  · subst hf0
    have HR : Hid (Row w b (rg (adm Z o n 0 l) T)) := Hid.mk (by rw [rg_congr (q := Z) (fun j _ => by rw [adm, zero_mu, Nat.xor_zero, ite_self])]; exact hr)
    clear hr hZ hl ho hne hm hcb
    go_enter Try.func49, Try.ntmps49
    go_wp2
    refine bodyPost_ret (v := .tuple #[]) (results_none rfl _ _ _) rfl ?_
    exact ⟨rfl, HR.out, Kept.refl _ _⟩
  · have hf1 : ((f : Int) == 0) = false := by simp; omega
    obtain ⟨hvT, hiT⟩ := zero_of_info Try.infoT
    clear hiT
    have hsc := table_stored f
    have Hr := Hid.mk hr
    have Hb := Hid.mk hr.lt
    have Ho := Hid.mk (ho hf0)
    have Hne := Hid.mk (hne hf0)
    have Hm := Hid.mk hm
    clear hr hf0 ho hne hm
    go_enter Try.func49, Try.ntmps49
    go_wp2_with (go_at_call 60; refine (pmul_any _ hf _).mono ?_; rintro e w1 ⟨rfl, hk1⟩)
    all_goals (
      clear hsc hvT
      have Hl := Hid.mk hl
      clear hl
      obtain ⟨X, hX⟩ : ∃ X, X = w1.heap.size := ⟨_, rfl⟩
      have Ht : Hid ((w1.alloc (.cells (tabA f) 104)).heap[X]? = some (.cells (tabA f) 104 (0, 0))) := Hid.mk (by rw [hX, heap_alloc_new])
      have HK : Hid (Kept [b] w (w1.alloc (.cells (tabA f) 104))) := Hid.mk ((hk1.alloc _).mono (by simp))
      have HR := Hid.mk (Hr.out.keep (hk1.alloc (.cells (tabA f) 104)) (by simp))
      have HO := Hid.mk (Ho.out.keep (hk1.alloc (.cells (tabA f) 104)))
      have HbT : Hid (b ≠ X) := Hid.mk (by have := hk1.size; have := Hb.out; omega)
      obtain ⟨w2, hw2⟩ : ∃ w2, w2 = w1.alloc (.cells (tabA f) 104) := ⟨_, rfl⟩
      rw [← hX, ← hw2]
      rw [← hw2] at Ht HK HR HO
      clear hw2 hX hk1 Hr Ho)
    · have HcZ : Hid (m ≤ n ∧ m ≤ m ∧ (m = n ∨ m = m)) := Hid.mk (by omega)
      clear h
      go_loopw [22] (fun i wr => ∃ k : Nat, k ≤ m ∧ i = .int .i64 (k : Int) ∧ Row wr b (rg (adm Z o k f l) T) ∧ wr.heap[X]? = some (.cells (tabA f) 104 (0, 0)) ∧ Reads wr bo l ∧ Kept [b] w wr) (fun i _ => m - (intOf i).toNat)
      case atStart => exact ⟨0, by omega, rfl, by rw [adm_zero]; exact HR.out, Ht.out, HO.out, HK.out⟩
      case round =>
        obtain ⟨k, hk, rfl, hrow, htab, hrd, hkr⟩ := hrel
        have hcZ := HcZ.out
        by_cases hlt : k < m
        · have hcell := hrow.at (j := o + k) (by rw [rg_length]; omega)
          rw [rg_getD _ _ _ (by omega), adm_at] at hcell
          obtain ⟨g, off, hg, hco⟩ := hrd.cell (j := k) (by rw [Hm.out]; omega)
          have hfz := hrow.fz (o + k)
          have hpk := hZ (o + k)
          have hqk := getD_lt l k Hl.out
          have ht : wr.cell? ⟨X, l.getD k 0, none⟩ = some (.int .u8 (mu f (l.getD k 0) : Int)) := by
            rw [cell_of_row _ _ _ _ _ _ htab, tabA_at _ _ hqk]
          have hx := u8_xor_nat (Z (o + k)) (mu f (l.getD k 0)) hpk (mu_lt _ _)
          have Hrow := Hid.mk (fun u hu => hrow.put (q := o + k) (x := Z (o + k) ^^^ mu f (l.getD k 0)) (Q := adm Z o (k + 1) f l) (u := u) (adm_next Z o k f l) hu)
          have Htab := Hid.mk htab
          have Hkr := Hid.mk hkr
          have Hrd : Hid (∀ u, Reads (wr.setCell ⟨b, o + k, none⟩ u) bo l) := Hid.mk (fun u => hrd.setApt Hne.out (by omega) u)
          clear hrow htab hkr hrd hcZ
          obtain ⟨x, e⟩ : ∃ x, x = Z (o + k) := ⟨_, rfl⟩
          rw [← e] at hcell hpk hx Hrow
          clear e
          obtain ⟨y, e⟩ : ∃ y, y = l.getD k 0 := ⟨_, rfl⟩
          rw [← e] at hco hqk ht hx Hrow
          clear e
          obtain ⟨z, e⟩ : ∃ z, z = mu f y := ⟨_, rfl⟩
          rw [← e] at ht hx Hrow
          clear e
          have hT : ¬ X = b := Ne.symm HbT.out
          have Hg := Hid.mk hg
          subst hg
          have ix : (k : Int) < (m : Int) := by omega
          have ixn : (k : Int) < (n : Int) := by have := HcZ.out; omega
          have iy : (y : Int) < 256 := by omega
          go_wp2
          go_region_law (fail)
          all_goals go_wp2
          all_goals go_roundw
          all_goals first
            | exact ⟨k + 1, by omega, by go_num, Hrow.out _ rfl, (by show (World.setCell _ _ _).heap[X]? = _; rw [Below.heap_setCell _ _ _ _ (by simpa using hT)]; exact Htab.out), (Hrd.out _).keep ((Kept.refl [] _).drew), (Hkr.out.setCell (p := ⟨b, o + k, none⟩) (.inl (by simp)) _).drew⟩
            | (simp [intOf]; omega)
        · obtain rfl : m = k := by omega
          rw [adm_end Z o n f _ l (by omega) (by have := Hm.out; omega)] at hrow
          have Hrow := Hid.mk hrow
          have Hkr := Hid.mk hkr
          clear hrow htab hkr hrd hcZ HcZ
          go_wp2
          go_end0
          exact ⟨rfl, Hrow.out, Hkr.out⟩
    · have HcZ : Hid (n ≤ n ∧ n ≤ m ∧ (n = n ∨ n = m)) := Hid.mk (by omega)
      clear h
      go_loopw [22] (fun i wr => ∃ k : Nat, k ≤ n ∧ i = .int .i64 (k : Int) ∧ Row wr b (rg (adm Z o k f l) T) ∧ wr.heap[X]? = some (.cells (tabA f) 104 (0, 0)) ∧ Reads wr bo l ∧ Kept [b] w wr) (fun i _ => n - (intOf i).toNat)
      case atStart => exact ⟨0, by omega, rfl, by rw [adm_zero]; exact HR.out, Ht.out, HO.out, HK.out⟩
      case round =>
        obtain ⟨k, hk, rfl, hrow, htab, hrd, hkr⟩ := hrel
        have hcZ := HcZ.out
        by_cases hlt : k < n
        · have hcell := hrow.at (j := o + k) (by rw [rg_length]; omega)
          rw [rg_getD _ _ _ (by omega), adm_at] at hcell
          obtain ⟨g, off, hg, hco⟩ := hrd.cell (j := k) (by rw [Hm.out]; omega)
          have hfz := hrow.fz (o + k)
          have hpk := hZ (o + k)
          have hqk := getD_lt l k Hl.out
          have ht : wr.cell? ⟨X, l.getD k 0, none⟩ = some (.int .u8 (mu f (l.getD k 0) : Int)) := by
            rw [cell_of_row _ _ _ _ _ _ htab, tabA_at _ _ hqk]
          have hx := u8_xor_nat (Z (o + k)) (mu f (l.getD k 0)) hpk (mu_lt _ _)
          have Hrow := Hid.mk (fun u hu => hrow.put (q := o + k) (x := Z (o + k) ^^^ mu f (l.getD k 0)) (Q := adm Z o (k + 1) f l) (u := u) (adm_next Z o k f l) hu)
          have Htab := Hid.mk htab
          have Hkr := Hid.mk hkr
          have Hrd : Hid (∀ u, Reads (wr.setCell ⟨b, o + k, none⟩ u) bo l) := Hid.mk (fun u => hrd.setApt Hne.out (by omega) u)
          clear hrow htab hkr hrd hcZ
          obtain ⟨x, e⟩ : ∃ x, x = Z (o + k) := ⟨_, rfl⟩
          rw [← e] at hcell hpk hx Hrow
          clear e
          obtain ⟨y, e⟩ : ∃ y, y = l.getD k 0 := ⟨_, rfl⟩
          rw [← e] at hco hqk ht hx Hrow
          clear e
          obtain ⟨z, e⟩ : ∃ z, z = mu f y := ⟨_, rfl⟩
          rw [← e] at ht hx Hrow
          clear e
          have hT : ¬ X = b := Ne.symm HbT.out
          have Hg := Hid.mk hg
          subst hg
          have ix : (k : Int) < (n : Int) := by omega
          have ixn : (k : Int) < (n : Int) := by have := HcZ.out; omega
          have iy : (y : Int) < 256 := by omega
          go_wp2
          go_region_law (fail)
          all_goals go_wp2
          all_goals go_roundw
          all_goals first
            | exact ⟨k + 1, by omega, by go_num, Hrow.out _ rfl, (by show (World.setCell _ _ _).heap[X]? = _; rw [Below.heap_setCell _ _ _ _ (by simpa using hT)]; exact Htab.out), (Hrd.out _).keep ((Kept.refl [] _).drew), (Hkr.out.setCell (p := ⟨b, o + k, none⟩) (.inl (by simp)) _).drew⟩
            | (simp [intOf]; omega)
        · obtain rfl : n = k := by omega
          rw [adm_end Z o n f _ l (by omega) (by have := Hm.out; omega)] at hrow
          have Hrow := Hid.mk hrow
          have Hkr := Hid.mk hkr
          clear hrow htab hkr hrd hcZ HcZ
          go_wp2
          go_end0
          exact ⟨rfl, Hrow.out, Hkr.out⟩
end Go.Proofs.Ytmgfapooanpgfaa
