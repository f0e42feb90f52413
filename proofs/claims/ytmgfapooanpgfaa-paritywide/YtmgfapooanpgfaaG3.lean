import Derived.Test.YtmgfapooanpgfaaG2
namespace Go.Proofs.Ytmgfapooanpgfaa
open Go.RowKit

set_option maxHeartbeats 2000000 in
set_option maxRecDepth 1000000 in
theorem scale_any (b n cap f : Nat) (p : Nat → Nat) (hf : f < 256) (w : World) (hr : Row w b (rg p n)) (hp : ∀ j, j < n → p j < 256) (hn : n ≤ 140737488355328) :
    Calls Try.prog 70 #[.slice (some ⟨b, 0, none⟩) n cap, .int .u8 (f : Int)] w fun e w' => e = .returned (.tuple #[]) ∧ Row w' b (rg (fun j => mu f (p j)) n) ∧ Kept [b] w w' := by
  obtain ⟨hvT, hiT⟩ := zero_of_info Try.infoT
  clear hiT
  have hsc := table_stored f
  have Hr := Hid.mk hr
  have Hb := Hid.mk hr.lt
  clear hr
  go_enter Try.func70, Try.ntmps70
  go_wp2_with (go_at_call 77; refine (multiples_any _ hf _).mono ?_; rintro e w1 ⟨rfl, hk1⟩)
  clear hsc hvT
  obtain ⟨T, hT⟩ : ∃ T, T = w1.heap.size := ⟨_, rfl⟩
  have Ht : Hid ((w1.alloc (.cells (tabA f) 104)).heap[T]? = some (.cells (tabA f) 104 (0, 0))) := Hid.mk (by rw [hT, heap_alloc_new])
  have HK : Hid (Kept [b] w (w1.alloc (.cells (tabA f) 104))) := Hid.mk ((hk1.alloc _).mono (by simp))
  have HR := Hid.mk (Hr.out.keep (hk1.alloc (.cells (tabA f) 104)) (by simp))
  have HbT : Hid (b ≠ T) := Hid.mk (by have := hk1.size; have := Hb.out; omega)
  have HwT : Hid (w.heap.size ≤ T) := Hid.mk (by rw [hT]; exact hk1.size)
  obtain ⟨w2, hw2⟩ : ∃ w2, w2 = w1.alloc (.cells (tabA f) 104) := ⟨_, rfl⟩
  rw [← hT, ← hw2]
  rw [← hw2] at Ht HK HR
  clear hw2 hT hk1 Hr
  go_loopw [11] (fun i wr => ∃ k : Nat, k ≤ n ∧ i = .int .i64 (k : Int) ∧ Row wr b (rg (upt k p (fun j => mu f (p j))) n) ∧ wr.heap[T]? = some (.cells (tabA f) 104 (0, 0)) ∧ Kept [b] w wr) (fun i _ => n - (intOf i).toNat)
  case atStart => exact ⟨0, by omega, rfl, by rw [upt_zero]; exact HR.out, Ht.out, HK.out⟩
  case round =>
    obtain ⟨k, hk, rfl, hrow, htab, hkr⟩ := hrel
    by_cases hlt : k < n
    · have hcell := hrow.at (j := k) (by rw [rg_length]; exact hlt)
      rw [rg_getD _ _ _ hlt, upt_at] at hcell
      have hfz := hrow.fz k
      have hpk := hp k hlt
      have ht : wr.cell? ⟨T, p k, none⟩ = some (.int .u8 (mu f (p k) : Int)) := by
        rw [cell_of_row _ _ _ _ _ _ htab, tabA_at _ _ hpk]
      have Hrow := Hid.mk (fun u hu => hrow.set (q := fun j => mu f (p j)) (u := u) hu)
      have Htab := Hid.mk htab
      have Hkr := Hid.mk hkr
      clear hrow htab hkr
      obtain ⟨y, hy⟩ : ∃ y, y = mu f (p k) := ⟨_, rfl⟩
      have Hd := Hid.mk hy
      rw [← hy] at ht
      obtain ⟨x, hx⟩ : ∃ x, x = p k := ⟨_, rfl⟩
      rw [← hx] at hcell hpk ht
      clear hx hy
      have hT : ¬ T = b := Ne.symm HbT.out
      clear hp
      go_wp2
      go_roundw
      case rel =>
        refine ⟨k + 1, by omega, by go_num, Hrow.out _ (by rw [← Hd.out]; rfl), ?_, Hkr.out.setCell (p := ⟨b, k, none⟩) (.inl (by simp)) _⟩
        rw [Below.heap_setCell _ _ _ _ (by simpa using hT)]; exact Htab.out
      case measure => simp [intOf]; omega
    · obtain rfl : k = n := by omega
      rw [upt_full] at hrow
      have Hrow := Hid.mk hrow
      have Hkr := Hid.mk hkr
      clear hrow htab hkr hp
      go_wp2
      go_end0
      exact ⟨rfl, Hrow.out, Hkr.out⟩

/-- A row, and another one f times. -/
def am (f : Nat) (p q : Nat → Nat) : Nat → Nat := fun j => p j ^^^ mu f (q j)

set_option maxHeartbeats 2000000 in
set_option maxRecDepth 1000000 in
theorem addM_any (b n cap f cb : Nat) (bo : Option Addr) (p q : Nat → Nat) (hf : f < 256) (w : World) (hr : Row w b (rg p n)) (hp : ∀ j, j < n → p j < 256) (hq : ∀ j, j < n → q j < 256) (ho : Reads w bo (rg q n)) (hne : 0 < n → ∀ g off, bo = some ⟨g, off, none⟩ → g ≠ b) (hn : n ≤ 140737488355328) :
    Calls Try.prog 71 #[.slice (some ⟨b, 0, none⟩) n cap, .int .u8 (f : Int), .slice bo n cb] w fun e w' => e = .returned (.tuple #[]) ∧ Row w' b (rg (am f p q) n) ∧ Kept [b] w w' := by
  by_cases hf0 : f = 0
  · subst hf0
    have HR : Hid (Row w b (rg (am 0 p q) n)) := Hid.mk (by rw [rg_congr (q := p) (fun j _ => by rw [am, zero_mu, Nat.xor_zero])]; exact hr)
    clear hr hp hq ho hne
    go_enter Try.func71, Try.ntmps71
    go_wp2
    refine bodyPost_ret (v := .tuple #[]) (results_none rfl _ _ _) rfl ?_
    exact ⟨rfl, HR.out, Kept.refl _ _⟩
  · have hf1 : ((f : Int) == 0) = false := by simp; omega
    obtain ⟨hvT, hiT⟩ := zero_of_info Try.infoT
    clear hiT
    have hsc := table_stored f
    have Hr := Hid.mk hr
    have Hb := Hid.mk hr.lt
    have Ho := Hid.mk ho
    have Hne := Hid.mk hne
    clear hr hf0 ho hne
    go_enter Try.func71, Try.ntmps71
    go_wp2_with (go_at_call 77; refine (multiples_any _ hf _).mono ?_; rintro e w1 ⟨rfl, hk1⟩)
    clear hsc hvT
    obtain ⟨T, hT⟩ : ∃ T, T = w1.heap.size := ⟨_, rfl⟩
    have Ht : Hid ((w1.alloc (.cells (tabA f) 104)).heap[T]? = some (.cells (tabA f) 104 (0, 0))) := Hid.mk (by rw [hT, heap_alloc_new])
    have HK : Hid (Kept [b] w (w1.alloc (.cells (tabA f) 104))) := Hid.mk ((hk1.alloc _).mono (by simp))
    have HR := Hid.mk (Hr.out.keep (hk1.alloc (.cells (tabA f) 104)) (by simp))
    have HO := Hid.mk (Ho.out.keep (hk1.alloc (.cells (tabA f) 104)))
    have HbT : Hid (b ≠ T) := Hid.mk (by have := hk1.size; have := Hb.out; omega)
    obtain ⟨w2, hw2⟩ : ∃ w2, w2 = w1.alloc (.cells (tabA f) 104) := ⟨_, rfl⟩
    rw [← hT, ← hw2]
    rw [← hw2] at Ht HK HR HO
    clear hw2 hT hk1 Hr Ho
    go_loopw [15] (fun i wr => ∃ k : Nat, k ≤ n ∧ i = .int .i64 (k : Int) ∧ Row wr b (rg (upt k p (am f p q)) n) ∧ wr.heap[T]? = some (.cells (tabA f) 104 (0, 0)) ∧ Reads wr bo (rg q n) ∧ Kept [b] w wr) (fun i _ => n - (intOf i).toNat)
    case atStart => exact ⟨0, by omega, rfl, by rw [upt_zero]; exact HR.out, Ht.out, HO.out, HK.out⟩
    case round =>
      obtain ⟨k, hk, rfl, hrow, htab, hrd, hkr⟩ := hrel
      by_cases hlt : k < n
      · have hcell := hrow.at (j := k) (by rw [rg_length]; exact hlt)
        rw [rg_getD _ _ _ hlt, upt_at] at hcell
        obtain ⟨g, off, hg, hco⟩ : ∃ g off, bo = some ⟨g, off, none⟩ ∧ wr.cell? ⟨g, off + k, none⟩ = some (.int .u8 ((rg q n).getD k 0 : Nat)) := by
          rcases hrd with h | ⟨g, off, h, hc⟩
          · exfalso
            have := congrArg List.length h
            rw [rg_length] at this
            simp at this
            omega
          · exact ⟨g, off, h, hc k (by rw [rg_length]; exact hlt)⟩
        rw [rg_getD _ _ _ hlt] at hco
        have hgb : g ≠ b := Hne.out (by omega) g off hg
        have hfz := hrow.fz k
        have hpk := hp k hlt
        have hqk := hq k hlt
        have ht : wr.cell? ⟨T, q k, none⟩ = some (.int .u8 (mu f (q k) : Int)) := by
          rw [cell_of_row _ _ _ _ _ _ htab, tabA_at _ _ hqk]
        have hx := u8_xor_nat (p k) (mu f (q k)) hpk (mu_lt _ _)
        have Hrow := Hid.mk (fun u hu => hrow.set (q := am f p q) (u := u) hu)
        have Htab := Hid.mk htab
        have Hkr := Hid.mk hkr
        have Hrd : Hid (∀ u, Reads (wr.setCell ⟨b, k, none⟩ u) bo (rg q n)) := Hid.mk (fun u => hrd.kept ((Kept.refl [b] wr).setCell (p := ⟨b, k, none⟩) (.inl (by simp)) u) (fun g2 off2 e => by rw [hg] at e; cases e; simpa using hgb))
        have Hd : Hid (am f p q k = p k ^^^ mu f (q k)) := Hid.mk rfl
        clear hrow htab hkr hrd hp hq
        obtain ⟨x, e⟩ : ∃ x, x = p k := ⟨_, rfl⟩
        rw [← e] at hcell hpk hx Hd
        clear e
        obtain ⟨y, e⟩ : ∃ y, y = q k := ⟨_, rfl⟩
        rw [← e] at hco hqk ht hx Hd
        clear e
        obtain ⟨z, e⟩ : ∃ z, z = mu f y := ⟨_, rfl⟩
        rw [← e] at ht hx Hd
        clear e
        have hT : ¬ T = b := Ne.symm HbT.out
        have Hg := Hid.mk hg
        subst hg
        have ix : (k : Int) < (n : Int) := by omega
        have iy : (y : Int) < 256 := by omega
        go_wp2
        go_region_law (fail)
        all_goals go_wp2
        all_goals go_roundw
        all_goals first
          | exact ⟨k + 1, by omega, by go_num, Hrow.out _ (by rw [Hd.out]; rfl), (by show (World.setCell _ _ _).heap[T]? = _; rw [Below.heap_setCell _ _ _ _ (by simpa using hT)]; exact Htab.out), (Hrd.out _).keep ((Kept.refl [] _).drew), (Hkr.out.setCell (p := ⟨b, k, none⟩) (.inl (by simp)) _).drew⟩
          | (simp [intOf]; omega)
      · obtain rfl : k = n := by omega
        rw [upt_full] at hrow
        have Hrow := Hid.mk hrow
        have Hkr := Hid.mk hkr
        clear hrow htab hkr hp hq hrd
        go_wp2
        go_end0
        exact ⟨rfl, Hrow.out, Hkr.out⟩
end Go.Proofs.Ytmgfapooanpgfaa
