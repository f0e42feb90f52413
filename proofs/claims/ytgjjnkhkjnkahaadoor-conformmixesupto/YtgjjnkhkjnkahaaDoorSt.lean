import Derived.Test.YtgjjnkhkjnkahaaDoorWa
import Derived.Test.YtgjjnkhkjnkahaaDoorSf
namespace Go.Proofs.YtgjjnkhkjnkahaaDoor
open Go.RowKit

/-- One row is written over. -/
theorem Cz.upd {B : Nat} {w w' : World} {V : Value} {n k : Nat} {gs cs ln : Nat → Nat} {F F' : Nat → Nat → Nat} (h : Cz B w V n gs cs ln F) (hk : k < n) (hw : Kept [gs k] w w') (hr : Wr w' (gs k) (ln k + 2) (F' k)) (hF : ∀ i, i < n → i ≠ k → ∀ j, j < ln i + 2 → F i j = F' i j) : Cz B w' V n gs cs ln F' := by
  refine ⟨hw.row h.own (fun g hg hm => ?_), fun i hi => ?_, h.mon⟩
  · simp at hm
    exact own_wr h.own (h.row k hk).2.2 (hm ▸ hg)
  · obtain ⟨h1, h2, h3⟩ := h.row i hi
    refine ⟨h1, h2, ?_⟩
    by_cases e : i = k
    · subst e; exact hr
    · refine (h3.keep hw ?_).congr (hF i hi e)
      rw [List.mem_singleton]
      intro e2
      rcases Nat.lt_or_gt_of_ne e with h4 | h4
      · have := h.mon i k h4 hk; omega
      · have := h.mon k i h4 hi; omega
theorem Cz.congr {B : Nat} {w : World} {V : Value} {n : Nat} {gs cs ln : Nat → Nat} {F F' : Nat → Nat → Nat} (h : Cz B w V n gs cs ln F) (hF : ∀ i, i < n → ∀ j, j < ln i + 2 → F i j = F' i j) : Cz B w V n gs cs ln F' :=
  ⟨h.own, fun i hi => by obtain ⟨h1, h2, h3⟩ := h.row i hi; exact ⟨h1, h2, h3.congr (hF i hi)⟩, h.mon⟩
theorem Cz.at {B : Nat} {w : World} {ao : Option Addr} {n c k : Nat} {gs cs ln : Nat → Nat} {F : Nat → Nat → Nat} (h : Cz B w (.slice ao n c) n gs cs ln F) (hk : k < n) : ∃ g, ao = some ⟨g, 0, none⟩ ∧ w.cell? ⟨g, k, none⟩ = some (slv (gs k) (ln k) (cs k)) ∧ ∀ i, i < n → gs i ≠ g := by
  rcases h.own.2 with ⟨e, h0⟩ | ⟨g, cap, cur, e, hb, hg, _⟩
  · omega
  · cases e
    have hc := h.own.cells (g := g) rfl k _ (fl_at _ n k hk)
    have hadd : (⟨g, 0, none⟩ : Addr).add k = ⟨g, 0 + k, none⟩ := by unfold Addr.add; split <;> simp_all
    rw [hadd, Nat.zero_add] at hc
    refine ⟨g, rfl, hc, fun i hi e => own_wr h.own (h.row i hi).2.2 ?_⟩
    simp [Value.ownBlock, e]
theorem Cz.nbx {B : Nat} {w : World} {V : Value} {n X : Nat} {gs cs ln : Nat → Nat} {F : Nat → Nat → Nat} {vs : Array Value} (h : Cz B w V n gs cs ln F) (hX : w.heap[X]? = some (.cells vs 29 (0, 0))) : X ∉ rbs gs n := fun hm => by
  obtain ⟨i, hi, rfl⟩ := mem_rbs.1 hm
  obtain ⟨_, _, cs', h4, _⟩ := h.row i hi
  rw [hX] at h4
  simp at h4

set_option maxHeartbeats 16000000 in
set_option maxRecDepth 1000000 in
theorem still_yes (W H D : Int) (A : Bool) (go : Option Addr) (n gc B : Nat) (gs cs ln : Nat → Nat) (po : Option Addr) (c : Nat) (F : Nat → Nat → Nat) (w : World) (hC : Cz B w (.slice go n gc) n gs cs ln (fun i => cpF (F i) (ln i))) (hr : Pl w po n ln F) (hn : n ≤ 1048576) (hln : ∀ i, i < n → ln i ≤ 1048576) :
    Calls Tryd.prog 8 #[frv W H D A go n gc, frv W H D A po n c] w fun e w' => e = .returned (.bool true) ∧ Cz B w' (.slice go n gc) n gs cs ln (fun _ _ => 7) ∧ Kept (rbs gs n) w w' := by
  obtain ⟨w1, e1⟩ : ∃ w1, w.alloc (.cells #[.int .i64 W, .int .i64 H, .int .i64 D, .bool A, .slice go n gc] 29 (0, 0)) = w1 := ⟨_, rfl⟩
  obtain ⟨w2, e2⟩ : ∃ w2, w1.alloc (.cells #[.int .i64 W, .int .i64 H, .int .i64 D, .bool A, .slice po n c] 29 (0, 0)) = w2 := ⟨_, rfl⟩
  have k1 : Kept [] w w1 := by rw [← e1]; exact alloc_kept _ _
  have k2 : Kept [] w1 w2 := by rw [← e2]; exact alloc_kept _ _
  have b1 : w1.heap[w.heap.size]? = some (.cells #[.int .i64 W, .int .i64 H, .int .i64 D, .bool A, .slice go n gc] 29 (0, 0)) := by rw [← e1]; exact heap_alloc_new _ _
  have b2 : w2.heap[w1.heap.size]? = some (.cells #[.int .i64 W, .int .i64 H, .int .i64 D, .bool A, .slice po n c] 29 (0, 0)) := by rw [← e2]; exact heap_alloc_new _ _
  rw [show w1.heap.size = w.heap.size + 1 by rw [← e1, World.size_alloc]] at b2
  have k12 := k1.trans k2
  have CS := Hid.mk (same_yes W H D A go po n gc c ln (fun i => cpF (F i) (ln i)) F w2 ((hC.keep k12 (by simp)).pl) (hr.keep k12) (fun i _ j hj => by unfold cpF; rw [if_pos hj]) (by omega) (fun i hi => by have := hln i hi; omega))
  obtain ⟨b, eb⟩ : ∃ b, w.heap.size = b := ⟨_, rfl⟩
  have HB := Hid.mk (k2.heap b1 (by simp))
  obtain ⟨⟨x0, x1, x2, x3, x4⟩, _⟩ := five (k2.heap b1 (by simp))
  obtain ⟨⟨y0, y1, y2, y3, y4⟩, _⟩ := five b2
  have K2 := Hid.mk k12
  have HC := Hid.mk (hC.keep k12 (by simp))
  have HL := Hid.mk hln
  have E1 := Hid.mk e1
  have E2 := Hid.mk e2
  rw [eb] at HB x0 x1 x2 x3 x4 y0 y1 y2 y3 y4
  clear k1 k2 b1 b2 hr hln e1 e2 hC k12
  go_enter Tryd.func8, Tryd.ntmps8
  go_upto_region 1 with (fail)
  try rw [E1.out, E2.out]
  try simp only [eb]
  clear eb
  go_wp2_with (fail)
  refine CS.out.mono ?_
  rintro e w3 ⟨rfl, k3⟩
  have HB3 := Hid.mk (k3.heap HB.out (by simp))
  have K3 := Hid.mk (K2.out.trans k3)
  have HC3 := Hid.mk ((HC.out.keep k3 (by simp)).congr (F' := fun i => if i < 0 then (fun _ => 7) else cpF (F i) (ln i)) (fun i _ j _ => by rw [if_neg (by omega)]))
  have NB := Hid.mk (HC3.out.nbx HB3.out)
  clear k3 x0 x1 x2 x3 x4 y0 y1 y2 y3 y4 CS HC HB
  go_wp2_with (fail)
  go_loopw [5, 6] (fun ok i wr => ok = .bool true ∧ ∃ k : Nat, k ≤ n ∧ i = .int .i64 (k : Int) ∧ Cz B wr (.slice go n gc) n gs cs ln (fun i => if i < k then (fun _ => 7) else cpF (F i) (ln i)) ∧ Kept (rbs gs n) w3 wr) (fun _ i _ => n - (intOf i).toNat)
  case atStart => exact ⟨rfl, 0, by omega, rfl, HC3.out, Kept.refl _ _⟩
  case round =>
    obtain ⟨wo, rfl⟩ : ∃ wo, wo = wr := ⟨_, rfl⟩
    obtain ⟨rfl, k, hk, rfl, hG, hkw⟩ := hrel
    have HG := Hid.mk hG
    have HKW := Hid.mk hkw
    obtain ⟨⟨_, _, _, _, x4⟩, _⟩ := five (hkw.heap HB3.out NB.out)
    clear hG hkw
    by_cases hlt : k < n
    · have ix : (k : Int) < (n : Int) := by omega
      obtain ⟨g, rfl, hc, hng⟩ := HG.out.at hlt
      have hm := HL.out k hlt
      obtain ⟨hcs, hBg, hwr⟩ := HG.out.row k hlt
      simp only [if_neg (Nat.lt_irrefl k)] at hwr
      obtain ⟨m, em⟩ : ∃ m, ln k = m := ⟨_, rfl⟩
      rw [em] at hc hm hcs hwr
      obtain ⟨G1, eG⟩ : ∃ G1, gs k = G1 := ⟨_, rfl⟩
      obtain ⟨C1, eC⟩ : ∃ C1, cs k = C1 := ⟨_, rfl⟩
      have EM := Hid.mk em
      have EG := Hid.mk eG
      rw [eG] at hc hwr
      rw [eC] at hc hcs
      have HW : Hid (Wr wo G1 (m + 2) (fun j => if j < 0 then 7 else cpF (F k) m j)) := Hid.mk (hwr.congr (fun j _ => by rw [if_neg (by omega)]))
      have c5 := hwr.at (show m < m + 2 by omega)
      have c6 := hwr.at (show m + 1 < m + 2 by omega)
      rw [show cpF (F k) m m = 60001 by unfold cpF; rw [if_neg (by omega), if_pos rfl]] at c5
      rw [show cpF (F k) m (m + 1) = 60002 by unfold cpF; rw [if_neg (by omega), if_neg (by omega)]] at c6
      have h1 : (m : Int) + 2 ≤ (C1 : Int) := by omega
      have h2 : m + 2 ≤ C1 := hcs
      have h3 : ¬ C1 < m + 2 := by omega
      have w1 : wrap64 ((m : Int) + 2) = ((m + 2 : Nat) : Int) := by rw [show (m : Int) + 2 = ((m + 2 : Nat) : Int) by omega]; exact w64_in (by omega) (by omega)
      have w2 : IntKind.i64.wrap ((m : Int) + 2) = ((m + 2 : Nat) : Int) := by rw [show (m : Int) + 2 = ((m + 2 : Nat) : Int) by omega]; exact wrap_i (by omega) (by omega)
      clear hwr hBg em eG eC
      go_upto_region 5 with (fail)
      go_quiet (fail)
      go_wp2_with (fail)
      clear c5 c6 x4 hc
      go_loopw [8] (fun i wq => ∃ t : Nat, t ≤ m + 2 ∧ i = .int .i64 (t : Int) ∧ Wr wq G1 (m + 2) (fun j => if j < t then 7 else cpF (F k) m j) ∧ Kept [G1] wo wq) (fun i _ => m + 2 - (intOf i).toNat)
      case atStart => exact ⟨0, by omega, rfl, HW.out.keep ((Kept.refl [] wo).drewN _) (by simp), (Kept.refl _ _).drewN _⟩
      case round =>
        obtain ⟨t, ht, rfl, hrow, hkt⟩ := hrel
        by_cases hlt2 : t < m + 2
        · have ix2 : (t : Int) < ((m + 2 : Nat) : Int) := by clear w1 w2; omega
          have ix3 : (t : Int) < (m : Int) + 2 := by clear w1 w2; omega
          have c3 := hrow.at hlt2
          have c4 := hrow.fz t
          have HS : Hid (Wr (wr.setCell ⟨G1, t, none⟩ (.int .u16 7)) G1 (m + 2) (fun j => if j < t + 1 then 7 else cpF (F k) m j)) := Hid.mk ((hrow.set (i := t) (v := 7)).congr (fun j hj => by
            by_cases e : j = t
            · subst e; rw [if_pos rfl, if_pos (Nat.lt_succ_self _)]
            · rw [if_neg e]
              by_cases e2 : j < t
              · rw [if_pos e2, if_pos (Nat.lt_succ_of_lt e2)]
              · rw [if_neg e2, if_neg (fun h => (Nat.lt_succ_iff_lt_or_eq.1 h).elim e2 e)]))
          have HK2 : Hid (Kept [G1] wo (wr.setCell ⟨G1, t, none⟩ (.int .u16 7))) := Hid.mk (hkt.setCell (p := ⟨G1, t, none⟩) (.inl (by simp)) _)
          obtain ⟨z, ez⟩ : ∃ z, (if t < t then 7 else cpF (F k) m t) = z := ⟨_, rfl⟩
          rw [ez] at c3
          clear hrow hkt ez w1 w2
          go_wp2_with (fail)
          go_roundw
          case rel => exact ⟨t + 1, by omega, by go_num, HS.out, HK2.out⟩
          case measure => simp [intOf]; omega
        · obtain rfl : t = m + 2 := by clear w1 w2; omega
          have HE : Hid (Cz B wr (.slice (some ⟨g, 0, none⟩) n gc) n gs cs ln (fun i => if i < k + 1 then (fun _ => 7) else cpF (F i) (ln i)) ∧ Kept (rbs gs n) w3 wr) := Hid.mk ⟨HG.out.upd hlt (by rw [EG.out]; exact hkt) (by rw [EG.out, EM.out]; exact hrow.congr (fun j hj => by rw [if_pos hj, if_pos (Nat.lt_succ_self _)])) (fun i _ hne j _ => by
            by_cases e : i < k
            · rw [if_pos e, if_pos (Nat.lt_succ_of_lt e)]
            · rw [if_neg e, if_neg (fun h => (Nat.lt_succ_iff_lt_or_eq.1 h).elim e hne)]), HKW.out.step hkt (fun x hx => by simp at hx; subst hx; exact .inl (mem_rbs.2 ⟨k, hlt, EG.out⟩))⟩
          have ix3 : ¬ ((m + 2 : Nat) : Int) < (m : Int) + 2 := by clear w1 w2; omega
          clear hrow hkt w1 w2
          go_wp2_with (fail)
          go_roundw
          case rel => exact ⟨rfl, k + 1, by omega, by go_num, HE.out.1, HE.out.2⟩
          case measure => simp [intOf]; omega
    · obtain rfl : n = k := by omega
      have HE : Hid (Cz B wo (.slice go n gc) n gs cs ln (fun _ _ => 7)) := Hid.mk (HG.out.congr (fun i hi j _ => by rw [if_pos hi]))
      go_wp2_with (fail)
      go_ret
      exact ⟨rfl, HE.out, (K3.out.mono (by simp) : Kept (rbs gs n) w w3).trans HKW.out⟩
end Go.Proofs.YtgjjnkhkjnkahaaDoor
