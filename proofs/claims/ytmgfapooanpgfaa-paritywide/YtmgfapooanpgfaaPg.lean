import Derived.Test.YtmgfapooanpgfaaPf
namespace Go.Proofs.Ytmgfapooanpgfaa
open Go.RowKit

/-- Rows that are read, with their room. -/
def MC (w : World) (ao : Option Addr) (L : List (List Nat)) : Prop :=
  L = [] ∨ ∃ g off, ao = some ⟨g, off, none⟩ ∧ ∀ i, i < L.length → ∃ bo cap, w.cell? ⟨g, off + i, none⟩ = some (.slice bo (L.getD i []).length cap) ∧ (L.getD i []).length ≤ cap ∧ Reads w bo (L.getD i [])
theorem MC.keep {w w' : World} {ao : Option Addr} {L : List (List Nat)} (h : MC w ao L) (hk : Kept [] w w') : MC w' ao L := by
  rcases h with h | ⟨g, off, rfl, hc⟩
  · exact .inl h
  · refine .inr ⟨g, off, rfl, fun i hi => ?_⟩
    obtain ⟨bo, cap, h1, h2, h3⟩ := hc i hi
    exact ⟨bo, cap, cell_keep hk h1 (by simp), h2, h3.keep hk⟩
theorem MC.at {w : World} {ao : Option Addr} {L : List (List Nat)} (h : MC w ao L) {i : Nat} (hi : i < L.length) :
    ∃ g off bo cap, ao = some ⟨g, off, none⟩ ∧ w.cell? ⟨g, off + i, none⟩ = some (.slice bo (L.getD i []).length cap) ∧ (L.getD i []).length ≤ cap ∧ Reads w bo (L.getD i []) := by
  rcases h with h | ⟨g, off, h, hc⟩
  · subst h; simp at hi
  · obtain ⟨bo, cap, h1, h2, h3⟩ := hc i hi
    exact ⟨g, off, bo, cap, h, h1, h2, h3⟩
/-- Their view: each row's place and room, chosen. -/
theorem MC.view {w : World} {ao : Option Addr} {L : List (List Nat)} (h : MC w ao L) : ∃ (bo : Nat → Option Addr) (cp : Nat → Nat), Rv w ao L.length bo (fun j => (L.getD j []).length) cp ∧ ∀ j, j < L.length → (L.getD j []).length ≤ cp j ∧ Reads w (bo j) (L.getD j []) := by
  rcases h with h | ⟨g, off, rfl, hc⟩
  · subst h; exact ⟨fun _ => none, fun _ => 0, .inl rfl, fun j hj => by simp at hj⟩
  · have h1 : ∀ i, ∃ q : Option Addr × Nat, i < L.length → w.cell? ⟨g, off + i, none⟩ = some (.slice q.1 (L.getD i []).length q.2) ∧ (L.getD i []).length ≤ q.2 ∧ Reads w q.1 (L.getD i []) := fun i => by
      by_cases hi : i < L.length
      · obtain ⟨bo, cap, h⟩ := hc i hi
        exact ⟨(bo, cap), fun _ => h⟩
      · exact ⟨(none, 0), fun h => absurd h hi⟩
    obtain ⟨q, hq⟩ := Classical.axiomOfChoice h1
    exact ⟨fun i => (q i).1, fun i => (q i).2, .inr ⟨g, off, rfl, fun j hj => (hq j hj).1⟩, fun j hj => (hq j hj).2⟩

/-- The greatest of some numbers. -/
def wx (ln : Nat → Nat) : Nat → Nat
  | 0 => 0
  | k + 1 => max (wx ln k) (ln k)
theorem wx_ge (ln : Nat → Nat) {i k : Nat} (h : i < k) : ln i ≤ wx ln k := by
  induction k with
  | zero => omega
  | succ k ih =>
    rw [wx]
    by_cases e : i = k
    · subst e; omega
    · have := ih (by omega); omega
theorem wx_le {ln : Nat → Nat} {k M : Nat} (h : ∀ i, i < k → ln i ≤ M) : wx ln k ≤ M := by
  induction k with
  | zero => simp [wx]
  | succ k ih =>
    rw [wx]
    have := ih (fun i hi => h i (by omega))
    have := h k (by omega)
    omega
theorem wx_congr {f g : Nat → Nat} {k : Nat} (h : ∀ i, i < k → f i = g i) : wx f k = wx g k := by
  induction k with
  | zero => rfl
  | succ k ih => rw [wx, wx, ih (fun i hi => h i (by omega)), h k (by omega)]
/-- The width of rows. -/
def wdt (L : List (List Nat)) : Nat := wx (fun j => (L.getD j []).length) L.length
/-- A byte of a row more. -/
def mk (L : List (List Nat)) (i x : Nat) : Nat := sm (fun j => mu (cf i j) (fn L j x)) L.length
theorem mk_lt (L : List (List Nat)) (i x : Nat) : mk L i x < 256 := sm_lt _ _ (fun _ _ => mu_lt _ _)

/-- What Make comes to. -/
def MkPost (w : World) (p : Nat) (L : List (List Nat)) (e : Ending) (w' : World) : Prop :=
  if wdt L ≤ 16777216 then ∃ g B Z, e = .returned (.tuple #[.slice (some ⟨g, 0, none⟩) p p, .int .i64 0]) ∧ Ct w' g B p (fun _ => wdt L) Z ∧ Cn Z (fun _ => wdt L) p (mk L) ∧ (∀ q, Z q < 256) ∧ w.heap.size ≤ g ∧ w.heap.size ≤ B ∧ Kept [] w w'
  else e = .returned (.tuple #[.slice none 0 0, .int .i64 52]) ∧ Kept [] w w'

theorem max_int (x y : Nat) : (if x < y then (y : Int) else (x : Int)) = ((max x y : Nat) : Int) := by
  split <;> omega
theorem mkC_next (L : List (List Nat)) (k : Nat) (i x : Nat) (hi : i ≠ k) : (if i < k then mk L i x else 0) = (if i < k + 1 then mk L i x else 0) := by
  have : (i < k + 1) = (i < k) := by apply propext; omega
  simp only [this]

set_option maxHeartbeats 8000000 in
set_option maxRecDepth 1000000 in
theorem make_any (ao : Option Addr) (N ca p : Nat) (L : List (List Nat)) (w : World) (hL : MC w ao L) (bL : Bm L) (hN : L.length = N) (h1 : N ≤ 200) (hp : p ≤ 16) (hj : ∀ j, j < N → (L.getD j []).length ≤ 140737488355328) :
    Calls Try.prog 13 #[.slice ao N ca, .int .i64 (p : Int)] w fun e w' => MkPost w p L e w' := by
  have Hj := Hid.mk hj
  have HL := Hid.mk hL
  have HN := Hid.mk hN
  have BL := Hid.mk bL
  clear hL hN bL hj
  have d1 : decide ((200 : Int) < (N : Int)) = false := by simp; omega
  have d2 : decide ((p : Int) < 0) = false := by simp
  have d3 : decide ((16 : Int) < (p : Int)) = false := by simp; omega
  go_enter Try.func13, Try.ntmps13
  go_wp2
  go_loopw [6, 26] (fun t i wr => ∃ k : Nat, k ≤ N ∧ i = .int .i64 (k : Int) ∧ t = .int .i64 (wx (fun j => (L.getD j []).length) k : Int) ∧ wr = w) (fun _ i _ => N - (intOf i).toNat)
  case atStart => exact ⟨0, by omega, rfl, rfl, rfl⟩
  case round =>
    obtain ⟨k, hk, rfl, rfl, hw⟩ := hrel
    obtain rfl := hw.symm
    by_cases hlt : k < N
    · obtain ⟨g, off, bo, cap, rfl, hc, _, _⟩ := HL.out.at (i := k) (by have := HN.out; omega)
      have hlk := Hj.out k hlt
      have hok : wx (fun j => (L.getD j []).length) k ≤ 140737488355328 := wx_le (fun i hi => Hj.out i (by omega))
      have Hs : Hid (wx (fun j => (L.getD j []).length) (k + 1) = max (wx (fun j => (L.getD j []).length) k) (L.getD k []).length) := Hid.mk rfl
      obtain ⟨x, e⟩ : ∃ x, x = wx (fun j => (L.getD j []).length) k := ⟨_, rfl⟩
      rw [← e] at hok Hs ⊢
      clear e
      obtain ⟨y, e⟩ : ∃ y, y = (L.getD k []).length := ⟨_, rfl⟩
      rw [← e] at hlk hc Hs
      clear e
      have ix : (k : Int) < (N : Int) := by omega
      go_wp2
      go_roundw
      case rel => exact ⟨k + 1, by omega, by go_num, by rw [Hs.out, ← max_int], trivial⟩
      case measure => simp [intOf]; omega
    · obtain rfl : N = k := by omega
      have EW : Hid (wdt L = wx (fun j => (L.getD j []).length) N) := Hid.mk (by have := HN.out; unfold wdt; rw [this])
      rw [← EW.out]
      clear EW
      obtain ⟨W, eW⟩ : ∃ W, W = wdt L := ⟨_, rfl⟩
      rw [← eW]
      have EW := Hid.mk eW
      clear eW
      by_cases hW : W ≤ 16777216
      · have C1 := Hid.mk (repeat_any w.heap.size 0 1 p W hp (w.alloc (.cells #[.int .i64 (W : Int)] 3)) (by rw [cell_of_row _ _ _ _ _ _ (heap_alloc_new w _)]; rfl))
        have K1 : Hid (Kept [] w (w.alloc (.cells #[.int .i64 (W : Int)] 3))) := Hid.mk ((Kept.refl [] w).alloc _)
        have C2 := Hid.mk (fun w1 g (h : RdI w1 (some ⟨g, 0, none⟩) (fun _ => (W : Int)) p) => cut_any (some ⟨g, 0, none⟩) p p (fun _ => W) w1 (by omega) (fun _ => hW) h)
        have C3 := Hid.mk (fun w2 => pcauchy_any p N hp h1 w2)
        have HW := Hid.mk hW
        go_wp2_with (first | (go_at_call 28; refine C1.out.mono ?_; rintro e w1 ⟨g1, rfl, hr1, hg1, hk1⟩) | (go_at_call 27; refine (C2.out _ _ hr1).mono ?_; rintro e w2 ⟨G, B, rfl, hct, hG, hB, hk2⟩) | (go_at_call 29; refine (C3.out _).mono ?_; rintro e w3 ⟨gf, rfl, hgf, hfc, hk3⟩))
        have hKw1 := (K1.out.trans hk1)
        have hKw2 := hKw1.trans hk2
        have HB : Hid (w.heap.size ≤ B ∧ w.heap.size ≤ G ∧ B < w2.heap.size) := Hid.mk ⟨by have := hKw1.size; omega, by have := hKw1.size; omega, hct.row.lt⟩
        have HCT : Hid (Ct w3 G B p (fun _ => W) (fun _ => 0)) := Hid.mk (hct.keep hk3 (by simp) (by simp))
        have HKw3 := Hid.mk (hKw2.trans hk3)
        have HF : Hid (∀ i, i < p → ∃ fo c, w3.cell? ⟨gf, i, none⟩ = some (.slice fo N c) ∧ Reads w3 fo (rg (cf i) N) ∧ (0 < N → ∀ b off, fo = some ⟨b, off, none⟩ → b ≠ B)) := Hid.mk (fun i hi => by
          obtain ⟨fo, c, h1, h2, h3⟩ := hfc i hi
          exact ⟨fo, c, h1, h2, fun h b off e => by have := h3 h b off e; have := hct.row.lt; omega⟩)
        have Hgf : Hid (gf ≠ B) := Hid.mk (by have := hct.row.lt; omega)
        have HM : Hid (MC w3 ao L) := Hid.mk (HL.out.keep HKw3.out)
        obtain ⟨bo, cp, hv, hq⟩ := HM.out.view
        have HV := Hid.mk hv
        have HQ := Hid.mk hq
        have HAo : Hid (0 < N → ∀ g off, ao = some ⟨g, off, none⟩ → g ≠ B) := Hid.mk (fun h0 g off e => by
          obtain ⟨g2, off2, b2, c2, e2, hc2, _⟩ := HL.out.at (i := 0) (by have := HN.out; omega)
          have h8 : g2 < w.heap.size := World.block_lt_of_cell? w _ hc2
          have := HB.out.1
          rw [e] at e2
          cases e2
          omega)
        have HBo : Hid (∀ j, j < N → (L.getD j []) ≠ [] → ∀ g off, bo j = some ⟨g, off, none⟩ → g ≠ B) := Hid.mk (fun j hj hne g off e => by
          have hjL : j < L.length := by have := HN.out; omega
          obtain ⟨g2, off2, b2, c2, e2, hc2, _, hrd⟩ := HL.out.at (i := j) hjL
          have hcell := cell_keep HKw3.out hc2 (by simp)
          rcases hv with h | ⟨g3, off3, e3, hc3⟩
          · omega
          · rw [e2] at e3
            cases e3
            have := hc3 j hjL
            rw [hcell] at this
            injection this with this
            injection this with h1 h2 h3
            rw [← h1] at e
            subst e
            rcases hrd with h | ⟨g4, off4, e4, hc4⟩
            · exact absurd h hne
            · cases e4
              have hl : 0 < (L.getD j []).length := by
                cases h : L.getD j [] with
                | nil => exact absurd h hne
                | cons a b => simp
              have h8 : g < w.heap.size := World.block_lt_of_cell? w _ (hc4 0 hl)
              have := HB.out.1
              omega)
        clear hct hgf hfc hk3 hk2 hk1 hr1 hg1 hG hB hKw1 hKw2 C1 C2 C3 K1 hv hq
        go_loopw [48] (fun i wr => ∃ (k : Nat) (Z : Nat → Nat), k ≤ p ∧ i = .int .i64 (k : Int) ∧ Row wr B (rg Z (ofs (fun _ => W) p)) ∧ Cn Z (fun _ => W) p (fun i x => if i < k then mk L i x else 0) ∧ (∀ q, Z q < 256) ∧ Kept [B] w3 wr) (fun i _ => p - (intOf i).toNat)
        case atStart => exact ⟨0, fun _ => 0, by omega, rfl, HCT.out.row, (Cn.zero _ _).congr (fun i _ x _ => (if_neg (by omega)).symm), fun _ => (by decide : (0 : Nat) < 256), Kept.refl _ _⟩
        case round =>
          obtain ⟨k, Z, hk, rfl, hrow, hcn, hlo, hkr⟩ := hrel
          by_cases hlt : k < p
          · obtain ⟨fo, c, hf1, hf2, hf3⟩ := HF.out k hlt
            have hcf := cell_keep hkr hf1 (by simpa using Hgf.out)
            have hcm := cell_keep hkr (HCT.out.out.at hlt) (by simpa using HCT.out.ne)
            have hrf : Reads wr fo (rg (cf k) N) := by
              by_cases h0 : N = 0
              · subst h0; exact .inl rfl
              · exact hf2.kept hkr (fun g off e => by simpa using hf3 (by omega) g off e)
            have Hc := Hid.mk (addSum_any B (po (fun _ => W) k) W W (ofs (fun _ => W) p) N c N ca fo ao bo cp Z (rg (cf k) N) (fun j => L.getD j []) wr hrow (po_le (fun _ => W) hlt) hlo (rg_byts (fun j _ => cf_lo k j)) (rg_length _ _) (Nat.le_refl _) hrf (fun h g off e => hf3 h g off e)
              (by rcases HV.out with h | ⟨g, off, e, hc⟩
                  · exact .inl (by rw [← HN.out]; exact h)
                  · by_cases h0 : N = 0
                    · exact .inl h0
                    · exact .inr ⟨g, off, e, fun j hj => cell_keep hkr (hc j (by rw [HN.out]; exact hj)) (by simpa using HAo.out (by omega) g off e)⟩)
              HAo.out (fun j hj => ⟨BL.out.at j, (HQ.out j (by rw [HN.out]; exact hj)).1, Hj.out j hj⟩)
              (fun j hj _ => by
                by_cases h0 : L.getD j [] = []
                · simp only [h0]
                  exact ⟨.inl rfl, fun h => absurd h (by simp)⟩
                · exact ⟨(HQ.out j (by rw [HN.out]; exact hj)).2.kept hkr (fun g off e => by simpa using HBo.out j hj h0 g off e), fun _ g off e => .inl (HBo.out j hj h0 g off e)⟩)
              (by omega) (by omega))
            have HZ : Hid (∀ w', Row w' B (rg (asm Z (po (fun _ => W) k) W N (fun j => (rg (cf k) N).getD j 0) (fun j => L.getD j [])) (ofs (fun _ => W) p)) → Kept [B] wr w' → ∃ Z', Row w' B (rg Z' (ofs (fun _ => W) p)) ∧ Cn Z' (fun _ => W) p (fun i x => if i < k + 1 then mk L i x else 0) ∧ (∀ q, Z' q < 256) ∧ Kept [B] w3 w') := Hid.mk (fun w' h1 h2 => ⟨_, h1, (hcn.add (k := k) (M := N) (f := fun j => (rg (cf k) N).getD j 0) (L := fun j => L.getD j [])).congr (fun i _ x _ => by
              by_cases e : i = k
              · subst e
                simp only [if_true]
                rw [if_neg (by omega), if_pos (by omega), Nat.zero_xor, mk, HN.out]
                exact sm_congr _ (fun j hj => by rw [rg_getD _ _ _ hj]; rfl)
              · simp only [if_neg e]
                exact mkC_next L k i x e), asm_lo hlo _ _ _ _ _, hkr.trans h2⟩)
            clear hrow hcn hlo hkr hf1 hf2 hf3 hrf
            have ix : (k : Int) < (p : Int) := by omega
            obtain ⟨o, eo⟩ : ∃ o, o = po (fun _ => W) k := ⟨_, rfl⟩
            rw [← eo] at hcm Hc HZ
            clear eo
            go_wp2_with (go_at_call 30; refine (Hc.out).mono ?_; rintro e w4 ⟨rfl, hrow, hk4⟩)
            obtain ⟨Z', h1, h2, h3, h4⟩ := HZ.out _ hrow hk4
            exact ⟨⟨k + 1, Z', by omega, by go_num, h1, h2, h3, h4⟩, by simp [intOf]; omega⟩
          · obtain rfl : p = k := by omega
            have HE : Hid (MkPost w p L (.returned (.tuple #[.slice (some ⟨G, 0, none⟩) p p, .int .i64 0])) wr) := Hid.mk (by
              unfold MkPost
              rw [if_pos (by rw [← EW.out]; exact HW.out), ← EW.out]
              exact ⟨G, B, Z, rfl, HCT.out.upd hrow hkr, hcn.congr (fun i hi x _ => if_pos hi), hlo, HB.out.2.1, HB.out.1, HKw3.out.step hkr (fun x hx => by simp at hx; subst hx; exact .inr HB.out.1)⟩)
            clear hrow hcn hlo hkr
            go_wp2
            try rw [Exit.noGoto_ret]
            go_ret2
            exact HE.out
      · have HP : Hid (¬ wdt L ≤ 16777216) := Hid.mk (by rw [← EW.out]; exact hW)
        have hW2 : decide ((16777216 : Int) < (W : Int)) = true := by simp; omega
        go_wp2
        try rw [Exit.noGoto_ret]
        go_ret2
        unfold MkPost
        rw [if_neg HP.out]
        exact ⟨rfl, Kept.refl _ _⟩
end Go.Proofs.Ytmgfapooanpgfaa
