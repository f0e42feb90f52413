import Derived.Test.YtlkbpimlofgflaaDoorxR
import Derived.Test.YtlkbpimlofgflaaDoorcC6
import Derived.Test.YtlkbpimlofgflaaDoorMi
import Derived.Lib.AppendStr
import Derived.Lib.SlBytesConst
namespace Go.Proofs.YtlkbpimlofgflaaDoor
open Go.RowKit

/-- A row of bytes onto which may be appended: one's own, or a full one that is only read. -/
def Bl (w : World) (v : Value) (l : List Nat) : Prop := w.ownsRow 0 5 1 v l.length (l.map byt) ∨ ∃ g, v = .slice (some ⟨g, 0, none⟩) l.length l.length ∧ Reads w (some ⟨g, 0, none⟩) l

theorem reads_cells {w : World} {g off : Nat} {l : List Nat} (h : Reads w (some ⟨g, off, none⟩) l) : ∀ j u, (l.map byt)[j]? = some u → w.cell? ((⟨g, off, none⟩ : Addr).add j) = some u := by
  intro j u hj
  rcases h with h | ⟨g', off', e, hc⟩
  · subst h; simp at hj
  · cases e
    have hjl : j < l.length := by
      rcases Nat.lt_or_ge j l.length with h | h
      · exact h
      · rw [List.getElem?_eq_none (by simpa using h)] at hj; cases hj
    rw [addN, hc j hjl]
    rw [List.getElem?_map, List.getElem?_eq_getElem hjl] at hj
    simp only [Option.map_some, Option.some.injEq] at hj
    rw [← hj, List.getD_eq_getElem?_getD, List.getElem?_eq_getElem hjl]
    rfl

theorem Bl.form {w : World} {v : Value} {l : List Nat} (h : Bl w v l) : ∃ bo c, v = .slice bo l.length c ∧ l.length ≤ c ∧ (bo = none → c = 0) ∧ Reads w bo l := by
  rcases h with h | ⟨g, rfl, h⟩
  · obtain ⟨bo, c, rfl, h1, h2, -⟩ := row_none h
    exact ⟨bo, c, rfl, h2, h1, reads_row h⟩
  · exact ⟨_, _, rfl, Nat.le_refl _, (fun e => by cases e), h⟩

theorem Bl.keep {w w' : World} {v : Value} {l : List Nat} (h : Bl w v l) (hk : Kept [] w w') : Bl w' v l := by
  rcases h with h | ⟨g, rfl, h⟩
  · exact .inl (hk.row h (by simp))
  · exact .inr ⟨g, rfl, h.keep hk⟩
/-- Bytes put behind such a row. -/
theorem app_bl (u : World) (ty : Nat) (v : Value) (l : List Nat) (h : Bl u v l) (so : Option Addr) (m c : Nat) (k : List Nat) (hr : Reads u so k) (hm : k.length = m) (hc : so = none → c = 0) (m1 : 1 ≤ m) (hs : l.length + m ≤ 140737488355200) :
    ∃ bo bc u', Sem.run Tryd.prog (Builtin.append_ #[44, 44] ty #[v, .slice so m c]) u = .ok (.slice bo (l.length + m) bc) u' ∧ u'.ownsRow 0 5 1 (.slice bo (l.length + m) bc) (l.length + m) ((l ++ k).map byt) ∧ Kept v.ownBlock.toList u u' ∧ Lies u v (.slice bo (l.length + m) bc) := by
  rcases h with h | ⟨g, rfl, h⟩
  · obtain ⟨v', u', h1, h2, h3, h4⟩ := app_at u ty v l.length _ h so m c k hr hm hs hc
    obtain ⟨bo, bc, rfl, -⟩ := row_none h2
    exact ⟨bo, bc, u', h1, by rw [List.map_append]; exact h2, h3, h4⟩
  · obtain ⟨i0, hi, hz0, hz1, hz2⟩ := info_parts Tryd.info5
    match so, hr with
    | none, hr =>
      rcases hr with hr | ⟨_, _, e, _⟩
      · subst hr; simp at hm; omega
      · cases e
    | some ad, hr =>
      have had : ∃ g2 off, ad = ⟨g2, off, none⟩ := by
        rcases hr with hr | ⟨g2, off, e, _⟩
        · subst hr; simp at hm; omega
        · cases e; exact ⟨g2, off, rfl⟩
      obtain ⟨g2, off, rfl⟩ := had
      have hg := run_append_grow (P := Tryd.prog) u 44 ty 5 i0 (.int .u8 0) Tryd.underlying44 hi hz0 ⟨g, 0, none⟩ l.length l.length (l.map byt) (by rw [hz1]; simp) (reads_cells h) ⟨g2, off, none⟩ m c (k.map byt) (by rw [hz1]; simp [hm]) (reads_cells hr) (by omega) (by omega) (growslice_fits (by omega) (by rw [hz2]; omega))
      have hge := grownCap_ge u (l.length + m) l.length 5
      have hcm2 : grownCap u (l.length + m) l.length 5 ≤ maxLen := grownCap_le_maxLen u (l.length + m) l.length 5 (by unfold maxLen; omega)
      refine ⟨_, _, _, hg, ⟨by simp [hm], .inr ⟨u.heap.size, _, _, rfl, Nat.zero_le _, heap_alloc_new u.drew _, hge, hcm2, ?_, ?_⟩⟩, (((Kept.refl _ u).drew).alloc _), .inr ⟨u.heap.size, rfl, Nat.le_refl _⟩⟩
      · simp only [Array.size_append, List.size_toArray, size_zeroCells, List.length_map, hm]
        simp [Value.cells]
        omega
      · simp only [Array.toList_append, List.append_assoc]
        rw [← List.append_assoc]
        have e9 : (l.length + m) * 1 = ((l ++ k).map byt).length := by simp [hm]
        rw [e9, List.map_append]
        exact List.take_left

/-- Numbers that a list holds. -/
def Nms (w : World) (zo : Option Addr) (zs : List Nat) : Prop := zs = [] ∨ ∃ g off, zo = some ⟨g, off, none⟩ ∧ ∀ j, j < zs.length → w.cell? ⟨g, off + j, none⟩ = some (.int .i64 (zs.getD j 0 : Nat))
theorem Nms.kept {w w' : World} {zo : Option Addr} {zs : List Nat} {ks : List Nat} (h : Nms w zo zs) (hk : Kept ks w w') (hn : ∀ g off, zo = some ⟨g, off, none⟩ → g ∉ ks) : Nms w' zo zs := by
  rcases h with h | ⟨g, off, e, hc⟩
  · exact .inl h
  · refine .inr ⟨g, off, e, fun j hj => ?_⟩
    have h1 := hc j hj
    have hlt : g < w.heap.size := by
      unfold World.cell? at h1
      rcases Nat.lt_or_ge g w.heap.size with h | h
      · exact h
      · rw [Array.getElem?_eq_none h] at h1; cases h1
    unfold World.cell? at h1 ⊢
    rw [hk.block g hlt (hn g off e)]
    exact h1

def wds (zs : List Nat) : List Nat := zs.flatMap (big 4)
theorem wds_append (a b : List Nat) : wds (a ++ b) = wds a ++ wds b := by simp [wds]
theorem wds_one (z : Nat) : wds [z] = big 4 z := by simp [wds]
theorem wds_len (zs : List Nat) : (wds zs).length = 4 * zs.length := by
  induction zs with
  | nil => rfl
  | cons a t ih => rw [show a :: t = [a] ++ t from rfl, wds_append, wds_one, List.length_append, ih, big_length]; simp; omega

set_option maxHeartbeats 4000000 in
set_option maxRecDepth 1000000 in
theorem words_any (w : World) (v : Value) (l : List Nat) (zo : Option Addr) (zn zc : Nat) (zs : List Nat) (hv : Bl w v l) (h0 : zn = 0 → w.ownsRow 0 5 1 v l.length (l.map byt)) (hz : Nms w zo zs) (hzn : zs.length = zn) (hlt : ∀ z ∈ zs, z < 4294967296)
    (hap : zn ≠ 0 → ∀ g off, zo = some ⟨g, off, none⟩ → g ∉ v.ownBlock.toList) (hs : l.length + 4 * zn ≤ 1000000000) :
    Calls Tryd.prog 32 #[v, .slice zo zn zc] w fun e w' => ∃ v', e = .returned v' ∧ w'.ownsRow 0 5 1 v' (l.length + 4 * zn) ((l ++ wds zs).map byt) ∧ Kept v.ownBlock.toList w w' ∧ Lies w v v' := by
  have HZ := Hid.mk hz
  have HA := Hid.mk hap
  have HL := Hid.mk hlt
  have H0 := Hid.mk h0
  have HV := Hid.mk hv
  obtain ⟨vo, vc, ev, -, -, -⟩ := hv.form
  clear hz hap hlt h0 hv
  go_enter Tryd.func32, Tryd.ntmps32
  go_wp2
  go_loopw [0, 11] (fun v1 i wr => ∃ j : Nat, j ≤ zn ∧ i = .int .i64 (j : Int) ∧ Hid (Bl wr v1 (l ++ wds (zs.take j)) ∧ (j = 0 ∧ v1 = v ∧ wr = w ∨ wr.ownsRow 0 5 1 v1 (l.length + 4 * j) ((l ++ wds (zs.take j)).map byt)) ∧ Kept v.ownBlock.toList w wr ∧ Lies w v v1)) (fun _ i _ => zn - (intOf i).toNat)
  case atStart => exact ⟨0, Nat.zero_le _, rfl, Hid.mk ⟨by simpa [wds] using HV.out, .inl ⟨rfl, rfl, rfl⟩, Kept.refl _ _, Lies.refl _ _⟩⟩
  case round =>
    obtain ⟨j, hj, rfl, HI⟩ := hrel
    by_cases hlt : j < zn
    · have ij : (j : Int) < (zn : Int) := by omega
      have hz1 := HZ.out.kept HI.out.2.2.1 (HA.out (by omega))
      obtain ⟨zg, zoff, rfl, hzc⟩ : ∃ g off, zo = some ⟨g, off, none⟩ ∧ ∀ j, j < zs.length → wr.cell? ⟨g, off + j, none⟩ = some (.int .i64 (zs.getD j 0 : Nat)) := by
        rcases hz1 with h | h
        · subst h; simp at hzn; omega
        · exact h
      have c0 := hzc j (by omega)
      obtain ⟨z, ez⟩ : ∃ z, zs.getD j 0 = z := ⟨_, rfl⟩
      have zlt : z < 4294967296 := by
        rw [← ez, List.getD_eq_getElem?_getD, List.getElem?_eq_getElem (by omega)]
        exact HL.out _ (List.getElem_mem _)
      rw [ez] at c0
      have z2 : (z : Int) < 4294967296 := by omega
      have ZD : ((z : Int) / 2 ^ (8 * 4) == 0) = true := by
        have h9 : (z : Int) / 2 ^ (8 * 4) = 0 := by omega
        rw [h9]; rfl
      have et : zs.take (j + 1) = zs.take j ++ [z] := by
        have e1 : zs[j]? = some z := by
          rw [List.getD_eq_getElem?_getD, List.getElem?_eq_getElem (by omega)] at ez
          rw [List.getElem?_eq_getElem (by omega)]
          exact congrArg some ez
        rw [List.take_add_one, e1]
        rfl
      clear hzc hz1
      go_wp2_with (fail)
      refine (big_at (z : Int) 4 4 _ rfl (by decide) (by decide) (by omega) ZD).mono ?_
      rintro e w1 ⟨g, cap, rfl, hg, ho, hk⟩
      have hle : (l ++ wds (zs.take j)).length = l.length + 4 * j := by rw [List.length_append, wds_len, List.length_take]; omega
      obtain ⟨bo, bc, w2, hrun, h2, k2, l2⟩ := app_bl w1 44 u0 _ (HI.out.1.keep hk) (some ⟨g, 0, none⟩) 4 cap _ (reads_row ho) (big_length _ _) (by simp) (by decide) (by rw [hle]; omega)
      rw [hle] at hrun h2 l2
      have HN : Hid (Bl w2 (.slice bo (l.length + 4 * j + 4) bc) (l ++ wds (zs.take (j + 1))) ∧ w2.ownsRow 0 5 1 (.slice bo (l.length + 4 * j + 4) bc) (l.length + 4 * (j + 1)) ((l ++ wds (zs.take (j + 1))).map byt) ∧ Kept v.ownBlock.toList w w2 ∧ Lies w v (.slice bo (l.length + 4 * j + 4) bc)) := Hid.mk (by
        have hx : w2.ownsRow 0 5 1 (.slice bo (l.length + 4 * j + 4) bc) (l.length + 4 * (j + 1)) ((l ++ wds (zs.take (j + 1))).map byt) := by
          rw [et, wds_append, wds_one, ← List.append_assoc]
          exact h2
        have hl2 : (l ++ wds (zs.take (j + 1))).length = l.length + 4 * (j + 1) := by rw [List.length_append, wds_len, List.length_take]; omega
        refine ⟨.inl (by rw [hl2]; exact hx), hx, (HI.out.2.2.1.step hk (by simp)).step k2 (HI.out.2.2.2.mem), HI.out.2.2.2.trans (l2.of_kept hk) HI.out.2.2.1.size⟩)
      clear h2 k2 l2 ho hk hg HI et
      go_wp2_with (at_builtin; refine wpList_app_eq' rfl _ _ 44 rfl _ _ _ _ rfl rfl hrun ?_)
      go_roundw
      case rel => exact ⟨j + 1, by omega, by go_num, Hid.mk ⟨HN.out.1, .inr HN.out.2.1, HN.out.2.2.1, HN.out.2.2.2⟩⟩
      case measure => simp [intOf]; omega
    · obtain rfl : zn = j := by omega
      have HF : Hid (wr.ownsRow 0 5 1 u0 (l.length + 4 * zn) ((l ++ wds zs).map byt)) := Hid.mk (by
        have et : zs.take zn = zs := List.take_of_length_le (by omega)
        rcases HI.out.2.1 with ⟨a, b, c⟩ | h
        · subst b c
          have := H0.out a
          have e2 : zs = [] := List.eq_nil_of_length_eq_zero (by omega)
          subst e2
          simpa [wds, a] using this
        · rw [et] at h; exact h)
      go_wp2
      go_ret
      exact ⟨u0, rfl, HF.out, HI.out.2.2.1, HI.out.2.2.2⟩
end Go.Proofs.YtlkbpimlofgflaaDoor
