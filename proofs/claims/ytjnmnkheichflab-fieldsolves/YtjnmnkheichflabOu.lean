import Derived.Test.YtjnmnkheichflabBT
namespace Go.Proofs.Ytjnmnkheichflab
open Go.RowKit

/-- A list of n rows that are all c: it is full and old, or it lies in memory that is new to W0. -/
def GrS (W0 w : World) (v : Value) (n : Nat) (c : Value) : Prop :=
  (∃ ao, v = .slice ao n n ∧ (ao = none → n = 0) ∧ ∀ b, ao = some b → ∀ j u, (List.replicate n c)[j]? = some u → w.cell? (b.add j) = some u) ∨ w.ownsRow W0.heap.size 31 1 v n (List.replicate n c)

theorem GrS.keep {W0 w w' : World} {v : Value} {n : Nat} {c : Value} (h : GrS W0 w v n c) (hk : Kept [] w w') : GrS W0 w' v n c := by
  rcases h with ⟨ao, hv, h1, h2⟩ | h
  · refine .inl ⟨ao, hv, h1, fun b hb j u hu => ?_⟩
    have hc := h2 b hb j u hu
    have hlt := World.block_lt_of_cell? w _ hc
    exact (World.cell?_of_block (hk.block _ hlt (by simp))).trans hc
  · exact .inr (hk.row h (by simp))
theorem GrS.form {W0 w : World} {v : Value} {n : Nat} {c : Value} (h : GrS W0 w v n c) : ∃ ao cap, v = .slice ao n cap ∧ (n = 0 ∨ ∃ b : Addr, ao = some b ∧ ∀ i, i < n → w.cell? (b.add i) = some c) := by
  rcases h with ⟨ao, hv, h1, h2⟩ | h
  · refine ⟨ao, n, hv, ?_⟩
    by_cases h0 : n = 0
    · exact .inl h0
    · right
      cases ao with
      | none => exact absurd (h1 rfl) h0
      | some b => exact ⟨b, rfl, fun i hi => h2 b rfl i c (by simp [hi])⟩
  · obtain ⟨ao, cap, rfl⟩ := row_form h
    refine ⟨ao, cap, rfl, ?_⟩
    rcases h.2 with ⟨_, h0⟩ | ⟨g, cap', cur, e, _⟩
    · exact .inl h0
    · right
      cases e
      exact ⟨_, rfl, fun i hi => h.cells (g := g) rfl i c (by simp [hi])⟩

/-- One more of them is appended. -/
theorem wpList_growS (w : World) {ops : Array Oper} {rest : List Oper} {o : Oper} {a : Act} {Q : Exit → Act → World → Prop} (hgd : o.guard = none) (s x : Operand)
    (ho : o.op = .call { callee := .builtin .append, args := #[s, x], argTypes := #[22, 22] }) (W0 : World) (hk : Kept [] W0 w) (v : Value) (n : Nat) (c : Value) (hc1 : c.oneCell' = true) (hs : a.eval s = v) (hG : GrS W0 w v n c)
    (ad : Addr) (hx : a.eval x = .slice (some ad) 1 1) (hnews : ∀ j u, [c][j]? = some u → w.cell? (ad.add j) = some u) (hn : n + 1 ≤ 1000000)
    (h : ∀ v' w', w'.ownsRow W0.heap.size 31 1 v' (n + 1) (List.replicate (n + 1) c) → Kept [] W0 w' → wpList Try.prog ops Q rest (a.put o.dst v') w') : wpList Try.prog ops Q (o :: rest) a w := by
  obtain ⟨i0, hi, hz0, hz1, hz2⟩ := info_parts Try.infoR
  have h1 : ∀ u ∈ [c], u.oneCell' = true := by intro u hu; simp at hu; subst hu; exact hc1
  have hrep : List.replicate (n + 1) c = List.replicate n c ++ [c] := by rw [List.replicate_succ']
  rcases hG with ⟨ao, hv, hnone, hold⟩ | hown
  · subst hv
    refine wpList_append_grows w hgd s x 22 ho 31 i0 (.slice none 0 0) 1 24 Try.underlying22 hi hz0 hz1 hz2 rfl (by decide) ao n n (List.replicate n c) hs (fun e => ⟨hnone e, hnone e⟩) (by simp) hold ad 1 1 [c] hx (by simp) hnews h1 (by omega) (by unfold maxLen; omega) (by omega) ?_
    intro v' w' ho' hg'
    refine h v' w' ?_ (hk.step (Kept.of_grown hg') (by simp))
    rw [hrep]
    have hsz := hk.size
    refine ⟨ho'.1, ?_⟩
    rcases ho'.2 with h2 | ⟨g, cap, cur, e1, e2, e3⟩
    · exact .inl h2
    · exact .inr ⟨g, cap, cur, e1, by omega, e3⟩
  · refine wpList_append_own_at w hgd s x 22 ho W0.heap.size 31 i0 (.slice none 0 0) 1 24 Try.underlying22 hi hz0 hz1 hz2 rfl (by decide) v n _ hs hown ad 1 1 [c] hx (by simp) hnews h1 (by unfold maxLen; omega) (by omega) hk.size ?_
    intro v' w' ho' hg' _ _
    refine h v' w' (by rw [hrep]; exact ho') (hk.step (Kept.of_grown hg') ?_)
    intro y hy
    rw [mem_own] at hy
    exact .inr (hown.lt y hy).1

/-- Cells that may be written. -/
def Wr (w : World) (ao : Option Addr) (n : Nat) : Prop := n = 0 ∨ ∃ g, ao = some ⟨g, 0, none⟩ ∧ ∀ i, i < n → (∃ u, w.cell? ⟨g, i, none⟩ = some u) ∧ w.frozen? ⟨g, i, none⟩ = false
/-- The block where they lie. -/
def bko (ao : Option Addr) (n : Nat) : List Nat := if n = 0 then [] else match ao with | none => [] | some a => [a.block]

/-- Written as far as k. -/
def Fi (w : World) (ao : Option Addr) (n k : Nat) (c : Value) : Prop := n = 0 ∨ ∃ g, ao = some ⟨g, 0, none⟩ ∧ ∀ i, i < n → (∃ u, w.cell? ⟨g, i, none⟩ = some u ∧ (i < k → u = c)) ∧ w.frozen? ⟨g, i, none⟩ = false
theorem Fi.start {w : World} {ao : Option Addr} {n : Nat} (h : Wr w ao n) (c : Value) : Fi w ao n 0 c := by
  rcases h with h | ⟨g, h, hc⟩
  · exact .inl h
  · refine .inr ⟨g, h, fun i hi => ?_⟩
    obtain ⟨⟨u, hu⟩, hf⟩ := hc i hi
    exact ⟨⟨u, hu, fun h => by omega⟩, hf⟩
theorem Fi.keep {w w' : World} {ao : Option Addr} {n k : Nat} {c : Value} {ks : List Nat} (h : Fi w ao n k c) (hk : Kept ks w w') (hn : 0 < n → ∀ g, ao = some ⟨g, 0, none⟩ → g ∉ ks) : Fi w' ao n k c := by
  rcases h with h | ⟨g, h, hc⟩
  · exact .inl h
  · refine .inr ⟨g, h, fun i hi => ?_⟩
    obtain ⟨⟨u, hu, h2⟩, hf⟩ := hc i hi
    exact ⟨⟨u, cell_keep hk hu (hn (by omega) g h), h2⟩, fz_keep hk hu hf (hn (by omega) g h)⟩
theorem Fi.set {w : World} {g n k : Nat} {c : Value} (h : Fi w (some ⟨g, 0, none⟩) n k c) : Fi (w.setCell ⟨g, k, none⟩ c) (some ⟨g, 0, none⟩) n (k + 1) c := by
  rcases h with h | ⟨g2, h, hc⟩
  · exact .inl h
  · cases h
    refine .inr ⟨g, rfl, fun i hi => ?_⟩
    obtain ⟨⟨u, hu, h2⟩, hf⟩ := hc i hi
    refine ⟨?_, by rw [World.frozen?_setCell]; exact hf⟩
    by_cases e : k = i
    · subst e; exact ⟨c, World.cell?_setCell_same _ _ _ hu, fun _ => rfl⟩
    · exact ⟨u, (World.cell?_setCell_other _ _ _ _ (fun h => e (congrArg Addr.off h))).trans hu, fun h => h2 (by omega)⟩
theorem Fi.done {w : World} {ao : Option Addr} {n : Nat} {c : Value} (h : Fi w ao n n c) (h0 : ao = none → n = 0) (W0 : World) : GrS W0 w (.slice ao n n) n c := by
  refine .inl ⟨ao, rfl, h0, fun b hb j u hu => ?_⟩
  have hj : j < n := by
    have := (List.getElem?_eq_some_iff.1 hu).1
    simpa using this
  rw [List.getElem?_replicate, if_pos hj] at hu
  cases hu
  rcases h with h | ⟨g, h, hc⟩
  · omega
  · rw [h] at hb
    cases hb
    obtain ⟨⟨u, hu, h2⟩, _⟩ := hc j hj
    have hadd : (⟨g, 0, none⟩ : Addr).add j = ⟨g, j, none⟩ := by unfold Addr.add; split <;> simp_all
    rw [hadd, hu, h2 hj]
theorem Fi.wr {w : World} {ao : Option Addr} {n k : Nat} {c : Value} (h : Fi w ao n k c) : Wr w ao n := by
  rcases h with h | ⟨g, h, hc⟩
  · exact .inl h
  · refine .inr ⟨g, h, fun i hi => ?_⟩
    obtain ⟨⟨u, hu, _⟩, hf⟩ := hc i hi
    exact ⟨⟨u, hu⟩, hf⟩
theorem bko_pos {g n : Nat} (h : 0 < n) : bko (some ⟨g, 0, none⟩) n = [g] := by unfold bko; rw [if_neg (by omega)]
theorem bko_mem {ao : Option Addr} {n x : Nat} (h : x ∈ bko ao n) : 0 < n ∧ ∃ a : Addr, ao = some a ∧ x = a.block := by
  unfold bko at h
  split at h
  · simp at h
  · cases ao with
    | none => simp at h
    | some a => simp at h; exact ⟨by omega, a, rfl, h⟩
theorem Wr.lt {w : World} {ao : Option Addr} {n x : Nat} (h : Wr w ao n) (hx : x ∈ bko ao n) : x < w.heap.size ∧ ao = some ⟨x, 0, none⟩ := by
  obtain ⟨hp, a, ha, rfl⟩ := bko_mem hx
  rcases h with h | ⟨g, h, hc⟩
  · omega
  · rw [h] at ha
    cases ha
    obtain ⟨⟨u, hu⟩, _⟩ := hc 0 hp
    exact ⟨World.block_lt_of_cell? w _ hu, h⟩

theorem str_one (w : World) (b : Nat) (v : Nat) (s : ByteArray) (hs : bstr [v] = s) (h : Row w b [v]) : Sem.run Try.prog (convert 31 9 (.slice (some ⟨b, 0, none⟩) 1 1)) w = .ok (.string s) w := by
  rw [← hs]
  exact reads_str (l := [v]) h.reads 1

set_option maxHeartbeats 8000000 in
set_option maxRecDepth 1000000 in
theorem outer_any (ao bo : Option Addr) (na nb : Nat) (w : World) (ha : Wr w ao na) (hb : Wr w bo nb) (na0 : ao = none → na = 0) (nb0 : bo = none → nb = 0) (hne : 0 < na → 0 < nb → ∀ g g2, ao = some ⟨g, 0, none⟩ → bo = some ⟨g2, 0, none⟩ → g ≠ g2) (hna : na ≤ 256) (hnb : nb ≤ 256) :
    Calls Try.prog 14 #[.slice ao na na, .slice bo nb nb] w fun e w' => e = .returned (.bool true) ∧ Wr w' bo nb ∧ Kept (bko ao na ++ bko bo nb) w w' := by
  have HA := Hid.mk ha
  have HB := Hid.mk hb
  have HN := Hid.mk hne
  have NA := Hid.mk na0
  have NB := Hid.mk nb0
  clear ha hb hne na0 nb0
  go_enter Try.func14, Try.ntmps14
  go_wp2
  obtain ⟨bx, ebx⟩ : ∃ bx, bx = w.heap.size := ⟨_, rfl⟩
  have hw1 : ∃ w1, w1 = (w.alloc (.cells #[.int .u8 1] 5)).alloc (.cells #[.int .u8 2] 5) := ⟨_, rfl⟩
  obtain ⟨w1, ew1⟩ := hw1
  have K1 : Hid (Kept [] w w1) := Hid.mk (by rw [ew1]; exact ((Kept.refl [] w).alloc _).alloc _)
  have X1 : Hid (Row w1 bx [1]) := Hid.mk (by rw [ew1]; unfold Row; rw [heap_alloc_old _ _ (by rw [ebx]; simp), ebx, heap_alloc_new]; rfl)
  have Y1 : Hid (Row w1 (bx + 1) [2]) := Hid.mk (by rw [ew1]; unfold Row; rw [ebx, heap_alloc2_new]; rfl)
  rw [← ebx, ← ew1]
  have LA : Hid (∀ x, x ∈ bko ao na → x < bx ∧ ao = some ⟨x, 0, none⟩) := Hid.mk (fun x hx => by rw [ebx]; exact HA.out.lt hx)
  have LB : Hid (∀ x, x ∈ bko bo nb → x < bx ∧ bo = some ⟨x, 0, none⟩) := Hid.mk (fun x hx => by rw [ebx]; exact HB.out.lt hx)
  clear ebx ew1
  obtain ⟨cX, eX⟩ : ∃ cX, cX = Value.slice (some ⟨bx, 0, none⟩) 1 1 := ⟨_, rfl⟩
  have F1 : Hid (Fi w1 ao na 0 (.slice (some ⟨bx, 0, none⟩) 1 1)) := Hid.mk ((Fi.start HA.out _).keep K1.out (by simp))
  have F2 : Hid (Fi w1 bo nb 0 (.slice (some ⟨bx + 1, 0, none⟩) 1 1)) := Hid.mk ((Fi.start HB.out _).keep K1.out (by simp))
  clear eX cX
  go_loopw [7] (fun s wr => ∃ k : Nat, k ≤ na ∧ s = .int .i64 (k : Int) ∧ Fi wr ao na k (.slice (some ⟨bx, 0, none⟩) 1 1) ∧ Kept (bko ao na) w1 wr) (fun s _ => na - (intOf s).toNat)
  case atStart => exact ⟨0, by omega, rfl, F1.out, Kept.refl _ _⟩
  case round =>
    obtain ⟨k, hk, rfl, hf, hkr⟩ := hrel
    clear F1
    have F := Hid.mk hf
    have HK := Hid.mk hkr
    by_cases hlt : k < na
    · obtain ⟨g, hg, hc⟩ := hf.resolve_left (by omega)
      obtain ⟨⟨u, hu, _⟩, hfz⟩ := hc k hlt
      have ix : (k : Int) < (na : Int) := by omega
      have Hg := Hid.mk hg
      clear hf hkr hc
      subst hg
      have Hbk : Hid (bko (some ⟨g, 0, none⟩) na = [g]) := Hid.mk (bko_pos (by omega))
      go_wp2
      go_roundw
      case rel => exact ⟨k + 1, by omega, by go_num, F.out.set, HK.out.setCell (p := ⟨g, k, none⟩) (.inl (by rw [Hbk.out]; simp)) _⟩
      case measure => simp [intOf]; omega
    · obtain rfl : k = na := by omega
      clear hf hkr
      have X2 := Hid.mk (X1.out.keep HK.out (fun hm => by have := (LA.out _ hm).1; omega))
      have Y2 := Hid.mk (Y1.out.keep HK.out (fun hm => by have := (LA.out _ hm).1; omega))
      have G2 := Hid.mk (F2.out.keep HK.out (fun hp g hg hm => by
        obtain ⟨h1, h2⟩ := LA.out _ hm
        exact HN.out (bko_mem hm).1 hp g g h2 hg rfl))
      have KA : Hid (Kept (bko ao k ++ bko bo nb) w wr) := Hid.mk ((K1.out.mono (by simp)).step HK.out (fun x hx => .inl (List.mem_append.2 (.inl hx))))
      clear HK X1 Y1 F2 K1
      go_wp2
      go_loopw [8] (fun s wx => ∃ j : Nat, j ≤ nb ∧ s = .int .i64 (j : Int) ∧ Fi wx bo nb j (.slice (some ⟨bx + 1, 0, none⟩) 1 1) ∧ Kept (bko bo nb) wr wx) (fun s _ => nb - (intOf s).toNat)
      case atStart => exact ⟨0, by omega, rfl, G2.out, Kept.refl _ _⟩
      case round =>
        obtain ⟨j, hj, rfl, hf, hkr⟩ := hrel
        clear G2
        have G := Hid.mk hf
        have HK := Hid.mk hkr
        by_cases hlt2 : j < nb
        · obtain ⟨g, hg, hc⟩ := hf.resolve_left (by omega)
          obtain ⟨⟨u, hu, _⟩, hfz⟩ := hc j hlt2
          have ix : (j : Int) < (nb : Int) := by omega
          clear hf hkr hc
          subst hg
          have Hbk : Hid (bko (some ⟨g, 0, none⟩) nb = [g]) := Hid.mk (bko_pos (by omega))
          go_wp2
          go_roundw
          case rel => exact ⟨j + 1, by omega, by go_num, G.out.set, HK.out.setCell (p := ⟨g, j, none⟩) (.inl (by rw [Hbk.out]; simp)) _⟩
          case measure => simp [intOf]; omega
        · obtain rfl : j = nb := by omega
          clear hf hkr
          have X3 := Hid.mk (X2.out.keep HK.out (fun hm => by have := (LB.out _ hm).1; omega))
          have Y3 := Hid.mk (Y2.out.keep HK.out (fun hm => by have := (LB.out _ hm).1; omega))
          have A3 := Hid.mk (F.out.keep HK.out (fun hp g hg hm => by
            obtain ⟨h1, h2⟩ := LB.out _ hm
            exact HN.out hp (bko_mem hm).1 g g hg h2 rfl))
          have KB := Hid.mk (KA.out.step HK.out (fun x hx => .inl (List.mem_append.2 (.inr hx))))
          clear HK X2 Y2 F KA
          have GA := Hid.mk (A3.out.done NA.out wr)
          have FB := Hid.mk G.out
          clear A3 G
          go_wp2
          go_loopw [9, 11] (fun v s wx => ∃ t : Nat, t ≤ 20 ∧ s = .int .i64 (t : Int) ∧ GrS wr wx v (k + t) (.slice (some ⟨bx, 0, none⟩) 1 1) ∧ (0 < t → wx.ownsRow wr.heap.size 31 1 v (k + t) (List.replicate (k + t) (.slice (some ⟨bx, 0, none⟩) 1 1))) ∧ Kept [] wr wx) (fun _ s _ => 20 - (intOf s).toNat)
          case atStart => exact ⟨0, by omega, rfl, GA.out, fun h => by omega, Kept.refl _ _⟩
          case round =>
            obtain ⟨t, ht, rfl, hg, ho, hkx⟩ := hrel
            have HG := Hid.mk hg
            have HO := Hid.mk ho
            have HK := Hid.mk hkx
            clear hg ho hkx
            by_cases ht20 : t < 20
            · go_wp2_with (at_builtin; refine wpList_growS _ rfl _ _ rfl _ (HK.out.alloc _) _ (k + t) (.slice (some ⟨bx, 0, none⟩) 1 1) rfl rfl (HG.out.keep ((Kept.refl [] _).alloc _)) _ rfl (cell_one_new _ _ _) (by omega) ?_)
              intro v' w6 ho6 hk6
              have HO6 := Hid.mk ho6
              have HK6 := Hid.mk hk6
              clear ho6 hk6
              go_wp2
              go_roundw
              case rel => exact ⟨t + 1, by omega, by go_num, .inr HO6.out, fun _ => HO6.out, HK6.out⟩
              case measure => simp [intOf]; omega
            · obtain rfl : t = 20 := by omega
              rw [show ((20 : Nat) : Int) = 20 from rfl]
              have OW := Hid.mk (HO.out (by omega))
              have KB4 := Hid.mk (KB.out.step HK.out (by simp))
              have X4 := Hid.mk (X3.out.keep HK.out (by simp))
              have Y4 := Hid.mk (Y3.out.keep HK.out (by simp))
              have GB := Hid.mk ((FB.out.keep HK.out (by simp)).done NB.out wr)
              replace FB := Hid.mk (FB.out.keep HK.out (by simp))
              clear HG HO HK KB X3 Y3 GA
              obtain ⟨ga, ca, rfl⟩ := row_some OW.out (by omega)
              go_wp2
              go_loopw [10, 12] (fun v s wx => ∃ t : Nat, t ≤ 20 ∧ s = .int .i64 (t : Int) ∧ GrS wr wx v (j + t) (.slice (some ⟨bx + 1, 0, none⟩) 1 1) ∧ (0 < t → wx.ownsRow wr.heap.size 31 1 v (j + t) (List.replicate (j + t) (.slice (some ⟨bx + 1, 0, none⟩) 1 1))) ∧ Kept [] wr wx) (fun _ s _ => 20 - (intOf s).toNat)
              case atStart => exact ⟨0, by omega, rfl, GB.out, fun h => by omega, Kept.refl _ _⟩
              case round =>
                obtain ⟨t, ht, rfl, hg, ho, hkx⟩ := hrel
                have HG := Hid.mk hg
                have HO := Hid.mk ho
                have HK := Hid.mk hkx
                clear hg ho hkx
                by_cases ht20 : t < 20
                · go_wp2_with (at_builtin; refine wpList_growS _ rfl _ _ rfl _ (HK.out.alloc _) _ (j + t) (.slice (some ⟨bx + 1, 0, none⟩) 1 1) rfl rfl (HG.out.keep ((Kept.refl [] _).alloc _)) _ rfl (cell_one_new _ _ _) (by omega) ?_)
                  intro v' w6 ho6 hk6
                  have HO6 := Hid.mk ho6
                  have HK6 := Hid.mk hk6
                  clear ho6 hk6
                  go_wp2
                  go_roundw
                  case rel => exact ⟨t + 1, by omega, by go_num, .inr HO6.out, fun _ => HO6.out, HK6.out⟩
                  case measure => simp [intOf]; omega
                · obtain rfl : t = 20 := by omega
                  rw [show ((20 : Nat) : Int) = 20 from rfl]
                  have OH := Hid.mk (HO.out (by omega))
                  have OG := Hid.mk (HK.out.row OW.out (by simp))
                  have KB5 := Hid.mk (KB4.out.step HK.out (by simp))
                  have X5 := Hid.mk (X4.out.keep HK.out (by simp))
                  have Y5 := Hid.mk (Y4.out.keep HK.out (by simp))
                  replace FB := Hid.mk (FB.out.keep HK.out (by simp))
                  clear HG HO HK OW KB4 X4 Y4 GB
                  obtain ⟨gb, cb, rfl⟩ := row_some OH.out (by omega)
                  have CG : Hid (∀ i, i < k + 20 → wr.cell? ⟨ga, i, none⟩ = some (.slice (some ⟨bx, 0, none⟩) 1 1)) := Hid.mk (fun i hi => by
                    have hc := OG.out.cells (g := ga) rfl i _ (by rw [List.getElem?_replicate, if_pos hi])
                    have hadd : (⟨ga, 0, none⟩ : Addr).add i = ⟨ga, i, none⟩ := by unfold Addr.add; split <;> simp_all
                    rw [hadd] at hc; exact hc)
                  have CH : Hid (∀ i, i < j + 20 → wr.cell? ⟨gb, i, none⟩ = some (.slice (some ⟨bx + 1, 0, none⟩) 1 1)) := Hid.mk (fun i hi => by
                    have hc := OH.out.cells (g := gb) rfl i _ (by rw [List.getElem?_replicate, if_pos hi])
                    have hadd : (⟨gb, 0, none⟩ : Addr).add i = ⟨gb, i, none⟩ := by unfold Addr.add; split <;> simp_all
                    rw [hadd] at hc; exact hc)
                  have S1 := Hid.mk (fun wx (hq : Kept [] wr wx) => str_one wx bx 1 { data := #[1] } rfl (X5.out.keep hq (by simp)))
                  have S2 := Hid.mk (fun wx (hq : Kept [] wr wx) => str_one wx (bx + 1) 2 { data := #[2] } rfl (Y5.out.keep hq (by simp)))
                  clear OG OH X5 Y5
                  go_wp2
                  go_loopw [13] (fun s wx => ∃ i : Nat, i ≤ k + 20 ∧ s = .int .i64 (i : Int) ∧ Qt wr wx) (fun s _ => (k + 20) - (intOf s).toNat)
                  case atStart => exact ⟨0, by omega, rfl, Qt.refl _⟩
                  case round =>
                    obtain ⟨i, hi, rfl, hq⟩ := hrel
                    by_cases hit : i < k + 20
                    · have e1 := cell_keep (hq.kept []) (CG.out i hit) (by simp)
                      have s1 := S1.out _ (hq.kept [])
                      have Hq := Hid.mk hq
                      clear hq
                      have ix : (i : Int) < (k : Int) + 20 := by omega
                      go_wp2
                      go_roundw
                      case rel => exact ⟨i + 1, by omega, by go_num, Hq.out⟩
                      case measure => simp [intOf]; omega
                    · obtain rfl : i = k + 20 := by omega
                      have Hq := Hid.mk hq
                      clear hq
                      rw [show ((k + 20 : Nat) : Int) = (k : Int) + 20 from rfl]
                      go_wp2
                      go_loopw [14] (fun s wx => ∃ i : Nat, i ≤ j + 20 ∧ s = .int .i64 (i : Int) ∧ Qt wr wx) (fun s _ => (j + 20) - (intOf s).toNat)
                      case atStart => exact ⟨0, by omega, rfl, Qt.refl _⟩
                      case round =>
                        obtain ⟨i, hi, rfl, hq2⟩ := hrel
                        by_cases hit : i < j + 20
                        · have e1 := cell_keep (hq2.kept []) (cell_keep (Hq.out.kept []) (CH.out i hit) (by simp)) (by simp)
                          have s1 := S2.out _ ((Hq.out.kept []).trans (hq2.kept []))
                          have Hq2 := Hid.mk hq2
                          clear hq2
                          have ix : (i : Int) < (j : Int) + 20 := by omega
                          go_wp2
                          go_roundw
                          case rel => exact ⟨i + 1, by omega, by go_num, Hq2.out⟩
                          case measure => simp [intOf]; omega
                        · obtain rfl : i = j + 20 := by omega
                          have Hq2 := Hid.mk hq2
                          clear hq2
                          rw [show ((j + 20 : Nat) : Int) = (j : Int) + 20 from rfl]
                          go_wp2
                          go_ret
                          exact ⟨rfl, (FB.out.keep ((Hq.out.kept []).trans (Hq2.out.kept [])) (by simp)).wr, KB5.out.step ((Hq.out.kept []).trans (Hq2.out.kept [])) (by simp)⟩
end Go.Proofs.Ytjnmnkheichflab
