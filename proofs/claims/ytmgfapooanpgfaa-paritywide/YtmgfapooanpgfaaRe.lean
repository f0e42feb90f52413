import Derived.Test.YtmgfapooanpgfaaRd
import Derived.Deep.RegionLaw
import Derived.Deep.DeepCutAuto
namespace Go.Proofs.Ytmgfapooanpgfaa
open Go.RowKit

/-- Cauchy's matrix, as it came out of its call. -/
def Fac (w : World) (gf p n : Nat) : Prop := ∀ i, i < p → ∃ fo c, w.cell? ⟨gf, i, none⟩ = some (.slice fo n c) ∧ Reads w fo (rg (cf i) n)
theorem Fac.keep {w w' : World} {gf p n : Nat} (h : Fac w gf p n) (hk : Kept [] w w') : Fac w' gf p n := fun i hi => by
  obtain ⟨fo, c, h1, h2⟩ := h i hi
  exact ⟨fo, c, cell_keep hk h1 (by simp), h2.keep hk⟩

/-- Making a list of rows, as an equation. -/
theorem make_rows (r : Nat) (hr : r ≤ 1000000) : ∃ mkW : World → World, (∀ w, Sem.run Try.prog (Instr.makeSlice 34 (.int .i64 (r : Int)) (.int .i64 (r : Int))) w = .ok (.slice (some ⟨w.heap.size, 0, none⟩) r r) (mkW w)) ∧ ∀ w, Vr (mkW w) w.heap.size 40 r (fun _ => .slice none 0 0) ∧ Kept [] w (mkW w) := by
  obtain ⟨j0, gi, gz0, gz1, gz2⟩ := info_parts Try.infoR
  have h : ∀ w : World, ∃ w', Sem.run Try.prog (Instr.makeSlice 34 (.int .i64 (r : Int)) (.int .i64 (r : Int))) w = .ok (.slice (some ⟨w.heap.size, 0, none⟩) r r) w' ∧ Vr w' w.heap.size 40 r (fun _ => .slice none 0 0) ∧ Kept [] w w' := fun w => by
    obtain ⟨w', hrun, r1, r2⟩ := run_make_full (P := Try.prog) w 0 34 40 j0 (.slice none 0 0) 1 Try.underlying34 gi gz0 gz1 .i64 .i64 r (by rw [gz2]; omega) (by unfold maxLen; omega) (by omega)
    have hr3 := row_heap r1 rfl
    rw [show (madeCells (Value.slice none 0 0).cells (r * 1)).toList = List.replicate r (.slice none 0 0) by rw [Nat.mul_one]; exact toList_madeCells_one _ _, fl_rep] at hr3
    exact ⟨w', hrun, hr3, (Kept.of_grown r2).mono (by simp)⟩
  obtain ⟨mkW, hm⟩ := Classical.axiomOfChoice h
  exact ⟨mkW, fun w => (hm w).1, fun w => (hm w).2⟩

/-- append of one byte onto a row of one's own, in a region that draws. -/
theorem step_own {ops : Array Oper} {o : Oper} {a : Act} {w : World} {K : Act → World → Prop} {Q : Exit → Act → World → Prop} {E : Prop} (hg : o.guard = none) (s x : Operand) (hop : o.op = Op.call { callee := Callee.builtin Builtin.append, args := #[s, x], argTypes := #[40, 40] })
    (B : Nat) (v : Value) (n : Nat) (xs : List Value) (hs : a.eval s = v) (hown : w.ownsRow B 5 1 v n xs) (gx c : Nat) (hx : a.eval x = .slice (some ⟨gx, 0, none⟩) 1 c) (y : Value) (hc : w.cell? ⟨gx, 0, none⟩ = some y) (hone : y.oneCell' = true) (hb : n ≤ 1000) (hBw : B ≤ w.heap.size)
    (hK : ∀ v' w', w'.ownsRow B 5 1 v' (n + 1) (xs ++ [y]) → Kept v.ownBlock.toList w w' → Lies w v v' → K (a.put o.dst v') w') :
    if Region.wanted o (yielded ops a.tmps) = true then Oper.wp Try.prog o a w K Q else E := by
  obtain ⟨i0, hi, hz0, hz1, hz2⟩ := info_parts Try.info5
  have hw : Region.wanted o (yielded ops a.tmps) = true := by simp [Region.wanted, hg]
  rw [if_pos hw]
  obtain ⟨v', w', hr, h2, h3, h4, h5⟩ := run_append_own_at (P := Try.prog) w B 40 o.type 5 i0 (.int .u8 0) 1 1 Try.underlying40 hi hz0 hz1 hz2 rfl (by decide) v n xs hown ⟨gx, 0, none⟩ 1 c [y] rfl (fun j u hj => by
    match j with
    | 0 => simp at hj; subst hj; simpa [Addr.add] using hc
    | j + 1 => simp at hj) (fun u hu => by simp at hu; subst hu; exact hone) (by unfold maxLen; omega) (by omega) hBw
  unfold Oper.wp
  simp [execOp, hop, resolve, invoke, builtin, hs, hx, hr, Result.andThen]
  refine hK v' w' h2 (Kept.of_grown h3) ?_
  rcases h5 with h | h
  · exact .inl h
  · exact .inr ⟨_, h, Nat.le_refl _⟩

/-- The two matrices, of which k rows stand. -/
structure Bld (wr : World) (gu gk r N k : Nat) (U K : Nat → Nat → Nat) (uv kv : Nat → Value) : Prop where
  vu : Vr wr gu 40 r uv
  vk : Vr wr gk 40 r kv
  ru : ∀ t, t < k → ∃ b c, uv t = .slice b r c ∧ Reads wr b (rg (U t) r) ∧ ∀ g off, b = some ⟨g, off, none⟩ → g ≠ gu ∧ g ≠ gk
  rk : ∀ t, t < k → ∃ b, kv t = .slice (some ⟨b, 0, none⟩) N N ∧ Row wr b (rg (K t) N) ∧ b ≠ gu ∧ b ≠ gk
  un : ∀ t, k ≤ t → t < r → uv t = .slice none 0 0

/-- Those of the first t that are lost are struck. -/
def stk (l : List Nat) (t j : Nat) : Bool := (List.range t).any fun s => decide (l.getD s 0 = j)
theorem stk_iff {l : List Nat} {t j : Nat} : stk l t j = true ↔ ∃ s, s < t ∧ l.getD s 0 = j := by
  unfold stk
  rw [List.any_eq_true]
  constructor
  · rintro ⟨i, h1, h2⟩; exact ⟨i, by simpa using h1, by simpa using h2⟩
  · rintro ⟨i, h1, h2⟩; exact ⟨i, by simpa using h1, by simpa using h2⟩
theorem stk_next (l : List Nat) (t j : Nat) : stk l (t + 1) j = (stk l t j || decide (l.getD t 0 = j)) := by
  unfold stk
  rw [List.range_succ, List.any_append]
  simp
/-- A row of what is known, of which t places are struck. -/
def kP (n u : Nat) (l : List Nat) (t : Nat) : Nat → Nat := fun j => if j < n then (if stk l t j then 0 else cf u j) else if j = n + u then 1 else 0
theorem kP_next (n u : Nat) (l : List Nat) (t : Nat) (h : l.getD t 0 < n) : ∀ j, kP n u l (t + 1) j = if j = l.getD t 0 then 0 else kP n u l t j := by
  intro j
  unfold kP
  rw [stk_next]
  by_cases e : j = l.getD t 0
  · subst e; rw [if_pos h, if_pos rfl, decide_eq_true rfl, Bool.or_true, if_pos rfl]
  · rw [if_neg e, decide_eq_false (Ne.symm e), Bool.or_false]
theorem kP_full (go : Nat → Bool) (n p k : Nat) : kP n ((lU go n p).getD k 0) (lR go n) (lR go n).length = kF go n p k := by
  funext j
  unfold kP kF
  by_cases h : j < n
  · rw [if_pos h, if_pos h]
    have : stk (lR go n) (lR go n).length j = go j := by
      cases hg : go j
      · cases hs : stk (lR go n) (lR go n).length j
        · rfl
        · obtain ⟨s, h1, h2⟩ := stk_iff.1 hs
          have := (lR_at h1).2
          rw [h2, hg] at this
          cases this
      · exact stk_iff.2 ⟨cnt go j, lR_all h hg⟩
    rw [this]
  · rw [if_neg h, if_neg h]
theorem own_neB {w : World} {B A n t : Nat} {V : Value} {xs : List Value} {f : Nat → Value} {m : Nat} (h : Vr w A t m f) (ht : t ≠ 5) (ho : w.ownsRow B 5 1 V n xs) : A ∉ V.ownBlock.toList := by
  rw [mem_own]
  intro e
  rcases ho.2 with ⟨rfl, _⟩ | ⟨g, cap, cur, rfl, _, hg, _⟩
  · simp [Value.ownBlock] at e
  · simp [Value.ownBlock] at e
    subst e
    unfold Vr at h
    rw [hg] at h
    simp at h
    exact ht h.2.symm
theorem own_form {w : World} {B e n : Nat} {V : Value} {xs : List Value} (h : w.ownsRow B e 1 V n xs) : ∃ ao cap, V = .slice ao n cap := by
  rcases h.2 with ⟨h1, rfl⟩ | ⟨g, cap, cur, h1, _⟩
  · exact ⟨none, 0, h1⟩
  · exact ⟨_, cap, h1⟩
/-- One row under way: the row of the unknown ones grows, the other one stands in the block bk. -/
structure Inn (wx wr w2 : World) (gu gk r N k bk : Nat) (uv kv : Nat → Value) (t : Nat) (xs : List Value) (P : Nat → Nat) (V : Value) : Prop where
  vu : Vr wx gu 40 r (fun s => if s = k then V else uv s)
  ow : wx.ownsRow (bk + 1) 5 1 V t xs
  rb : Row wx bk (rg P N)
  vk : Vr wx gk 40 r (fun s => if s = k then .slice (some ⟨bk, 0, none⟩) N N else kv s)
  k1 : Kept [gu, gk] wr wx
  k2 : Kept [] w2 wx
theorem Inn.ready {wx wr w2 : World} {gu gk r N k bk : Nat} {uv kv : Nat → Value} {t : Nat} {xs : List Value} {P : Nat → Nat} {V : Value} (h : Inn wx wr w2 gu gk r N k bk uv kv t xs P V) (hk : k < r) {o : Obj} {w' : World} (hw : Kept V.ownBlock.toList (wx.drew.alloc o) w') : w'.cell? ⟨gu, k, none⟩ = some V ∧ w'.frozen? ⟨gu, k, none⟩ = false := by
  have kx : Kept V.ownBlock.toList wx w' := ((Kept.refl _ wx).drew.alloc o).trans hw
  have hu := h.vu.keep kx (own_neB h.vu (by decide) h.ow)
  have := hu.at hk
  rw [if_pos rfl] at this
  exact ⟨this, hu.fz k⟩
theorem Inn.app {wx wr w2 : World} {gu gk r N k bk : Nat} {uv kv : Nat → Value} {t : Nat} {xs : List Value} {P : Nat → Nat} {V V' : Value} (h : Inn wx wr w2 gu gk r N k bk uv kv t xs P V) (hb : bk = wr.heap.size) (h2 : w2.heap.size ≤ bk) (h3 : w2.heap.size ≤ gu) (hne : gu ≠ gk) (hbu : bk ≠ gu) {o : Obj} {w' : World} {ys : List Value} (hw : Kept V.ownBlock.toList (wx.drew.alloc o) w') (ho : w'.ownsRow (bk + 1) 5 1 V' (t + 1) ys) :
    Inn (w'.setCell ⟨gu, k, none⟩ V') wr w2 gu gk r N k bk uv kv (t + 1) ys P V' := by
  have kx : Kept V.ownBlock.toList wx w' := ((Kept.refl _ wx).drew.alloc o).trans hw
  have hlo := own_loE h.ow
  have ks : Kept [gu] w' (w'.setCell ⟨gu, k, none⟩ V') := (Kept.refl [gu] w').setCell (p := ⟨gu, k, none⟩) (.inl (by simp)) V'
  have hu := h.vu.keep kx (own_neB h.vu (by decide) h.ow)
  have hv := h.vk.keep kx (own_neB h.vk (by decide) h.ow)
  refine ⟨hu.put (fun s _ => ?_), ks.row ho (fun g hg => ?_), (h.rb.keep kx (fun hm => by have := hlo _ hm; omega)).keep ks (by simpa using hbu), hv.keep ks (by simpa using Ne.symm hne), ?_, ?_⟩
  · by_cases e : s = k
    · rw [if_pos e, if_pos e]
    · rw [if_neg e, if_neg e, if_neg e]
  · have := own_neB hu (by decide) ho
    rw [mem_own] at this
    simp only [List.mem_singleton]
    intro e
    subst e
    exact this hg
  · exact (h.k1.step kx (fun x hx => .inr (by have := hlo x hx; omega))).step ks (fun x hx => by simp at hx; subst hx; exact .inl (by simp))
  · exact (h.k2.step kx (fun x hx => .inr (by have := hlo x hx; omega))).step ks (fun x hx => by simp at hx; subst hx; exact .inr h3)
theorem Inn.strike {wx wr w2 : World} {gu gk r N k bk : Nat} {uv kv : Nat → Value} {t : Nat} {xs : List Value} {P P' : Nat → Nat} {V : Value} (h : Inn wx wr w2 gu gk r N k bk uv kv t xs P V) (hb : bk = wr.heap.size) (h2 : w2.heap.size ≤ bk) (hbu : bk ≠ gu) (hbk : bk ≠ gk) {q x : Nat} (hP : ∀ j, P' j = if j = q then x else P j) {u : Value} (hu : u = byt x) :
    Inn (wx.setCell ⟨bk, q, none⟩ u) wr w2 gu gk r N k bk uv kv t xs P' V := by
  have ks : Kept [bk] wx (wx.setCell ⟨bk, q, none⟩ u) := (Kept.refl [bk] wx).setCell (p := ⟨bk, q, none⟩) (.inl (by simp)) u
  have hlo := own_loE h.ow
  exact ⟨h.vu.keep ks (by simpa using Ne.symm hbu), ks.row h.ow (fun g hg => by have := hlo g (by rw [mem_own]; exact hg); simp; omega), h.rb.put hP hu, h.vk.keep ks (by simpa using Ne.symm hbk), h.k1.step ks (fun x hx => by simp at hx; subst hx; exact .inr (by omega)), h.k2.step ks (fun x hx => by simp at hx; subst hx; exact .inr (by omega))⟩
theorem Bld.next {wr wo w2 : World} {gu gk r N k bk : Nat} {U K : Nat → Nat → Nat} {uv kv : Nat → Value} {P : Nat → Nat} {V : Value} (hB : Bld wo gu gk r N k U K uv kv) (hI : Inn wr wo w2 gu gk r N k bk uv kv r ((rg (U k) r).map byt) P V) (hP : P = K k) (hbu : bk ≠ gu) (hbk : bk ≠ gk) :
    Bld wr gu gk r N (k + 1) U K (fun s => if s = k then V else uv s) (fun s => if s = k then .slice (some ⟨bk, 0, none⟩) N N else kv s) := by
  refine ⟨hI.vu, hI.vk, fun t ht => ?_, fun t ht => ?_, fun t h1 h2 => ?_⟩
  · by_cases e : t = k
    · subst e
      obtain ⟨ao, c, hV⟩ := own_form hI.ow
      have ho := hI.ow
      rw [hV] at ho
      refine ⟨ao, c, by rw [if_pos rfl, hV], reads_row ho, fun g off e => ?_⟩
      have h1 := own_neB hI.vu (by decide) hI.ow
      have h2 := own_neB hI.vk (by decide) hI.ow
      rw [mem_own, hV, e] at h1 h2
      exact ⟨fun e => h1 (by rw [← e]; rfl), fun e => h2 (by rw [← e]; rfl)⟩
    · obtain ⟨b, c, h1, h2, h3⟩ := hB.ru t (by omega)
      exact ⟨b, c, by rw [if_neg e, h1], h2.kept hI.k1 (fun g off e => by have := h3 g off e; simp [this.1, this.2]), h3⟩
  · by_cases e : t = k
    · subst e
      refine ⟨bk, by rw [if_pos rfl], ?_, hbu, hbk⟩
      rw [← hP]; exact hI.rb
    · obtain ⟨b, h1, h2, h3, h4⟩ := hB.rk t (by omega)
      exact ⟨b, by rw [if_neg e, h1], h2.keep hI.k1 (by simp [h3, h4]), h3, h4⟩
  · rw [if_neg (by omega)]
    exact hB.un t (by omega) h2
theorem Bld.mru {wr : World} {gu gk r N : Nat} {U K : Nat → Nat → Nat} {uv kv : Nat → Value} (h : Bld wr gu gk r N r U K uv kv) : MR wr (some ⟨gu, 0, none⟩) (mf U r r) := by
  refine .inr ⟨gu, 0, rfl, fun i hi => ?_⟩
  rw [mf_length] at hi
  obtain ⟨b, c, h1, h2, _⟩ := h.ru i hi
  have := h.vu.at hi
  rw [h1] at this
  rw [mf_getD _ _ _ _ hi, rg_length, Nat.zero_add]
  exact ⟨b, c, this, h2⟩
theorem Bld.mrk {wr : World} {gu gk r N : Nat} {U K : Nat → Nat → Nat} {uv kv : Nat → Value} (h : Bld wr gu gk r N r U K uv kv) : MR wr (some ⟨gk, 0, none⟩) (mf K r N) := by
  refine .inr ⟨gk, 0, rfl, fun i hi => ?_⟩
  rw [mf_length] at hi
  obtain ⟨b, h1, h2, _⟩ := h.rk i hi
  have := h.vk.at hi
  rw [h1] at this
  rw [mf_getD _ _ _ _ hi, rg_length, Nat.zero_add]
  exact ⟨_, _, this, h2.reads⟩
/-- Solve of both. -/
theorem solve_fill (gu gk r N : Nat) (U K X Y : Nat → Nat → Nat) (w : World) (hU : MR w (some ⟨gu, 0, none⟩) (mf U r r)) (hK : MR w (some ⟨gk, 0, none⟩) (mf K r N)) (lU_ : Lo U) (lK : Lo K) (hr : r ≤ 256) (hN : N ≤ 1000) (h : gt r (fn (mf U r r)) (fn (mf K r N)) r = some (X, Y)) :
    Calls Try.prog 53 #[.slice (some ⟨gu, 0, none⟩) r r, .slice (some ⟨gk, 0, none⟩) r r] w fun e w' => ∃ (g : Nat) (bs : Nat → Nat), e = .returned (.tuple #[.slice (some ⟨g, 0, none⟩) r r, .int .i64 0]) ∧ (∀ t, t < r → w'.cell? ⟨g, t, none⟩ = some (.slice (some ⟨bs t, 0, none⟩) N N) ∧ Row w' (bs t) (rg (Y t) N)) ∧ w.heap.size ≤ g ∧ (∀ t, t < r → w.heap.size ≤ bs t) ∧ Kept [] w w' := by
  have hss : ssh (mf U r r) (mf K r N) = true := by
    by_cases h0 : r = 0
    · subst h0; rfl
    · exact ssh_mf U K r N hr (by omega)
  have hrl : rl (mf K r N) ≤ 140737488355328 := by
    by_cases h0 : r = 0
    · subst h0; show (0 : Nat) ≤ _; omega
    · rw [rl_mf K r N (by omega)]; omega
  refine (solve_ok _ _ r r r _ _ w hU hK (bm_mf lU_ r r) (bm_mf lK r N) (mf_length _ _ _) (mf_length _ _ _) hrl hss).mono ?_
  intro e w' hp
  rw [h] at hp
  obtain ⟨g, bs, he, hM, h1, h2, h3⟩ := hp
  refine ⟨g, bs, he, fun t ht => ?_, h1, h2, h3⟩
  have e1 := hM.out t ht
  have e2 := hM.row t ht
  rw [rl_mf K r N (by omega)] at e1 e2
  exact ⟨e1, e2⟩

/-- A row of those that are cut out of one list is read. -/
theorem ct_reads {w : World} {B T N i : Nat} {ln Z : Nat → Nat} {X : Nat → Nat → Nat} (hr : Row w B (rg Z T)) (hT : ofs ln N = T) (hc : ∀ x, x < ln i → Z (ofs ln i + x) = X i x) (hi : i < N) : Reads w (some ⟨B, po ln i, none⟩) (rg (X i) (ln i)) := by
  by_cases h0 : ln i = 0
  · rw [h0]; exact .inl rfl
  · refine .inr ⟨B, po ln i, rfl, fun x hx => ?_⟩
    rw [rg_length] at hx
    have hp : po ln i = ofs ln i := if_neg h0
    have := ofs_mono ln hi
    have hq : ofs ln i + x < T := by omega
    have h1 := hr.at (j := ofs ln i + x) (by rw [rg_length]; exact hq)
    rw [rg_getD _ _ _ hq, hc x hx] at h1
    rw [hp, h1, rg_getD _ _ _ hx]
    rfl
theorem ct_apt {B i j : Nat} {ln : Nat → Nat} (h : i ≠ j) : Apt (some ⟨B, po ln i, none⟩) (ln i) B (po ln j) (ln j) := by
  intro h0 g off e
  cases e
  right
  have hp : po ln i = ofs ln i := if_neg (by omega)
  rw [hp]
  unfold po
  by_cases h1 : ln j = 0
  · rw [if_pos h1]; omega
  · rw [if_neg h1]
    rcases Nat.lt_or_gt_of_ne h with h2 | h2
    · have := ofs_mono ln h2; omega
    · have := ofs_mono ln h2; omega
theorem rg_getD0 (p : Nat → Nat) (n x : Nat) (h : n ≤ x → p x = 0) : (rg p n).getD x 0 = p x := by
  by_cases hx : x < n
  · exact rg_getD _ _ _ hx
  · rw [List.getD_eq_getElem?_getD, List.getElem?_eq_none (by rw [rg_length]; omega), h (by omega)]; rfl
theorem rg_snoc (p : Nat → Nat) (n : Nat) : (rg p n).map byt ++ [.int .u8 (p n : Int)] = (rg p (n + 1)).map byt := by
  unfold rg
  rw [List.range_succ, List.map_append, List.map_append]
  rfl

end Go.Proofs.Ytmgfapooanpgfaa
