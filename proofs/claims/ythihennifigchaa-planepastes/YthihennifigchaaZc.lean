import Derived.Test.YthihennifigchaaLd
namespace Go.Proofs.Ythihennifigchaa
open Go.RowKit

/-- A row whose first m samples are f, in a block of its own (with room). -/
def Wr (w : World) (g m : Nat) (f : Nat → Nat) : Prop := ∃ cs : Array Value, w.heap[g]? = some (.cells cs 65 (0, 0)) ∧ ∀ i, i < m → cs[i]? = some (.int .u16 (f i : Int))
theorem Wr.lt {w : World} {g m : Nat} {f : Nat → Nat} (h : Wr w g m f) : g < w.heap.size := by
  obtain ⟨cs, h1, -⟩ := h
  exact lt_of_block h1
theorem Wr.keep {w w' : World} {g m : Nat} {f : Nat → Nat} {ks : List Nat} (h : Wr w g m f) (hk : Kept ks w w') (hg : g ∉ ks) : Wr w' g m f := by
  obtain ⟨cs, h1, h2⟩ := h
  exact ⟨cs, hk.heap h1 hg, h2⟩
theorem Wr.at {w : World} {g m : Nat} {f : Nat → Nat} (h : Wr w g m f) {i : Nat} (hi : i < m) : w.cell? ⟨g, i, none⟩ = some (.int .u16 (f i : Int)) := by
  obtain ⟨cs, h1, h2⟩ := h
  rw [cell_of_row _ _ _ _ _ _ h1]
  exact h2 i hi
theorem Wr.fz {w : World} {g m : Nat} {f : Nat → Nat} (h : Wr w g m f) (i : Nat) : w.frozen? ⟨g, i, none⟩ = false := by
  obtain ⟨cs, h1, -⟩ := h
  simp [World.frozen?, h1]
theorem Wr.rd {w : World} {g m : Nat} {f : Nat → Nat} (h : Wr w g m f) : Rd w (some ⟨g, 0, none⟩) m f := .inr ⟨g, 0, rfl, fun i hi => by rw [Nat.zero_add]; exact h.at hi⟩
theorem Wr.set {w : World} {g m i v : Nat} {f : Nat → Nat} (h : Wr w g m f) : Wr (w.setCell ⟨g, i, none⟩ (.int .u16 (v : Int))) g m (fun t => if t = i then v else f t) := by
  obtain ⟨cs, h1, h2⟩ := h
  refine ⟨_, heap_setCell_at h1, fun t ht => ?_⟩
  have h3 := h2 t ht
  rw [Array.getElem?_setIfInBounds]
  by_cases e : i = t
  · subst e
    have hl : i < cs.size := by
      rcases Nat.lt_or_ge i cs.size with h | h
      · exact h
      · rw [Array.getElem?_eq_none h] at h3; cases h3
    simp [hl]
  · rw [if_neg e]
    show cs[t]? = some (.int .u16 ((if t = i then v else f t : Nat) : Int))
    rw [if_neg (Ne.symm e)]
    exact h3

/-- A copy of samples that are read, by append onto an empty list. -/
theorem app_copyR (u : World) (b o m c : Nat) (f : Nat → Nat) (hr : ∀ i, i < m → u.cell? ⟨b, o + i, none⟩ = some (.int .u16 (f i : Int))) (hm1 : 1 ≤ m) (hM : m ≤ 70368744177664) :
    ∃ g1 c1 ub, Sem.run Try.prog (Builtin.append_ #[52, 52] 52 #[.slice (some ⟨u.heap.size, 0, none⟩) 0 0, .slice (some ⟨b, o, none⟩) m c]) (u.alloc (.cells #[] 65)) = .ok (slv g1 m c1) ub ∧ Kept [] u ub ∧ u.heap.size ≤ g1 ∧ m ≤ c1 ∧ Wr ub g1 m f := by
  obtain ⟨j0, gi, gz0, gz1, gz2⟩ := info_parts Try.info65
  have ho : (u.alloc (.cells #[] 65)).ownsRow u.heap.size 65 1 (.slice (some ⟨u.heap.size, 0, none⟩) 0 0) 0 ([] : List Value) := World.ownsRow_lit u #[] 0 (Nat.le_refl _) (by decide) rfl
  obtain ⟨v', w', hrun, h2, h3, h4, _⟩ := run_append_own_at (P := Try.prog) (u.alloc (.cells #[] 65)) u.heap.size 52 52 65 j0 (.int .u16 0) 1 2 Try.underlying52 gi gz0 gz1 gz2 rfl (by decide) _ 0 [] ho ⟨b, o, none⟩ m c (fl (vU f) m) (by rw [fl_length, Nat.mul_one]) (fun j x hj => by
    have hjm : j < m := by
      rcases Nat.lt_or_ge j m with h | h
      · exact h
      · rw [List.getElem?_eq_none (by rw [fl_length]; exact h)] at hj; cases hj
    rw [fl_at _ _ _ hjm] at hj
    cases hj
    rw [show (⟨b, o, none⟩ : Addr).add j = ⟨b, o + j, none⟩ by unfold Addr.add; split <;> simp_all]
    exact cell_keep (alloc_kept u _) (hr j hjm) (by simp)) (fun x hx => by
    simp only [fl, vU, List.mem_map] at hx
    obtain ⟨i, _, rfl⟩ := hx
    rfl) (by unfold maxLen; omega) (by omega) (by rw [World.size_alloc]; omega)
  rw [Nat.zero_add, List.nil_append] at h2
  have hk : Kept [] u w' := (alloc_kept u _).step (Kept.of_grown h3) (fun x hx => by rw [mem_own] at hx; simp [Value.ownBlock] at hx; subst hx; exact .inr (Nat.le_refl _))
  rcases h2.2 with ⟨e, h0⟩ | ⟨g, cap, cur, e, hb, hg, hc, _⟩
  · have := (h4.1 e).1
    cases this
  · subst e
    refine ⟨g, cap, w', hrun, hk, hb, hc, _, hg, fun i hi => ?_⟩
    have hcc := h2.cells (g := g) rfl i _ (fl_at _ m i hi)
    rw [show (⟨g, 0, none⟩ : Addr).add i = ⟨g, 0 + i, none⟩ by unfold Addr.add; split <;> simp_all, Nat.zero_add, cell_of_row _ _ _ _ _ _ hg] at hcc
    exact hcc

/-- Planes that were copied so far: rows in blocks of their own, one behind the other. -/
structure Gz (B : Nat) (w : World) (V : Value) (k : Nat) (gs cs ln : Nat → Nat) (F : Nat → Nat → Nat) : Prop where
  own : w.ownsRow B 52 1 V k (fl (fun i => slv (gs i) (ln i) (cs i)) k)
  row : ∀ i, i < k → ln i ≤ cs i ∧ B ≤ gs i ∧ Wr w (gs i) (ln i) (F i)
  mon : ∀ i j, i < j → j < k → gs i < gs j
theorem Gz.start (B : Nat) (w : World) (gs cs ln : Nat → Nat) (F : Nat → Nat → Nat) : Gz B w (.slice none 0 0) 0 gs cs ln F := ⟨⟨rfl, .inl ⟨rfl, rfl⟩⟩, fun i h => by omega, fun i j _ h => by omega⟩
theorem Gz.keep {B : Nat} {w w' : World} {V : Value} {k : Nat} {gs cs ln : Nat → Nat} {F : Nat → Nat → Nat} {ks : List Nat} (h : Gz B w V k gs cs ln F) (hk : Kept ks w w') (hs : ∀ x ∈ ks, x < B) : Gz B w' V k gs cs ln F := by
  refine ⟨hk.row h.own (fun g hg hm => ?_), fun i hi => ?_, h.mon⟩
  · have := (own_lt h.own g hg).1
    have := hs g hm
    omega
  · obtain ⟨h1, h2, h3⟩ := h.row i hi
    exact ⟨h1, h2, h3.keep hk (fun hm => by have := hs _ hm; omega)⟩
theorem own_wr {w : World} {B n g m : Nat} {V : Value} {xs : List Value} {f : Nat → Nat} (h : w.ownsRow B 52 1 V n xs) (hr : Wr w g m f) : V.ownBlock ≠ some g := by
  obtain ⟨cs, h1, -⟩ := hr
  exact own_other h h1 (by decide)
/-- One row more. -/
theorem Gz.step {B : Nat} {w wA w' : World} {V V' : Value} {k gn c : Nat} {gs cs ln : Nat → Nat} {F : Nat → Nat → Nat} (h : Gz B w V k gs cs ln F) (hB : B ≤ w.heap.size) (hk : Kept [] w wA) (hc : ln k ≤ c) (hgn : w.heap.size ≤ gn) (hr : Wr wA gn (ln k) (F k))
    (ho : w'.ownsRow B 52 1 V' (k + 1) (fl (fun i => slv (gs i) (ln i) (cs i)) k ++ [slv gn (ln k) c])) (hk2 : Kept V.ownBlock.toList wA w') : Gz B w' V' (k + 1) (fun i => if i = k then gn else gs i) (fun i => if i = k then c else cs i) ln F := by
  have hA := h.keep hk (by simp)
  refine ⟨?_, fun i hi => ?_, fun i j hij hj => ?_⟩
  · rw [show fl (fun i => slv (gs i) (ln i) (cs i)) k ++ [slv gn (ln k) c] = fl (fun i => slv (gs i) (ln i) (cs i)) k ++ fl (fun _ => slv gn (ln k) c) 1 from rfl, fl_append] at ho
    rw [fl_congr (g := fun i => if i < k then slv (gs i) (ln i) (cs i) else slv gn (ln k) c)]
    · exact ho
    · intro i hi
      by_cases e : i = k
      · subst e; simp
      · simp [e, show i < k by omega]
  · by_cases e : i = k
    · subst e
      simp only [if_pos]
      exact ⟨hc, by omega, hr.keep hk2 (fun hm => own_wr hA.own hr (mem_own.1 hm))⟩
    · simp only [if_neg e]
      obtain ⟨h1, h2, h3⟩ := hA.row i (by omega)
      exact ⟨h1, h2, h3.keep hk2 (fun hm => own_wr hA.own h3 (mem_own.1 hm))⟩
  · have hlt : ∀ i, i < k → gs i < w.heap.size := fun i hi => (h.row i hi).2.2.lt
    by_cases e : j = k
    · subst e
      rw [if_pos rfl, if_neg (by omega)]
      have := hlt i hij
      omega
    · rw [if_neg (show i ≠ k by omega), if_neg e]
      exact h.mon i j hij (by omega)
theorem Gz.pc {B : Nat} {w : World} {V : Value} {k : Nat} {gs cs ln : Nat → Nat} {F : Nat → Nat → Nat} (h : Gz B w V k gs cs ln F) : ∃ ao c, V = .slice ao k c ∧ Pc w ao k ln F := by
  rcases h.own.2 with ⟨e, h0⟩ | ⟨g, cap, cur, rfl, hb, hg, _⟩
  · subst h0
    exact ⟨none, 0, e, .inl rfl⟩
  · refine ⟨_, cap, rfl, .inr ⟨g, 0, rfl, fun i hi => ?_⟩⟩
    obtain ⟨h1, h2, h3⟩ := h.row i hi
    have hc := h.own.cells (g := g) rfl i _ (fl_at _ k i hi)
    have hadd : (⟨g, 0, none⟩ : Addr).add i = ⟨g, 0 + i, none⟩ := by unfold Addr.add; split <;> simp_all
    rw [hadd] at hc
    exact ⟨_, cs i, hc, h1, h3.rd⟩

set_option maxHeartbeats 16000000 in
set_option maxRecDepth 1000000 in
theorem copied_any (W H D : Int) (A : Bool) (po : Option Addr) (n c : Nat) (ln : Nat → Nat) (F : Nat → Nat → Nat) (w : World) (hr : Pc w po n ln F) (hn : n ≤ 5864062014634) (hln : ∀ i, i < n → 1 ≤ ln i ∧ ln i ≤ 70368744175616) :
    Calls Try.prog 54 #[frv W H D A po n c] w fun e w' => ∃ go gc gs cs, e = .returned (frv W H D A go n gc) ∧ Gz w.heap.size w' (.slice go n gc) n gs cs ln F ∧ Kept [] w w' := by
  have HP := Hid.mk hr
  have Hln := Hid.mk hln
  clear hr hln
  go_enter Try.func54, Try.ntmps54
  go_wp2
  obtain ⟨w1, ew1⟩ : ∃ w1, w1 = ((w.alloc (.cells #[.int .i64 W, .int .i64 H, .int .i64 D, .bool A, .slice po n c] 38)).alloc (.cells #[.int .i64 0, .int .i64 0, .int .i64 0, .bool false, .slice none 0 0] 38)).alloc (.cells #[.int .i64 W, .int .i64 H, .int .i64 D, .bool A, .slice none 0 0] 38) := ⟨_, rfl⟩
  have P1 : Hid ((w1.heap[w.heap.size]? = some (.cells #[.int .i64 W, .int .i64 H, .int .i64 D, .bool A, .slice po n c] 38 (0, 0)) ∧ w1.heap[w.heap.size + 1]? = some (.cells #[.int .i64 0, .int .i64 0, .int .i64 0, .bool false, .slice none 0 0] 38 (0, 0)) ∧ w1.heap[w.heap.size + 1 + 1]? = some (.cells #[.int .i64 W, .int .i64 H, .int .i64 D, .bool A, .slice none 0 0] 38 (0, 0))) ∧ w1.heap.size = w.heap.size + 3 ∧ Kept [] w w1) := by
    have h1 := heap_alloc_new w (.cells #[.int .i64 W, .int .i64 H, .int .i64 D, .bool A, .slice po n c] 38)
    have h2 := heap_alloc_new (w.alloc (.cells #[.int .i64 W, .int .i64 H, .int .i64 D, .bool A, .slice po n c] 38)) (.cells #[.int .i64 0, .int .i64 0, .int .i64 0, .bool false, .slice none 0 0] 38)
    have h3 := heap_alloc_new ((w.alloc (.cells #[.int .i64 W, .int .i64 H, .int .i64 D, .bool A, .slice po n c] 38)).alloc (.cells #[.int .i64 0, .int .i64 0, .int .i64 0, .bool false, .slice none 0 0] 38)) (.cells #[.int .i64 W, .int .i64 H, .int .i64 D, .bool A, .slice none 0 0] 38)
    have k2 := alloc_kept (w.alloc (.cells #[.int .i64 W, .int .i64 H, .int .i64 D, .bool A, .slice po n c] 38)) (.cells #[.int .i64 0, .int .i64 0, .int .i64 0, .bool false, .slice none 0 0] 38)
    have k3 := alloc_kept ((w.alloc (.cells #[.int .i64 W, .int .i64 H, .int .i64 D, .bool A, .slice po n c] 38)).alloc (.cells #[.int .i64 0, .int .i64 0, .int .i64 0, .bool false, .slice none 0 0] 38)) (.cells #[.int .i64 W, .int .i64 H, .int .i64 D, .bool A, .slice none 0 0] 38)
    rw [World.size_alloc] at h2
    rw [World.size_alloc, World.size_alloc] at h3
    rw [ew1]
    exact ⟨⟨k3.heap (k2.heap h1 (by simp)) (by simp), k3.heap h2 (by simp), h3⟩, by rw [World.size_alloc, World.size_alloc, World.size_alloc], ((alloc_kept w _).trans k2).trans k3⟩
  rw [← ew1]
  clear ew1
  obtain ⟨XB, eXB⟩ : ∃ XB, XB = w.heap.size := ⟨_, rfl⟩
  obtain ⟨RB, eRB⟩ : ∃ RB, RB = w.heap.size + 1 := ⟨_, rfl⟩
  obtain ⟨YB, eYB⟩ : ∃ YB, YB = w.heap.size + 1 + 1 := ⟨_, rfl⟩
  rw [← eYB, ← eRB, ← eXB] at P1 ⊢
  obtain ⟨B, eB⟩ : ∃ B, B = w1.heap.size := ⟨_, rfl⟩
  have HB : Hid (XB = w.heap.size ∧ RB = w.heap.size + 1 ∧ YB = w.heap.size + 2 ∧ B = w.heap.size + 3 ∧ B = w1.heap.size) := Hid.mk ⟨eXB, eRB, eYB, by have := P1.out.2.1; omega, eB⟩
  have EX := Hid.mk eXB
  clear eXB eRB eYB eB
  go_loopw [4] (fun i wr => ∃ (k : Nat) (V' : Value) (gs cs : Nat → Nat), k ≤ n ∧ i = .int .i64 (k : Int) ∧ wr.heap[YB]? = some (.cells #[.int .i64 W, .int .i64 H, .int .i64 D, .bool A, V'] 38 (0, 0)) ∧ Gz B wr V' k gs cs ln F ∧ Kept [YB] w1 wr) (fun i _ => n - (intOf i).toNat)
  case atStart => exact ⟨0, _, fun _ => 0, fun _ => 0, by omega, rfl, P1.out.1.2.2, Gz.start _ _ _ _ _ _, Kept.refl _ _⟩
  case round =>
    obtain ⟨k, V', gs, cs, hk, rfl, hY, hG, hkr⟩ := hrel
    have hb := HB.out
    have hX := hkr.heap P1.out.1.1 (by simp; omega)
    have hR := hkr.heap P1.out.1.2.1 (by simp; omega)
    have kw : Kept [] w wr := P1.out.2.2.step hkr (fun x hx => by simp at hx; right; omega)
    obtain ⟨⟨x0, x1, x2, x3, x4⟩, _⟩ := five hX
    by_cases hlt : k < n
    · have hmb := Hln.out k hlt
      obtain ⟨pg, off, rfl, hpc⟩ : ∃ pg off, po = some ⟨pg, off, none⟩ ∧ ∀ i, i < n → ∃ bo c, wr.cell? ⟨pg, off + i, none⟩ = some (.slice bo (ln i) c) ∧ ln i ≤ c ∧ Rd wr bo (ln i) (F i) := by
        rcases HP.out.keep kw with h | h
        · omega
        · exact h
      obtain ⟨bo, bc, zL, hbc, hrd0⟩ := hpc k hlt
      obtain ⟨b, o2, rfl, hcs⟩ : ∃ b o2, bo = some ⟨b, o2, none⟩ ∧ ∀ i, i < ln k → wr.cell? ⟨b, o2 + i, none⟩ = some (.int .u16 (F k i : Int)) := by
        rcases hrd0 with h | h
        · omega
        · exact h
      have ix : (k : Int) < (n : Int) := by omega
      obtain ⟨m, em⟩ : ∃ m, m = ln k := ⟨_, rfl⟩
      rw [← em] at zL hmb hbc hcs
      have EM := Hid.mk em
      have z4 := x4
      have hBw : B ≤ wr.heap.size := by rw [hb.2.2.2.2]; exact hkr.size
      obtain ⟨vo', vc', rfl⟩ : ∃ vo' vc', V' = .slice vo' k vc' := by
        rcases hG.own.2 with ⟨e2, h0⟩ | ⟨g2, cap, cur, e2, _⟩
        · exact ⟨none, 0, by rw [e2, h0]⟩
        · exact ⟨_, _, e2⟩
      obtain ⟨g1, c1, ub, e9, kb, hg1, hmc, hwr⟩ := app_copyR wr.drew b o2 m bc (F k) (fun i hi => hcs i hi) hmb.1 (by omega)
      have kb' : Kept [] wr ub := ((Kept.refl [] wr).drew).trans kb
      have hGb := hG.keep kb' (by simp)
      obtain ⟨g2, c2, ud, e11, ho2, kd, -⟩ := app_one ub B k _ (slv g1 m c1) _ hGb.own rfl (Nat.le_trans hBw kb'.size) (by omega)
      have hYb := kb'.heap hY (by simp)
      have nYd : YB ∉ (Value.slice vo' k vc').ownBlock.toList := by rw [mem_own]; exact own_other hGb.own hYb (by decide)
      have hYd := kd.heap hYb nYd
      have nXd : ∀ x, x < B → x ∉ (Value.slice vo' k vc').ownBlock.toList := fun x hx hm => by rw [mem_own] at hm; have := (own_lt hGb.own x hm).1; omega
      have kwb : Kept [] w ub := kw.trans kb'
      have kwd : Kept [] w ud := kwb.step kd (fun x hx => by rw [mem_own] at hx; have := (own_lt hGb.own x hx).1; right; omega)
      obtain ⟨⟨_, _, _, _, v4⟩, ⟨_, _, _, _, t4⟩⟩ := five hY
      obtain ⟨⟨_, _, _, _, v4b⟩, ⟨_, _, _, _, _⟩⟩ := five hYb
      obtain ⟨⟨_, _, _, _, v4d⟩, ⟨_, _, _, _, t4d⟩⟩ := five hYd
      have v4a : ((wr.alloc (.cells #[] 65)).drew).cell? ⟨YB, 4, none⟩ = some (.slice vo' k vc') := cell_keep (alloc_kept wr.drew (.cells #[] 65)) (show wr.drew.cell? _ = _ from v4) (by simp)
      have v4c := cell_keep (alloc_kept ub (.cells #[slv g1 m c1] 52)) v4b (by simp)
      have a4 : ((wr.alloc (.cells #[] 65)).drew).cell? ⟨XB, 4, none⟩ = some (.slice (some ⟨pg, off, none⟩) n c) := cell_keep (alloc_kept wr.drew (.cells #[] 65)) (show wr.drew.cell? _ = _ from z4) (by simp)
      have aL : ((wr.alloc (.cells #[] 65)).drew).cell? ⟨pg, off + k, none⟩ = some (.slice (some ⟨b, o2, none⟩) m bc) := cell_keep (alloc_kept wr.drew (.cells #[] 65)) (show wr.drew.cell? _ = _ from zL) (by simp)
      have e9' : Sem.run Try.prog (Builtin.append_ #[52, 52] 52 #[.slice (some ⟨wr.heap.size, 0, none⟩) 0 0, .slice (some ⟨b, o2, none⟩) m bc]) ((wr.alloc (.cells #[] 65)).drew) = .ok (slv g1 m c1) ub := e9
      have b4 := cell_keep kb' z4 (by simp)
      have bL := cell_keep kb' zL (by simp)
      have c4 := cell_keep (alloc_kept ub (.cells #[slv g1 m c1] 52)) b4 (by simp)
      have cL := cell_keep (alloc_kept ub (.cells #[slv g1 m c1] 52)) bL (by simp)
      have npg : pg < w.heap.size := by
        rcases HP.out with h | ⟨g', o', e', h⟩
        · omega
        · cases e'
          obtain ⟨_, _, h1, _⟩ := h k hlt
          rcases Nat.lt_or_ge pg w.heap.size with h' | h'
          · exact h'
          · simp [World.cell?, Array.getElem?_eq_none h'] at h1
      have d4 := cell_keep kd b4 (nXd XB (by omega))
      have dL := cell_keep kd bL (nXd pg (by omega))
      have kf : Kept [YB] ud (ud.setCell ⟨YB, 4, none⟩ (slv g2 (k + 1) c2)) := (Kept.refl _ _).setCell (p := ⟨YB, 4, none⟩) (.inl (by simp)) _
      have f4 := cell_keep kf d4 (by simp; omega)
      have fL := cell_keep kf dL (by simp; omega)
      have HQ : Hid (∀ wf, wf = ud.setCell ⟨YB, 4, none⟩ (slv g2 (k + 1) c2) → ∃ (gs2 cs2 : Nat → Nat), wf.heap[YB]? = some (.cells #[.int .i64 W, .int .i64 H, .int .i64 D, .bool A, slv g2 (k + 1) c2] 38 (0, 0)) ∧ Gz B wf (slv g2 (k + 1) c2) (k + 1) gs2 cs2 ln F ∧ Kept [YB] w1 wf) := Hid.mk (fun wf hwf => by
        subst hwf
        have hm := EM.out
        refine ⟨_, _, heap_setCell_at hYd, (hG.step hBw kb' (gn := g1) (c := c1) (by rw [← hm]; exact hmc) hg1 (by rw [← hm]; exact hwr) (by rw [← hm]; exact ho2) kd).keep kf (fun x hx => by simp at hx; omega), ?_⟩
        have k4 := (hkr.step kb' (by simp)).step kd (fun x hx => by rw [mem_own] at hx; have := (own_lt hGb.own x hx).1; right; omega)
        exact k4.step kf (fun x hx => by simp at hx; subst hx; exact .inl (by simp)))
      clear hG hGb hY hYb hYd hX hR kb kb' kd ho2 hwr hg1 hmc nYd nXd kf hkr hb hBw kw kwb kwd npg hpc hrd0 hcs hbc x4 em x0 x1 x2 x3
      go_wp2
      refine wp_region_held_drew (S := fun w' => w'.cell? ⟨XB, 4, none⟩ = some (.slice (some ⟨pg, off, none⟩) n c) ∧ w'.cell? ⟨pg, off + k, none⟩ = some (.slice (some ⟨b, o2, none⟩) m bc)) (by kernel_rfl) ⟨z4, zL⟩ (fun hHeld => ?_)
      refine wpAnyH_take (i := 0) (v := ?_) rfl (by kernel_rfl) (by kernel_rfl) (by kernel_rfl) (fun _ _ _ h => h) (Or.inl ⟨by rfl, ?_⟩) (by assumption) ?_
      rotate_left
      · intro w hSw
        try dsimp only at hSw
        go_simp
        all_goals with_reducible rfl
      simp only [Act.put, List.getElem_toArray, List.getElem_cons_zero, List.setIfInBounds_toArray, List.set_cons_zero, List.set_cons_succ]
      refine wpAnyH_take (i := 3) (v := ?_) rfl (by kernel_rfl) (by kernel_rfl) (by kernel_rfl) (fun _ _ _ h => h) (Or.inl ⟨by rfl, ?_⟩) (by assumption) ?_
      rotate_left
      · intro w hSw
        try dsimp only at hSw
        go_simp
        all_goals with_reducible rfl
      simp only [Act.put, List.getElem_toArray, List.getElem_cons_zero, List.getElem_cons_succ, List.setIfInBounds_toArray, List.set_cons_zero, List.set_cons_succ]
      refine wpAnyH_take (i := 4) (v := ?_) rfl (by kernel_rfl) (by kernel_rfl) (by kernel_rfl) (fun _ _ _ h => h) (Or.inl ⟨by rfl, ?_⟩) (by assumption) ?_
      rotate_left
      · intro w hSw
        try dsimp only at hSw
        go_simp
        all_goals with_reducible rfl
      simp only [Act.put, List.getElem_toArray, List.getElem_cons_zero, List.getElem_cons_succ, List.setIfInBounds_toArray, List.set_cons_zero, List.set_cons_succ]
      refine wpAnyH_take (i := 5) (v := ?_) rfl (by kernel_rfl) (by kernel_rfl) (by kernel_rfl) (fun _ _ _ h => h) (Or.inl ⟨by rfl, ?_⟩) (by assumption) ?_
      rotate_left
      · intro w hSw
        try dsimp only at hSw
        go_simp
        all_goals with_reducible rfl
      simp only [Act.put, List.getElem_toArray, List.getElem_cons_zero, List.getElem_cons_succ, List.setIfInBounds_toArray, List.set_cons_zero, List.set_cons_succ]
      refine wpAnyH_take (i := 6) (v := ?_) rfl (by kernel_rfl) (by kernel_rfl) (by kernel_rfl) (fun _ _ _ h => h) (Or.inl ⟨by rfl, ?_⟩) (by assumption) ?_
      rotate_left
      · intro w hSw
        try dsimp only at hSw
        go_simp
        all_goals with_reducible rfl
      simp only [Act.put, List.getElem_toArray, List.getElem_cons_zero, List.getElem_cons_succ, List.setIfInBounds_toArray, List.set_cons_zero, List.set_cons_succ]
      refine wpAnyH_take (i := 7) (v := ?_) rfl (by kernel_rfl) (by kernel_rfl) (by kernel_rfl) (fun _ _ _ h => h) (Or.inl ⟨by rfl, ?_⟩) (by assumption) ?_
      rotate_left
      · intro w hSw
        try dsimp only at hSw
        go_simp
        all_goals with_reducible rfl
      simp only [Act.put, List.getElem_toArray, List.getElem_cons_zero, List.getElem_cons_succ, List.setIfInBounds_toArray, List.set_cons_zero, List.set_cons_succ]
      refine wpAnyH_ready (rs := [1, 2]) (by kernel_rfl) (by simp) ?_
      refine AllReadyH.cons rfl (fun K9 hK9 => ?_) (AllReadyH.cons rfl (fun K9 hK9 => ?_) AllReadyH.nil)
      · go_simp
        refine hK9.out _ _ ⟨z4, zL⟩ (fun hHeld2 => ?_)
        clear hK9 K9
        refine wpAnyH_ready (rs := [2]) (by kernel_rfl) (by simp) ?_
        refine AllReadyH.cons rfl (fun K9 hK9 => ?_) AllReadyH.nil
        go_simp
        refine hK9.out _ _ ⟨a4, aL⟩ (fun hHeld2 => ?_)
        clear hK9 K9
        refine wpAnyH_ready (rs := [8]) (by kernel_rfl) (by simp) ?_
        refine AllReadyH.cons rfl (fun K9 hK9 => ?_) AllReadyH.nil
        refine step_app rfl _ _ 52 rfl _ _ _ _ rfl rfl e9' ?_
        simp only [Act.put, List.getElem_toArray, List.getElem_cons_zero, List.getElem_cons_succ, List.setIfInBounds_toArray, List.set_cons_zero, List.set_cons_succ]
        refine hK9.out _ _ ⟨b4, bL⟩ (fun hHeld2 => ?_)
        clear hK9 K9
        refine wpAnyH_ready (rs := [9]) (by kernel_rfl) (by simp) ?_
        refine AllReadyH.cons rfl (fun K9 hK9 => ?_) AllReadyH.nil
        go_simp
        refine hK9.out _ _ ⟨c4, cL⟩ (fun hHeld2 => ?_)
        clear hK9 K9
        refine wpAnyH_ready (rs := [10]) (by kernel_rfl) (by simp) ?_
        refine AllReadyH.cons rfl (fun K9 hK9 => ?_) AllReadyH.nil
        refine step_app rfl _ _ 36 rfl _ _ _ _ rfl rfl e11 ?_
        simp only [Act.put, List.getElem_toArray, List.getElem_cons_zero, List.getElem_cons_succ, List.setIfInBounds_toArray, List.set_cons_zero, List.set_cons_succ]
        refine hK9.out _ _ ⟨d4, dL⟩ (fun hHeld2 => ?_)
        clear hK9 K9
        refine wpAnyH_take (i := 11) (v := ?_) rfl (by kernel_rfl) (by kernel_rfl) (by kernel_rfl) (fun _ _ _ h => h) (Or.inl ⟨by rfl, ?_⟩) (by assumption) ?_
        rotate_left
        · intro w hSw
          try dsimp only at hSw
          go_simp
          all_goals with_reducible rfl
        simp only [Act.put, List.getElem_toArray, List.getElem_cons_zero, List.getElem_cons_succ, List.setIfInBounds_toArray, List.set_cons_zero, List.set_cons_succ]
        refine wpAnyH_ready (rs := [12]) (by kernel_rfl) (by simp) ?_
        refine AllReadyH.cons rfl (fun K9 hK9 => ?_) AllReadyH.nil
        go_simp
        refine hK9.out _ _ ⟨f4, fL⟩ (fun hHeld2 => ?_)
        clear hK9 K9
        refine wpAnyH_done (by kernel_rfl) ?_ _
        go_wp2
        obtain ⟨gs2, cs2, q1, q2, q3⟩ := HQ.out _ rfl
        exact ⟨⟨k + 1, _, gs2, cs2, by omega, by go_num, q1, q2, q3⟩, by simp [intOf]; omega⟩
      · go_simp
        refine hK9.out _ _ ⟨a4, aL⟩ (fun hHeld2 => ?_)
        clear hK9 K9
        refine wpAnyH_ready (rs := [1, 8]) (by kernel_rfl) (by simp) ?_
        refine AllReadyH.cons rfl (fun K9 hK9 => ?_) (AllReadyH.cons rfl (fun K9 hK9 => ?_) AllReadyH.nil)
        · go_simp
          refine hK9.out _ _ ⟨a4, aL⟩ (fun hHeld2 => ?_)
          clear hK9 K9
          refine wpAnyH_ready (rs := [8]) (by kernel_rfl) (by simp) ?_
          refine AllReadyH.cons rfl (fun K9 hK9 => ?_) AllReadyH.nil
          refine step_app rfl _ _ 52 rfl _ _ _ _ rfl rfl e9' ?_
          simp only [Act.put, List.getElem_toArray, List.getElem_cons_zero, List.getElem_cons_succ, List.setIfInBounds_toArray, List.set_cons_zero, List.set_cons_succ]
          refine hK9.out _ _ ⟨b4, bL⟩ (fun hHeld2 => ?_)
          clear hK9 K9
          refine wpAnyH_ready (rs := [9]) (by kernel_rfl) (by simp) ?_
          refine AllReadyH.cons rfl (fun K9 hK9 => ?_) AllReadyH.nil
          go_simp
          refine hK9.out _ _ ⟨c4, cL⟩ (fun hHeld2 => ?_)
          clear hK9 K9
          refine wpAnyH_ready (rs := [10]) (by kernel_rfl) (by simp) ?_
          refine AllReadyH.cons rfl (fun K9 hK9 => ?_) AllReadyH.nil
          refine step_app rfl _ _ 36 rfl _ _ _ _ rfl rfl e11 ?_
          simp only [Act.put, List.getElem_toArray, List.getElem_cons_zero, List.getElem_cons_succ, List.setIfInBounds_toArray, List.set_cons_zero, List.set_cons_succ]
          refine hK9.out _ _ ⟨d4, dL⟩ (fun hHeld2 => ?_)
          clear hK9 K9
          refine wpAnyH_take (i := 11) (v := ?_) rfl (by kernel_rfl) (by kernel_rfl) (by kernel_rfl) (fun _ _ _ h => h) (Or.inl ⟨by rfl, ?_⟩) (by assumption) ?_
          rotate_left
          · intro w hSw
            try dsimp only at hSw
            go_simp
            all_goals with_reducible rfl
          simp only [Act.put, List.getElem_toArray, List.getElem_cons_zero, List.getElem_cons_succ, List.setIfInBounds_toArray, List.set_cons_zero, List.set_cons_succ]
          refine wpAnyH_ready (rs := [12]) (by kernel_rfl) (by simp) ?_
          refine AllReadyH.cons rfl (fun K9 hK9 => ?_) AllReadyH.nil
          go_simp
          refine hK9.out _ _ ⟨f4, fL⟩ (fun hHeld2 => ?_)
          clear hK9 K9
          refine wpAnyH_done (by kernel_rfl) ?_ _
          go_wp2
          obtain ⟨gs2, cs2, q1, q2, q3⟩ := HQ.out _ rfl
          exact ⟨⟨k + 1, _, gs2, cs2, by omega, by go_num, q1, q2, q3⟩, by simp [intOf]; omega⟩
        · refine step_app rfl _ _ 52 rfl _ _ _ _ rfl rfl e9' ?_
          simp only [Act.put, List.getElem_toArray, List.getElem_cons_zero, List.getElem_cons_succ, List.setIfInBounds_toArray, List.set_cons_zero, List.set_cons_succ]
          refine hK9.out _ _ ⟨b4, bL⟩ (fun hHeld2 => ?_)
          clear hK9 K9
          refine wpAnyH_ready (rs := [1, 9]) (by kernel_rfl) (by simp) ?_
          refine AllReadyH.cons rfl (fun K9 hK9 => ?_) (AllReadyH.cons rfl (fun K9 hK9 => ?_) AllReadyH.nil)
          · go_simp
            refine hK9.out _ _ ⟨b4, bL⟩ (fun hHeld2 => ?_)
            clear hK9 K9
            refine wpAnyH_ready (rs := [9]) (by kernel_rfl) (by simp) ?_
            refine AllReadyH.cons rfl (fun K9 hK9 => ?_) AllReadyH.nil
            go_simp
            refine hK9.out _ _ ⟨c4, cL⟩ (fun hHeld2 => ?_)
            clear hK9 K9
            refine wpAnyH_ready (rs := [10]) (by kernel_rfl) (by simp) ?_
            refine AllReadyH.cons rfl (fun K9 hK9 => ?_) AllReadyH.nil
            refine step_app rfl _ _ 36 rfl _ _ _ _ rfl rfl e11 ?_
            simp only [Act.put, List.getElem_toArray, List.getElem_cons_zero, List.getElem_cons_succ, List.setIfInBounds_toArray, List.set_cons_zero, List.set_cons_succ]
            refine hK9.out _ _ ⟨d4, dL⟩ (fun hHeld2 => ?_)
            clear hK9 K9
            refine wpAnyH_take (i := 11) (v := ?_) rfl (by kernel_rfl) (by kernel_rfl) (by kernel_rfl) (fun _ _ _ h => h) (Or.inl ⟨by rfl, ?_⟩) (by assumption) ?_
            rotate_left
            · intro w hSw
              try dsimp only at hSw
              go_simp
              all_goals with_reducible rfl
            simp only [Act.put, List.getElem_toArray, List.getElem_cons_zero, List.getElem_cons_succ, List.setIfInBounds_toArray, List.set_cons_zero, List.set_cons_succ]
            refine wpAnyH_ready (rs := [12]) (by kernel_rfl) (by simp) ?_
            refine AllReadyH.cons rfl (fun K9 hK9 => ?_) AllReadyH.nil
            go_simp
            refine hK9.out _ _ ⟨f4, fL⟩ (fun hHeld2 => ?_)
            clear hK9 K9
            refine wpAnyH_done (by kernel_rfl) ?_ _
            go_wp2
            obtain ⟨gs2, cs2, q1, q2, q3⟩ := HQ.out _ rfl
            exact ⟨⟨k + 1, _, gs2, cs2, by omega, by go_num, q1, q2, q3⟩, by simp [intOf]; omega⟩
          · go_simp
            refine hK9.out _ _ ⟨c4, cL⟩ (fun hHeld2 => ?_)
            clear hK9 K9
            refine wpAnyH_ready (rs := [1]) (by kernel_rfl) (by simp) ?_
            refine AllReadyH.cons rfl (fun K9 hK9 => ?_) AllReadyH.nil
            go_simp
            refine hK9.out _ _ ⟨c4, cL⟩ (fun hHeld2 => ?_)
            clear hK9 K9
            refine wpAnyH_ready (rs := [10]) (by kernel_rfl) (by simp) ?_
            refine AllReadyH.cons rfl (fun K9 hK9 => ?_) AllReadyH.nil
            refine step_app rfl _ _ 36 rfl _ _ _ _ rfl rfl e11 ?_
            simp only [Act.put, List.getElem_toArray, List.getElem_cons_zero, List.getElem_cons_succ, List.setIfInBounds_toArray, List.set_cons_zero, List.set_cons_succ]
            refine hK9.out _ _ ⟨d4, dL⟩ (fun hHeld2 => ?_)
            clear hK9 K9
            refine wpAnyH_take (i := 11) (v := ?_) rfl (by kernel_rfl) (by kernel_rfl) (by kernel_rfl) (fun _ _ _ h => h) (Or.inl ⟨by rfl, ?_⟩) (by assumption) ?_
            rotate_left
            · intro w hSw
              try dsimp only at hSw
              go_simp
              all_goals with_reducible rfl
            simp only [Act.put, List.getElem_toArray, List.getElem_cons_zero, List.getElem_cons_succ, List.setIfInBounds_toArray, List.set_cons_zero, List.set_cons_succ]
            refine wpAnyH_ready (rs := [12]) (by kernel_rfl) (by simp) ?_
            refine AllReadyH.cons rfl (fun K9 hK9 => ?_) AllReadyH.nil
            go_simp
            refine hK9.out _ _ ⟨f4, fL⟩ (fun hHeld2 => ?_)
            clear hK9 K9
            refine wpAnyH_done (by kernel_rfl) ?_ _
            go_wp2
            obtain ⟨gs2, cs2, q1, q2, q3⟩ := HQ.out _ rfl
            exact ⟨⟨k + 1, _, gs2, cs2, by omega, by go_num, q1, q2, q3⟩, by simp [intOf]; omega⟩
    · obtain rfl : n = k := by omega
      obtain ⟨ao, gc, rfl, _⟩ := hG.pc
      obtain ⟨⟨v0, v1, v2, v3, v4⟩, _⟩ := five hY
      obtain ⟨⟨r0, r1, r2, r3, r4⟩, ⟨s0, s1, s2, s3, s4⟩⟩ := five hR
      have HZ := Hid.mk (And.intro hY (And.intro hG (And.intro kw hR)))
      clear hY hG hkr hR hX hb kw
      go_wp2
      obtain ⟨hY, hG, kw, hR⟩ := HZ.out
      have hb := HB.out
      have q5 := set5 (.int .i64 W) (.int .i64 H) (.int .i64 D) (.bool A) (.slice ao n gc) hR
      have hk3 := kw.step q5.2 (fun x hx => by simp at hx; right; omega)
      have hG5 := hG.keep q5.2 (fun x hx => by simp at hx; omega)
      refine bodyPost_ret (v := frv W H D A ao n gc) ?_ rfl ⟨ao, gc, gs, cs, rfl, ⟨⟨hG5.own.1, ?_⟩, fun i hi => ⟨(hG5.row i hi).1, ?_, (hG5.row i hi).2.2⟩, hG5.mon⟩, hk3⟩
      · exact results_cell_row rfl _ _ RB 38 _ (0, 0) _ rfl q5.1 Try.underlying38 rfl Try.info38
      · rcases hG5.own.2 with h | ⟨g, cap, cur, h1, h2, h3⟩
        · exact .inl h
        · exact .inr ⟨g, cap, cur, h1, by omega, h3⟩
      · have := (hG5.row i hi).2.1
        omega
end Go.Proofs.Ythihennifigchaa
