import Derived.Test.YthihennifigchaaLa
namespace Go.Proofs.Ythihennifigchaa
open Go.RowKit

/-- append of one value onto a list of one's own. -/
theorem wpList_app1 (w : World) {ops : Array Oper} {rest : List Oper} {o : Oper} {a : Act} {Q : Exit → Act → World → Prop} (hgd : o.guard = none) (s x : Operand) (t B e : Nat) (i0 : TypeInfo) (z : Value) (by_ : Nat)
    (hu : Try.prog.underlying t = some (.slice e)) (hi : Try.prog.info? e = some i0) (hz0 : i0.zero = some z) (hz1 : i0.size = 1) (hz2 : i0.bytes = by_) (hzz : z.cells.size = 1)
    (ho : o.op = .call { callee := .builtin .append, args := #[s, x], argTypes := #[t, t] })
    (v : Value) (n : Nat) (xs : List Value) (hs : a.eval s = v) (hown : w.ownsRow B e 1 v n xs) (y : Value) (hx : a.eval x = .slice (some ⟨w.heap.size, 0, none⟩) 1 1) (hone : y.oneCell' = true) (hB : B ≤ w.heap.size) (hb : n + 1 ≤ 140737488355328) (hb2 : (n + 1) * by_ ≤ 140737488355328)
    (h : ∀ v' w', w'.ownsRow B e 1 v' (n + 1) (xs ++ [y]) → Kept v.ownBlock.toList w w' → Lies w v v' → wpList Try.prog ops Q rest (a.put o.dst v') w') :
    wpList Try.prog ops Q (o :: rest) a (w.alloc (.cells #[y] e)) := by
  refine wpList_append_own_at _ hgd s x t ho B e i0 z 1 by_ hu hi hz0 hz1 hz2 hzz (by decide) v n xs hs (hown.alloc _) ⟨w.heap.size, 0, none⟩ 1 1 [y] hx rfl (cell_one_new _ _ _) (fun u hu => by simp at hu; subst hu; exact hone) (by unfold maxLen; omega) (by exact hb2) (by rw [World.size_alloc]; omega) ?_
  intro v' w' h2 h3 _ h5
  refine h v' w' h2 (((Kept.refl _ w).alloc _).step (Kept.of_grown h3) (fun x hx => .inl hx)) ?_
  rcases h5 with h | h
  · exact .inl h
  · exact .inr ⟨_, h, by rw [World.size_alloc]; omega⟩

theorem own_suc {W : World} {base : Nat} {e : TypeId} {size : Nat} {v : Value} {k : Nat} {xs : List Value} (h : W.ownsRow base e size v (k + 1) xs) : ∃ g cap, v = .slice (some ⟨g, 0, none⟩) (k + 1) cap := by
  rcases h.2 with ⟨_, h0⟩ | ⟨g, cap, _, rfl, _⟩
  · omega
  · exact ⟨g, cap, rfl⟩
/-- A row as a value. -/
abbrev slv (b n c : Nat) : Value := .slice (some ⟨b, 0, none⟩) n c
theorem own_row {w : World} {B n b m : Nat} {V : Value} {xs : List Value} {f : Nat → Nat} (h : w.ownsRow B 52 1 V n xs) (hr : Row w b m f) : V.ownBlock ≠ some b := by
  intro e
  rcases h.2 with ⟨rfl, _⟩ | ⟨g, cap, cur, rfl, _, hg, _⟩
  · simp [Value.ownBlock] at e
  · simp [Value.ownBlock] at e
    subst e
    unfold Row at hr
    rw [hg] at hr
    simp at hr
theorem own_other {w : World} {B n b t : Nat} {V : Value} {xs : List Value} {cs : Array Value} (h : w.ownsRow B 52 1 V n xs) (hb : w.heap[b]? = some (.cells cs t (0, 0))) (ht : t ≠ 52) : V.ownBlock ≠ some b := by
  intro e
  rcases h.2 with ⟨rfl, _⟩ | ⟨g, cap, cur, rfl, _, hg, _⟩
  · simp [Value.ownBlock] at e
  · simp [Value.ownBlock] at e
    subst e
    rw [hg] at hb
    simp at hb
    exact ht hb.2.symm
/-- A list of rows that grows. -/
structure Gx (B : Nat) (w : World) (V : Value) (k : Nat) (bs ln : Nat → Nat) (F : Nat → Nat → Nat) : Prop where
  own : w.ownsRow B 52 1 V k (fl (fun i => slv (bs i) (ln i) (ln i)) k)
  row : ∀ i, i < k → Row w (bs i) (ln i) (F i)
  mon : ∀ i j, i < j → j < k → bs i < bs j
  lo : ∀ i, i < k → B ≤ bs i
theorem Gx.start (B : Nat) (w : World) (bs ln : Nat → Nat) (F : Nat → Nat → Nat) : Gx B w (.slice none 0 0) 0 bs ln F :=
  ⟨⟨rfl, .inl ⟨rfl, rfl⟩⟩, fun i h => by omega, fun i j h1 h2 => by omega, fun i h => by omega⟩
theorem Gx.keep {B : Nat} {w w' : World} {V : Value} {k : Nat} {bs ln : Nat → Nat} {F : Nat → Nat → Nat} {ks : List Nat} (h : Gx B w V k bs ln F) (hk : Kept ks w w') (h1 : ∀ g, V.ownBlock = some g → g ∉ ks) (h2 : ∀ i, i < k → bs i ∉ ks) : Gx B w' V k bs ln F :=
  ⟨hk.row h.own h1, fun i hi => (h.row i hi).keep hk (h2 i hi), h.mon, h.lo⟩
theorem Gx.keep0 {B : Nat} {w w' : World} {V : Value} {k : Nat} {bs ln : Nat → Nat} {F : Nat → Nat → Nat} (h : Gx B w V k bs ln F) (hk : Kept [] w w') : Gx B w' V k bs ln F := h.keep hk (by simp) (by simp)
/-- One row more. -/
theorem Gx.step {B : Nat} {w w' : World} {V V' : Value} {k b : Nat} {bs ln : Nat → Nat} {F : Nat → Nat → Nat} (h : Gx B w V k bs ln F) (hr : Row w b (ln k) (F k)) (hb : ∀ i, i < k → bs i < b) (hB : B ≤ b)
    (ho : w'.ownsRow B 52 1 V' (k + 1) (fl (fun i => slv (bs i) (ln i) (ln i)) k ++ [slv b (ln k) (ln k)])) (hk : Kept V.ownBlock.toList w w') : Gx B w' V' (k + 1) (nx bs k b) ln F := by
  refine ⟨?_, fun i hi => ?_, fun i j h1 h2 => ?_, fun i hi => ?_⟩
  · rw [show [slv b (ln k) (ln k)] = fl (fun _ => slv b (ln k) (ln k)) 1 from rfl, fl_append] at ho
    rw [fl_congr (g := fun i => if i < k then slv (bs i) (ln i) (ln i) else slv b (ln k) (ln k))]
    · exact ho
    · intro i hi
      by_cases e : i = k
      · subst e; rw [if_neg (by omega), show nx bs i b i = b from if_pos rfl]
      · rw [if_pos (by omega), show nx bs k b i = bs i from if_neg e]
  · by_cases e : i = k
    · subst e
      rw [show nx bs i b i = b from if_pos rfl]
      exact hr.keep hk (by rw [mem_own]; exact own_row h.own hr)
    · rw [show nx bs k b i = bs i from if_neg e]
      have := h.row i (by omega)
      exact this.keep hk (by rw [mem_own]; exact own_row h.own this)
  · rw [show nx bs k b i = bs i from if_neg (by omega)]
    by_cases e : j = k
    · subst e; rw [show nx bs j b j = b from if_pos rfl]; exact hb i h1
    · rw [show nx bs k b j = bs j from if_neg e]; exact h.mon i j h1 (by omega)
  · by_cases e : i = k
    · subst e; rw [show nx bs i b i = b from if_pos rfl]; exact hB
    · rw [show nx bs k b i = bs i from if_neg e]; exact h.lo i (by omega)
/-- Its cells. -/
theorem Gx.cell {B : Nat} {w : World} {V : Value} {k : Nat} {bs ln : Nat → Nat} {F : Nat → Nat → Nat} (h : Gx B w V k bs ln F) (hk : 0 < k) : ∃ g cap, V = .slice (some ⟨g, 0, none⟩) k cap ∧ B ≤ g ∧ g < w.heap.size ∧ (∃ cs, w.heap[g]? = some (.cells cs 52 (0, 0))) ∧ ∀ i, i < k → w.cell? ⟨g, i, none⟩ = some (slv (bs i) (ln i) (ln i)) := by
  rcases h.own.2 with ⟨_, h0⟩ | ⟨g, cap, cur, rfl, hb, hg, _⟩
  · omega
  · refine ⟨g, cap, rfl, hb, lt_of_block hg, ⟨_, hg⟩, fun i hi => ?_⟩
    have hc := h.own.cells (g := g) rfl i _ (fl_at _ k i hi)
    have hadd : (⟨g, 0, none⟩ : Addr).add i = ⟨g, 0 + i, none⟩ := by unfold Addr.add; split <;> simp_all
    rw [hadd, Nat.zero_add] at hc
    exact hc

/-- What stands in a lent frame's list. -/
def lsC (bs ln : Nat → Nat) (k : Nat) : Nat → Value := fun i => if i < k then slv (bs i) (ln i) (ln i + 7) else .slice none 0 0
/-- A frame that is lent. -/
structure Ln (w0 w : World) (LB : Nat) (V : Value) (n : Nat) (bs ln : Nat → Nat) (F : Nat → Nat → Nat) : Prop where
  lst : w.heap[LB]? = some (.cells (fl (lsC bs ln n) (n + 2)).toArray 52 (0, 0))
  all : Gx w0.heap.size w V n bs (fun i => ln i + 7) F
  new : w0.heap.size ≤ LB
  oth : V.ownBlock ≠ some LB
  kept : Kept [] w0 w
/-- Seven cells. -/
theorem seven {w : World} {B t : Nat} {a b c d e f g : Value} (h : w.heap[B]? = some (.cells #[a, b, c, d, e, f, g] t (0, 0))) :
    (w.cell? ⟨B, 0, none⟩ = some a ∧ w.cell? ⟨B, 1, none⟩ = some b ∧ w.cell? ⟨B, 2, none⟩ = some c ∧ w.cell? ⟨B, 3, none⟩ = some d ∧ w.cell? ⟨B, 4, none⟩ = some e ∧ w.cell? ⟨B, 5, none⟩ = some f ∧ w.cell? ⟨B, 6, none⟩ = some g) ∧
    (w.frozen? ⟨B, 0, none⟩ = false ∧ w.frozen? ⟨B, 1, none⟩ = false ∧ w.frozen? ⟨B, 2, none⟩ = false ∧ w.frozen? ⟨B, 3, none⟩ = false ∧ w.frozen? ⟨B, 4, none⟩ = false ∧ w.frozen? ⟨B, 5, none⟩ = false ∧ w.frozen? ⟨B, 6, none⟩ = false) := by
  refine ⟨⟨?_, ?_, ?_, ?_, ?_, ?_, ?_⟩, ⟨?_, ?_, ?_, ?_, ?_, ?_, ?_⟩⟩
  all_goals first | (rw [cell_of_row _ _ _ _ _ _ h]; rfl) | (simp [World.frozen?, h])
/-- Seven cells are written. -/
theorem set7 {w : World} {B t : Nat} {a b c d e f g : Value} (a' b' c' d' e' f' g' : Value) (h : w.heap[B]? = some (.cells #[a, b, c, d, e, f, g] t (0, 0))) :
    (((((((w.setCell ⟨B, 0, none⟩ a').setCell ⟨B, 1, none⟩ b').setCell ⟨B, 2, none⟩ c').setCell ⟨B, 3, none⟩ d').setCell ⟨B, 4, none⟩ e').setCell ⟨B, 5, none⟩ f').setCell ⟨B, 6, none⟩ g').heap[B]? = some (.cells #[a', b', c', d', e', f', g'] t (0, 0)) ∧
    Kept [B] w (((((((w.setCell ⟨B, 0, none⟩ a').setCell ⟨B, 1, none⟩ b').setCell ⟨B, 2, none⟩ c').setCell ⟨B, 3, none⟩ d').setCell ⟨B, 4, none⟩ e').setCell ⟨B, 5, none⟩ f').setCell ⟨B, 6, none⟩ g') :=
by
  have h0 : (w.setCell ⟨B, 0, none⟩ a').heap[B]? = some (.cells #[a', b, c, d, e, f, g] t (0, 0)) := heap_setCell_at h
  have k0 : Kept [B] w (w.setCell ⟨B, 0, none⟩ a') := (Kept.refl [B] w).setCell (p := ⟨B, 0, none⟩) (.inl (by simp)) _
  generalize w.setCell ⟨B, 0, none⟩ a' = w0 at h0 k0 ⊢
  have h1 : (w0.setCell ⟨B, 1, none⟩ b').heap[B]? = some (.cells #[a', b', c, d, e, f, g] t (0, 0)) := heap_setCell_at h0
  have k1 := k0.setCell (p := ⟨B, 1, none⟩) (.inl (by simp)) b'
  generalize w0.setCell ⟨B, 1, none⟩ b' = w1 at h1 k1 ⊢
  have h2 : (w1.setCell ⟨B, 2, none⟩ c').heap[B]? = some (.cells #[a', b', c', d, e, f, g] t (0, 0)) := heap_setCell_at h1
  have k2 := k1.setCell (p := ⟨B, 2, none⟩) (.inl (by simp)) c'
  generalize w1.setCell ⟨B, 2, none⟩ c' = w2 at h2 k2 ⊢
  have h3 : (w2.setCell ⟨B, 3, none⟩ d').heap[B]? = some (.cells #[a', b', c', d', e, f, g] t (0, 0)) := heap_setCell_at h2
  have k3 := k2.setCell (p := ⟨B, 3, none⟩) (.inl (by simp)) d'
  generalize w2.setCell ⟨B, 3, none⟩ d' = w3 at h3 k3 ⊢
  have h4 : (w3.setCell ⟨B, 4, none⟩ e').heap[B]? = some (.cells #[a', b', c', d', e', f, g] t (0, 0)) := heap_setCell_at h3
  have k4 := k3.setCell (p := ⟨B, 4, none⟩) (.inl (by simp)) e'
  generalize w3.setCell ⟨B, 4, none⟩ e' = w4 at h4 k4 ⊢
  have h5 : (w4.setCell ⟨B, 5, none⟩ f').heap[B]? = some (.cells #[a', b', c', d', e', f', g] t (0, 0)) := heap_setCell_at h4
  have k5 := k4.setCell (p := ⟨B, 5, none⟩) (.inl (by simp)) f'
  generalize w4.setCell ⟨B, 5, none⟩ f' = w5 at h5 k5 ⊢
  exact ⟨heap_setCell_at h5, k5.setCell (p := ⟨B, 6, none⟩) (.inl (by simp)) g'⟩
theorem Try.info29 : (Try.prog.info? 45).map (·.size) = some 7 := by kernel_rfl
/-- A lent frame as a value. -/
abbrev lnv (W H D : Int) (A : Bool) (p q r : Value) : Value := .agg #[.int .i64 W, .int .i64 H, .int .i64 D, .bool A, p, q, r]

set_option maxHeartbeats 8000000 in
set_option maxRecDepth 1000000 in
theorem lend_any (W H D : Int) (A : Bool) (po : Option Addr) (n c : Nat) (ln : Nat → Nat) (F : Nat → Nat → Nat) (w : World) (hr : Pl w po n ln F) (hn : n ≤ 5864062014634) (hln : ∀ i, i < n → ln i ≤ 70368744175616) :
    Calls Try.prog 21 #[frv W H D A po n c] w fun e w' => ∃ LB V bs, e = .returned (lnv W H D A (slv LB n (n + 2)) V (slv LB (n + 2) (n + 2))) ∧ Ln w w' LB V n bs ln (fun i => ltF (F i) (ln i)) := by
  have Hr := Hid.mk hr
  have Hln := Hid.mk hln
  clear hr hln
  obtain ⟨j0, gi, gz0, gz1, gz2⟩ := info_parts Try.infoR
  obtain ⟨mkW, hmk, hmw⟩ := make_lists (n + 2) ((n : Int) + 2) (by omega) (by omega)
  have HMW := Hid.mk hmw
  clear hmw
  go_enter Try.func21, Try.ntmps21
  go_wp2
  obtain ⟨w1, ew1⟩ : ∃ w1, w1 = ((w.alloc (.cells #[.int .i64 W, .int .i64 H, .int .i64 D, .bool A, .slice po n c] 38)).alloc (.cells #[.int .i64 0, .int .i64 0, .int .i64 0, .bool false, .slice none 0 0, .slice none 0 0, .slice none 0 0] 45)).alloc (.cells #[.int .i64 W, .int .i64 H, .int .i64 D, .bool A, .slice none 0 0, .slice none 0 0, .slice none 0 0] 45) := ⟨_, rfl⟩
  have P1 : Hid ((w1.heap[w.heap.size]? = some (.cells #[.int .i64 W, .int .i64 H, .int .i64 D, .bool A, .slice po n c] 38 (0, 0)) ∧ w1.heap[w.heap.size + 1]? = some (.cells #[.int .i64 0, .int .i64 0, .int .i64 0, .bool false, .slice none 0 0, .slice none 0 0, .slice none 0 0] 45 (0, 0)) ∧ w1.heap[w.heap.size + 1 + 1]? = some (.cells #[.int .i64 W, .int .i64 H, .int .i64 D, .bool A, .slice none 0 0, .slice none 0 0, .slice none 0 0] 45 (0, 0))) ∧ Kept [] w w1) := by
    have h1 := heap_alloc_new w (.cells #[.int .i64 W, .int .i64 H, .int .i64 D, .bool A, .slice po n c] 38)
    have h2 := heap_alloc_new (w.alloc (.cells #[.int .i64 W, .int .i64 H, .int .i64 D, .bool A, .slice po n c] 38)) (.cells #[.int .i64 0, .int .i64 0, .int .i64 0, .bool false, .slice none 0 0, .slice none 0 0, .slice none 0 0] 45)
    have h3 := heap_alloc_new ((w.alloc (.cells #[.int .i64 W, .int .i64 H, .int .i64 D, .bool A, .slice po n c] 38)).alloc (.cells #[.int .i64 0, .int .i64 0, .int .i64 0, .bool false, .slice none 0 0, .slice none 0 0, .slice none 0 0] 45)) (.cells #[.int .i64 W, .int .i64 H, .int .i64 D, .bool A, .slice none 0 0, .slice none 0 0, .slice none 0 0] 45)
    have k2 := alloc_kept (w.alloc (.cells #[.int .i64 W, .int .i64 H, .int .i64 D, .bool A, .slice po n c] 38)) (.cells #[.int .i64 0, .int .i64 0, .int .i64 0, .bool false, .slice none 0 0, .slice none 0 0, .slice none 0 0] 45)
    have k3 := alloc_kept ((w.alloc (.cells #[.int .i64 W, .int .i64 H, .int .i64 D, .bool A, .slice po n c] 38)).alloc (.cells #[.int .i64 0, .int .i64 0, .int .i64 0, .bool false, .slice none 0 0, .slice none 0 0, .slice none 0 0] 45)) (.cells #[.int .i64 W, .int .i64 H, .int .i64 D, .bool A, .slice none 0 0, .slice none 0 0, .slice none 0 0] 45)
    rw [World.size_alloc] at h2
    rw [World.size_alloc, World.size_alloc] at h3
    rw [ew1]
    exact ⟨⟨k3.heap (k2.heap h1 (by simp)) (by simp), k3.heap h2 (by simp), h3⟩, ((alloc_kept w _).trans k2).trans k3⟩
  rw [← ew1]
  clear ew1
  obtain ⟨FB, eFB⟩ : ∃ FB, FB = w.heap.size := ⟨_, rfl⟩
  obtain ⟨RB, eRB⟩ : ∃ RB, RB = w.heap.size + 1 := ⟨_, rfl⟩
  obtain ⟨XB, eXB⟩ : ∃ XB, XB = w.heap.size + 1 + 1 := ⟨_, rfl⟩
  rw [← eXB, ← eRB, ← eFB] at P1 ⊢
  have HB := Hid.mk (And.intro eFB (And.intro eRB eXB))
  clear eFB eRB eXB
  go_loopw [4] (fun i wr => ∃ (k : Nat) (V : Value) (bs : Nat → Nat), k ≤ n ∧ i = .int .i64 (k : Int) ∧ wr.heap[FB]? = some (.cells #[.int .i64 W, .int .i64 H, .int .i64 D, .bool A, .slice po n c] 38 (0, 0)) ∧ wr.heap[RB]? = some (.cells #[.int .i64 0, .int .i64 0, .int .i64 0, .bool false, .slice none 0 0, .slice none 0 0, .slice none 0 0] 45 (0, 0)) ∧ wr.heap[XB]? = some (.cells #[.int .i64 W, .int .i64 H, .int .i64 D, .bool A, .slice none 0 0, V, .slice none 0 0] 45 (0, 0)) ∧ Gx w.heap.size wr V k bs (fun i => ln i + 7) (fun i => ltF (F i) (ln i)) ∧ Kept [] w wr) (fun i _ => n - (intOf i).toNat)
  case atStart => exact ⟨0, _, fun _ => 0, by omega, rfl, P1.out.1.1, P1.out.1.2.1, P1.out.1.2.2, Gx.start _ _ _ _ _, P1.out.2⟩
  case round =>
    obtain ⟨k, V, bs, hk, rfl, hF, hR, hX, hG, hkr⟩ := hrel
    obtain ⟨⟨f0, f1, f2, f3, f4⟩, _⟩ := five hF
    by_cases hlt : k < n
    · obtain ⟨g, off, bo, c', rfl, hc0, hrd⟩ := Hr.out.at hlt
      have hc := cell_keep hkr hc0 (by simp)
      have ix : (k : Int) < (n : Int) := by omega
      have CL := Hid.mk (lentList_any bo (ln k) c' (F k) wr (hrd.keep hkr) (Hln.out k hlt))
      have HG := Hid.mk hG
      have HP := Hid.mk (And.intro hF (And.intro hR (And.intro hX hkr)))
      obtain ⟨m, em⟩ : ∃ m, m = ln k := ⟨_, rfl⟩
      rw [← em] at hc CL
      have EM := Hid.mk em
      clear hF hR hX hG hkr em hrd hc0
      go_upto_region 6 with (go_at_call 30; refine CL.out.mono ?_; rintro e w2 ⟨rfl, hrow, hk2⟩)
      obtain ⟨hF, hR, hX, hkr⟩ := HP.out
      have hX2 := hk2.heap hX (by simp)
      have G2 := HG.out.keep0 hk2
      obtain ⟨⟨x0, x1, x2, x3, x4, x5, x6⟩, ⟨_, _, _, _, _, z5, _⟩⟩ := seven hX2
      have HO := Hid.mk G2.own
      have hBw : w.heap.size ≤ w2.heap.size := Nat.le_trans hkr.size hk2.size
      have HN : Hid (∀ V' w', w'.ownsRow w.heap.size 52 1 V' (k + 1) (fl (fun i => slv (bs i) (ln i + 7) (ln i + 7)) k ++ [slv wr.heap.size (m + 7) (m + 7)]) → Kept V.ownBlock.toList w2 w' → w'.heap[XB]? = some (.cells #[.int .i64 W, .int .i64 H, .int .i64 D, .bool A, .slice none 0 0, V, .slice none 0 0] 45 (0, 0)) ∧ ∃ bs', (w'.setCell ⟨XB, 5, none⟩ V').heap[FB]? = some (.cells #[.int .i64 W, .int .i64 H, .int .i64 D, .bool A, .slice (some ⟨g, off, none⟩) n c] 38 (0, 0)) ∧ (w'.setCell ⟨XB, 5, none⟩ V').heap[RB]? = some (.cells #[.int .i64 0, .int .i64 0, .int .i64 0, .bool false, .slice none 0 0, .slice none 0 0, .slice none 0 0] 45 (0, 0)) ∧ (w'.setCell ⟨XB, 5, none⟩ V').heap[XB]? = some (.cells #[.int .i64 W, .int .i64 H, .int .i64 D, .bool A, .slice none 0 0, V', .slice none 0 0] 45 (0, 0)) ∧ Gx w.heap.size (w'.setCell ⟨XB, 5, none⟩ V') V' (k + 1) bs' (fun i => ln i + 7) (fun i => ltF (F i) (ln i)) ∧ Kept [] w (w'.setCell ⟨XB, 5, none⟩ V')) := Hid.mk (fun V' w' q1 q2 => by
        have em := EM.out
        subst em
        have hFB := HB.out
        have k1 : ∀ {b : Nat} {cs : Array Value} {t : TypeId}, wr.heap[b]? = some (.cells cs t (0, 0)) → t ≠ 52 → w'.heap[b]? = some (.cells cs t (0, 0)) := fun hb ht => q2.heap (hk2.heap hb (by simp)) (by rw [mem_own]; exact own_other G2.own (hk2.heap hb (by simp)) ht)
        have hX3 := k1 hX (by decide)
        have Ks : Kept [XB] w' (w'.setCell ⟨XB, 5, none⟩ V') := (Kept.refl _ _).setCell (p := ⟨XB, 5, none⟩) (.inl (by simp)) _
        have G3 := G2.step (b := wr.heap.size) hrow (fun i hi => by have := (HG.out.row i hi).lt; omega) hkr.size q1 q2
        refine ⟨hX3, nx bs k wr.heap.size, Ks.heap (k1 hF (by decide)) (by simp; omega), Ks.heap (k1 hR (by decide)) (by simp; omega), heap_setCell_at hX3, ?_, ?_⟩
        · refine G3.keep Ks (fun g' hg' => ?_) (fun i hi => ?_)
          · have h := own_other G3.own hX3 (by decide)
            simp
            intro e
            subst e
            exact h hg'
          · have h := G3.row i hi
            simp
            intro e
            unfold Row at h
            rw [e, hX3] at h
            simp at h
        · have K2 : Kept [] w w' := ((hkr.trans hk2).step q2 (fun x hx => by
            rw [mem_own] at hx
            right
            rcases G2.own.2 with ⟨e, _⟩ | ⟨g2, cap, cur, e, hb, _⟩
            · rw [e] at hx; simp [Value.ownBlock] at hx
            · rw [e] at hx; simp [Value.ownBlock] at hx; subst hx; exact hb))
          exact K2.setCell (p := ⟨XB, 5, none⟩) (.inr (by show w.heap.size ≤ XB; omega)) _)
      clear hF hR hX hkr hX2 G2 hrow hk2
      go_wp2_with (at_builtin; refine wpList_app1 w2 rfl _ _ 36 w.heap.size 52 j0 (.slice none 0 0) 24 Try.underlying36 gi gz0 gz1 gz2 rfl rfl V k (fl (fun i => slv (bs i) (ln i + 7) (ln i + 7)) k) (by rfl) HO.out (slv wr.heap.size (m + 7) (m + 7)) (by rfl) rfl hBw (by omega) (by omega) ?_; intro V' w3 hs3 hk3 _; obtain ⟨gN, cN, rfl⟩ := own_suc hs3; obtain ⟨hX3, bs', HQ0⟩ := HN.out _ w3 hs3 hk3; have HQ := Hid.mk HQ0; clear HQ0; obtain ⟨_, ⟨_, _, _, _, _, z5', _⟩⟩ := seven hX3)
      exact ⟨⟨k + 1, _, bs', by omega, by go_num, HQ.out.1, HQ.out.2.1, HQ.out.2.2.1, HQ.out.2.2.2.1, HQ.out.2.2.2.2⟩, by simp [intOf]; omega⟩
    · obtain rfl : n = k := by omega
      have hm := HMW.out wr
      obtain ⟨LB, eLB⟩ : ∃ LB, LB = wr.heap.size := ⟨_, rfl⟩
      have hFl := lt_of_block hF
      have hRl := lt_of_block hR
      have hXl := lt_of_block hX
      have hm1 := hmk wr
      rw [← eLB] at hm hm1 hFl hRl hXl
      have hXm := hm.2.heap hX (by simp)
      obtain ⟨⟨x0, x1, x2, x3, x4, x5, x6⟩, ⟨y0, y1, y2, y3, y4, y5, y6⟩⟩ := seven hXm
      obtain ⟨w2, ew2⟩ : ∃ w2, w2 = (mkW wr).setCell ⟨XB, 6, none⟩ (slv LB (n + 2) (n + 2)) := ⟨_, rfl⟩
      have Ks : Kept [XB] (mkW wr) w2 := by rw [ew2]; exact (Kept.refl _ _).setCell (p := ⟨XB, 6, none⟩) (.inl (by simp)) _
      have hFB := HB.out
      have hLw : w.heap.size ≤ LB := by rw [eLB]; exact hkr.size
      have P2 : Hid (w2.heap[FB]? = some (.cells #[.int .i64 W, .int .i64 H, .int .i64 D, .bool A, .slice po n c] 38 (0, 0)) ∧ w2.heap[RB]? = some (.cells #[.int .i64 0, .int .i64 0, .int .i64 0, .bool false, .slice none 0 0, .slice none 0 0, .slice none 0 0] 45 (0, 0)) ∧ w2.heap[XB]? = some (.cells #[.int .i64 W, .int .i64 H, .int .i64 D, .bool A, .slice none 0 0, V, slv LB (n + 2) (n + 2)] 45 (0, 0)) ∧ w2.heap[LB]? = some (.cells (fl (lsC bs ln 0) (n + 2)).toArray 52 (0, 0)) ∧ Gx w.heap.size w2 V n bs (fun i => ln i + 7) (fun i => ltF (F i) (ln i)) ∧ Kept [] w w2) := Hid.mk ⟨Ks.heap (hm.2.heap hF (by simp)) (by simp; omega), Ks.heap (hm.2.heap hR (by simp)) (by simp; omega), by rw [ew2]; exact heap_setCell_at hXm, Ks.heap (by rw [hm.1, fl_congr (g := lsC bs ln 0) (fun i _ => by unfold lsC; rw [if_neg (by omega)])]) (by simp; omega), (hG.keep0 hm.2).keep Ks (fun g' hg' => by
          have h := own_other (hG.keep0 hm.2).own hXm (by decide)
          simp
          intro e
          subst e
          exact h hg') (fun i hi => by
          have h := (hG.keep0 hm.2).row i hi
          simp
          intro e
          unfold Row at h
          rw [e, hXm] at h
          simp at h), (hkr.trans hm.2).step Ks (fun x hx => by simp at hx; subst hx; exact .inr (by omega))⟩
      have HV : Hid (V.ownBlock ≠ some LB) := Hid.mk (fun e => by
        rcases hG.own.2 with ⟨e2, _⟩ | ⟨g2, cap, cur, e2, hb, hg2, _⟩
        · rw [e2] at e; simp [Value.ownBlock] at e
        · rw [e2] at e; simp [Value.ownBlock] at e; subst e; have := lt_of_block hg2; omega)
      have HL := Hid.mk (And.intro hFl (And.intro hRl (And.intro hXl hLw)))
      clear hm hF hR hX hG hkr hFl hRl hXl hXm Ks hFB hLw eLB hmk f0 f1 f2 f3
      go_wp2
      rw [← ew2]
      clear ew2 hm1 x0 x1 x2 x3 x4 x5 x6 y0 y1 y2 y3 y4 y5 y6 f4
      go_loopw [6] (fun i wq => ∃ k : Nat, k ≤ n ∧ i = .int .i64 (k : Int) ∧ wq.heap[FB]? = some (.cells #[.int .i64 W, .int .i64 H, .int .i64 D, .bool A, .slice po n c] 38 (0, 0)) ∧ wq.heap[RB]? = some (.cells #[.int .i64 0, .int .i64 0, .int .i64 0, .bool false, .slice none 0 0, .slice none 0 0, .slice none 0 0] 45 (0, 0)) ∧ wq.heap[XB]? = some (.cells #[.int .i64 W, .int .i64 H, .int .i64 D, .bool A, .slice none 0 0, V, slv LB (n + 2) (n + 2)] 45 (0, 0)) ∧ wq.heap[LB]? = some (.cells (fl (lsC bs ln k) (n + 2)).toArray 52 (0, 0)) ∧ Gx w.heap.size wq V n bs (fun i => ln i + 7) (fun i => ltF (F i) (ln i)) ∧ Kept [] w wq) (fun i _ => n - (intOf i).toNat)
      case atStart => exact ⟨0, by omega, rfl, P2.out.1, P2.out.2.1, P2.out.2.2.1, P2.out.2.2.2.1, P2.out.2.2.2.2.1, P2.out.2.2.2.2.2⟩
      case round =>
        obtain ⟨k, hk, rfl, hF, hR, hX, hL, hG, hkr⟩ := hrel
        obtain ⟨⟨f0, f1, f2, f3, f4⟩, _⟩ := five hF
        obtain ⟨⟨x0, x1, x2, x3, x4, x5, x6⟩, ⟨y0, y1, y2, y3, y4, y5, y6⟩⟩ := seven hX
        by_cases hlt2 : k < n
        · obtain ⟨g, off, bo, c', rfl, hc0, _⟩ := Hr.out.at hlt2
          have hc := cell_keep hkr hc0 (by simp)
          obtain ⟨gV, cV, rfl, _, _, _, hcs⟩ := hG.cell (by omega)
          have hcV := hcs k hlt2
          have hLc : wr.cell? ⟨LB, k, none⟩ = some (.slice none 0 0) := by
            rw [cell_of_row _ _ _ _ _ _ hL, List.getElem?_toArray, fl_at _ _ _ (by omega)]
            unfold lsC
            rw [if_neg (by omega)]
          have hLf : wr.frozen? ⟨LB, k, none⟩ = false := by simp [World.frozen?, hL]
          have ix : (k : Int) < (n : Int) := by omega
          have ix2 : (k : Int) < (n : Int) + 2 := by omega
          obtain ⟨m, em⟩ : ∃ m, m = ln k := ⟨_, rfl⟩
          have HQ : Hid ((wr.setCell ⟨LB, k, none⟩ (slv (bs k) m (m + 7))).heap[FB]? = some (.cells #[.int .i64 W, .int .i64 H, .int .i64 D, .bool A, .slice (some ⟨g, off, none⟩) n c] 38 (0, 0)) ∧ (wr.setCell ⟨LB, k, none⟩ (slv (bs k) m (m + 7))).heap[RB]? = some (.cells #[.int .i64 0, .int .i64 0, .int .i64 0, .bool false, .slice none 0 0, .slice none 0 0, .slice none 0 0] 45 (0, 0)) ∧ (wr.setCell ⟨LB, k, none⟩ (slv (bs k) m (m + 7))).heap[XB]? = some (.cells #[.int .i64 W, .int .i64 H, .int .i64 D, .bool A, .slice none 0 0, .slice (some ⟨gV, 0, none⟩) n cV, slv LB (n + 2) (n + 2)] 45 (0, 0)) ∧ (wr.setCell ⟨LB, k, none⟩ (slv (bs k) m (m + 7))).heap[LB]? = some (.cells (fl (lsC bs ln (k + 1)) (n + 2)).toArray 52 (0, 0)) ∧ Gx w.heap.size (wr.setCell ⟨LB, k, none⟩ (slv (bs k) m (m + 7))) (.slice (some ⟨gV, 0, none⟩) n cV) n bs (fun i => ln i + 7) (fun i => ltF (F i) (ln i)) ∧ Kept [] w (wr.setCell ⟨LB, k, none⟩ (slv (bs k) m (m + 7)))) := by
            have Ks : Kept [LB] wr (wr.setCell ⟨LB, k, none⟩ (slv (bs k) m (m + 7))) := (Kept.refl _ _).setCell (p := ⟨LB, k, none⟩) (.inl (by simp)) _
            have hl := HL.out
            refine Hid.mk ?_
            refine ⟨Ks.heap hF (by simp; omega), Ks.heap hR (by simp; omega), Ks.heap hX (by simp; omega), ?_, hG.keep Ks (fun g' hg' => ?_) (fun i hi => ?_), hkr.setCell (p := ⟨LB, k, none⟩) (.inr hl.2.2.2) _⟩
            · rw [heap_setCell_at hL, List.setIfInBounds_toArray]
              congr 3
              apply List.ext_getElem?
              intro t
              by_cases ht : t < n + 2
              · rw [List.getElem?_set, fl_at _ _ _ ht, fl_at _ _ _ ht, fl_length]
                by_cases e : k = t
                · subst e
                  rw [if_pos rfl, if_pos ht]
                  unfold lsC
                  rw [if_pos (by omega), em]
                · rw [if_neg e]
                  unfold lsC
                  by_cases h2 : t < k
                  · rw [if_pos h2, if_pos (by omega)]
                  · rw [if_neg h2, if_neg (by omega)]
              · rw [List.getElem?_eq_none (by simp [fl_length]; omega), List.getElem?_eq_none (by rw [fl_length]; omega)]
            · simp
              intro e
              subst e
              exact HV.out hg'
            · have h := hG.row i hi
              simp
              intro e
              unfold Row at h
              rw [e, hL] at h
              simp at h
          rw [← em] at hc hcV
          have hm7 : (m : Int) ≤ (m : Int) + 7 := by omega
          have KD := Hid.mk (((Kept.refl [LB] wr).drew).setCell (p := ⟨LB, k, none⟩) (.inl (by simp)) (slv (bs k) m (m + 7)))
          have nF : FB ∉ [LB] := by have := HL.out; simp; omega
          have nX : XB ∉ [LB] := by have := HL.out; simp; omega
          have nV : gV ∉ [LB] := by simp; intro e; exact HV.out (by simp [Value.ownBlock, e])
          have ng : g ∉ [LB] := by have := HL.out; have := World.block_lt_of_cell? w _ hc0; simp only [List.mem_singleton]; simp at this; omega
          have p1 := cell_keep KD.out x6 nX
          have p2 := cell_keep KD.out x5 nX
          have p3 := cell_keep KD.out f4 nF
          have p4 := cell_keep KD.out hcV nV
          have p5 := cell_keep KD.out hc ng
          clear hF hR hX hL hG hkr em hc0 hcs
          go_wp2
          go_region_held_law (fun w' => w'.cell? ⟨XB, 6, none⟩ = some (slv LB (n + 2) (n + 2)) ∧ w'.cell? ⟨XB, 5, none⟩ = some (.slice (some ⟨gV, 0, none⟩) n cV) ∧ w'.cell? ⟨FB, 4, none⟩ = some (.slice (some ⟨g, off, none⟩) n c) ∧ w'.cell? ⟨gV, k, none⟩ = some (slv (bs k) (m + 7) (m + 7)) ∧ w'.cell? ⟨g, off + k, none⟩ = some (.slice bo m c')) (first | exact ⟨x6, x5, f4, hcV, hc⟩ | exact ⟨p1, p2, p3, p4, p5⟩ | go_keep) (fail)
          all_goals go_wp2
          all_goals exact ⟨⟨k + 1, by omega, by go_num, HQ.out.1, HQ.out.2.1, HQ.out.2.2.1, HQ.out.2.2.2.1, HQ.out.2.2.2.2.1.keep0 ((Kept.refl [] _).drew), HQ.out.2.2.2.2.2.drew⟩, by simp [intOf]; omega⟩
        · obtain rfl : n = k := by omega
          obtain ⟨vo, vl, vc, rfl⟩ : ∃ vo vl vc, V = .slice vo vl vc := by
            rcases hG.own.2 with ⟨e2, _⟩ | ⟨g2, cap, cur, e2, _⟩
            · exact ⟨_, _, _, e2⟩
            · exact ⟨_, _, _, e2⟩
          have K4 : Kept [XB] wr (wr.setCell ⟨XB, 4, none⟩ (slv LB n (n + 2))) := (Kept.refl _ _).setCell (p := ⟨XB, 4, none⟩) (.inl (by simp)) _
          have hX4 := heap_setCell_at (i := 4) (u := slv LB n (n + 2)) hX
          have hR4 := K4.heap hR (by have := HB.out; simp; omega)
          obtain ⟨⟨a0, a1, a2, a3, a4, a5, a6⟩, _⟩ := seven hX4
          obtain ⟨⟨r0, r1, r2, r3, r4, r5, r6⟩, ⟨s0, s1, s2, s3, s4, s5, s6⟩⟩ := seven hR4
          have HZ := Hid.mk (And.intro hF (And.intro hR (And.intro hX (And.intro hL (And.intro hG hkr)))))
          have HZ4 := Hid.mk (And.intro K4 hR4)
          clear hF hR hX hL hG hkr K4 hX4 hR4
          go_wp2
          have q7 := set7 (.int .i64 W) (.int .i64 H) (.int .i64 D) (.bool A) (slv LB n (n + 2)) (.slice vo vl vc) (slv LB (n + 2) (n + 2)) HZ4.out.2
          refine bodyPost_ret (v := lnv W H D A (slv LB n (n + 2)) (.slice vo vl vc) (slv LB (n + 2) (n + 2))) ?_ rfl ⟨LB, _, bs, rfl, ?_⟩
          · exact results_cell_row rfl _ _ RB 45 _ (0, 0) _ rfl q7.1 Try.underlying45 rfl Try.info29
          · obtain ⟨hF, hR, hX, hL, hG, hkr⟩ := HZ.out
            have hl := HL.out
            have hb := HB.out
            have K8 : Kept [XB, RB] wr _ := (HZ4.out.1.mono (l2 := [XB, RB]) (fun x hx => by simp at hx; subst hx; exact .inl (by simp))).step q7.2 (fun x hx => by simp at hx; subst hx; exact .inl (by simp))
            have hg : ∀ g', Value.ownBlock (.slice vo vl vc) = some g' → g' ∉ [XB, RB] := fun g' hg' => by
              have h1 := own_other hG.own hX (by decide)
              have h2 := own_other hG.own hR (by decide)
              simp
              constructor
              · intro e; subst e; exact h1 hg'
              · intro e; subst e; exact h2 hg'
            refine ⟨K8.heap hL (by simp; omega), hG.keep K8 hg (fun i hi => ?_), hl.2.2.2, HV.out, hkr.step K8 (fun x hx => by simp at hx; right; omega)⟩
            have h := hG.row i hi
            simp
            constructor
            · intro e
              unfold Row at h
              rw [e, hX] at h
              simp at h
            · intro e
              unfold Row at h
              rw [e, hR] at h
              simp at h
end Go.Proofs.Ythihennifigchaa
