import Derived.Test.YthhegomjipbdbaaGreatDoortA1Z
import Derived.Deep.RegionLaw
import Derived.Deep.DeepCutAuto
namespace Go.Proofs.YthhegomjipbdbaaGreatDoor.Tl
open Go.RowKit

theorem Tryz.infoR : (Tryz.prog.info? 94).map (fun i => (i.zero, i.size, i.bytes)) = some (some (.slice none 0 0), 1, 24) := by kernel_rfl
theorem Tryz.info42 : (Tryz.prog.info? 42).map (·.size) = some 5 := by kernel_rfl
/-- The values of a function. -/
def fl (f : Nat → Value) (n : Nat) : List Value := (List.range n).map f
theorem fl_length (f : Nat → Value) (n : Nat) : (fl f n).length = n := by simp [fl]
theorem fl_at (f : Nat → Value) (n j : Nat) (h : j < n) : (fl f n)[j]? = some (f j) := by simp [fl, h]
theorem fl_congr {f g : Nat → Value} {n : Nat} (h : ∀ j, j < n → f j = g j) : fl f n = fl g n := by
  apply List.ext_getElem?
  intro j
  by_cases hj : j < n
  · rw [fl_at _ _ _ hj, fl_at _ _ _ hj, h j hj]
  · rw [List.getElem?_eq_none (by rw [fl_length]; omega), List.getElem?_eq_none (by rw [fl_length]; omega)]
/-- Samples as values. -/
def vU (f : Nat → Nat) : Nat → Value := fun i => .int .u16 (f i : Int)
/-- A row in a block of its own. -/
def Row (w : World) (b n : Nat) (f : Nat → Nat) : Prop := w.heap[b]? = some (.cells (fl (vU f) n).toArray 93 (0, 0))
theorem Row.keep {w w' : World} {b n : Nat} {f : Nat → Nat} {ks : List Nat} (h : Row w b n f) (hk : Kept ks w w') (hn : b ∉ ks) : Row w' b n f := hk.heap h hn
theorem Row.lt {w : World} {b n : Nat} {f : Nat → Nat} (h : Row w b n f) : b < w.heap.size := lt_of_block h
theorem Row.at {w : World} {b n : Nat} {f : Nat → Nat} (h : Row w b n f) {j : Nat} (hj : j < n) : w.cell? ⟨b, j, none⟩ = some (.int .u16 (f j : Int)) := by
  rw [cell_of_row _ _ _ _ _ _ h, List.getElem?_toArray, fl_at _ _ _ hj]; rfl
theorem Row.fz {w : World} {b n : Nat} {f : Nat → Nat} (h : Row w b n f) (j : Nat) : w.frozen? ⟨b, j, none⟩ = false := by
  unfold Row at h
  simp [World.frozen?, h]
theorem Row.rd {w : World} {b n : Nat} {f : Nat → Nat} (h : Row w b n f) : Rd w (some ⟨b, 0, none⟩) n f := .inr ⟨b, 0, rfl, fun i hi => by rw [Nat.zero_add]; exact h.at hi⟩
theorem Row.congr {w : World} {b n : Nat} {f f' : Nat → Nat} (h : Row w b n f) (hf : ∀ j, j < n → f j = f' j) : Row w b n f' := by
  unfold Row at h ⊢
  rw [h, fl_congr (g := vU f') (fun j hj => by unfold vU; rw [hf j hj])]
theorem fl_none (n : Nat) : List.replicate n (Value.int .u16 0) = fl (vU fun _ => 0) n := by
  apply List.ext_getElem?
  intro i
  by_cases h : i < n
  · rw [List.getElem?_replicate, if_pos h, fl_at _ _ _ h]; rfl
  · rw [List.getElem?_eq_none (by simp; omega), List.getElem?_eq_none (by simp [fl_length]; omega)]

/-- A list of rows of which k stand. -/
def outC (bs ln : Nat → Nat) (k n : Nat) : List Value := fl (fun i => if i < k then .slice (some ⟨bs i, 0, none⟩) (ln i) (ln i) else .slice none 0 0) n
theorem outC_length (bs ln : Nat → Nat) (k n : Nat) : (outC bs ln k n).length = n := fl_length _ _
theorem outC_at (bs ln : Nat → Nat) (k n i : Nat) (h : i < n) : (outC bs ln k n)[i]? = some (if i < k then .slice (some ⟨bs i, 0, none⟩) (ln i) (ln i) else .slice none 0 0) := fl_at _ _ _ h
theorem outC_zero (bs ln : Nat → Nat) (n : Nat) : outC bs ln 0 n = List.replicate n (.slice none 0 0) := by
  apply List.ext_getElem?
  intro i
  by_cases h : i < n
  · rw [outC_at _ _ _ _ _ h, List.getElem?_replicate, if_pos h, if_neg (by omega)]
  · rw [List.getElem?_eq_none (by rw [outC_length]; omega), List.getElem?_eq_none (by rw [List.length_replicate]; omega)]
/-- One block more. -/
def nx (bs : Nat → Nat) (k b : Nat) : Nat → Nat := fun i => if i = k then b else bs i
theorem outC_set (bs ln : Nat → Nat) (k n b : Nat) : (outC bs ln k n).set k (.slice (some ⟨b, 0, none⟩) (ln k) (ln k)) = outC (nx bs k b) ln (k + 1) n := by
  apply List.ext_getElem?
  intro i
  by_cases h : i < n
  · rw [List.getElem?_set, outC_at _ _ _ _ _ h, outC_at _ _ _ _ _ h, outC_length]
    by_cases e : k = i
    · subst e; simp [h, nx]
    · rw [if_neg e]
      have h1 : (i < k) = (i < k + 1) := by apply propext; omega
      have h2 : nx bs k b i = bs i := if_neg (Ne.symm e)
      simp [h1, h2]
  · rw [List.getElem?_eq_none (by simp [outC_length]; omega), List.getElem?_eq_none (by simp [outC_length]; omega)]

/-- Planes of which k stand, in memory that is new to w0. -/
structure Mk (w0 w : World) (G k n : Nat) (bs ln : Nat → Nat) (F : Nat → Nat → Nat) : Prop where
  out : w.heap[G]? = some (.cells (outC bs ln k n).toArray 94 (0, 0))
  row : ∀ i, i < k → Row w (bs i) (ln i) (F i)
  gt : ∀ i, i < k → G < bs i
  mon : ∀ i j, i < j → j < k → bs i < bs j
  new : w0.heap.size ≤ G
  kept : Kept [] w0 w
theorem Mk.cell {w0 w : World} {G k n : Nat} {bs ln : Nat → Nat} {F : Nat → Nat → Nat} (h : Mk w0 w G k n bs ln F) {i : Nat} (hi : i < k) (hkn : k ≤ n) : w.cell? ⟨G, i, none⟩ = some (.slice (some ⟨bs i, 0, none⟩) (ln i) (ln i)) := by
  rw [cell_of_row _ _ _ _ _ _ h.out, List.getElem?_toArray, outC_at _ _ _ _ _ (by omega), if_pos hi]
theorem Mk.nil {w0 w : World} {G k n : Nat} {bs ln : Nat → Nat} {F : Nat → Nat → Nat} (h : Mk w0 w G k n bs ln F) {i : Nat} (hi : k ≤ i) (hkn : i < n) : w.cell? ⟨G, i, none⟩ = some (.slice none 0 0) := by
  rw [cell_of_row _ _ _ _ _ _ h.out, List.getElem?_toArray, outC_at _ _ _ _ _ (by omega), if_neg (by omega)]
theorem Mk.fz {w0 w : World} {G k n : Nat} {bs ln : Nat → Nat} {F : Nat → Nat → Nat} (h : Mk w0 w G k n bs ln F) (i : Nat) : w.frozen? ⟨G, i, none⟩ = false := by simp [World.frozen?, h.out]
theorem Mk.lt {w0 w : World} {G k n : Nat} {bs ln : Nat → Nat} {F : Nat → Nat → Nat} (h : Mk w0 w G k n bs ln F) : G < w.heap.size := lt_of_block h.out
theorem Mk.keep {w0 w w' : World} {G k n : Nat} {bs ln : Nat → Nat} {F : Nat → Nat → Nat} (h : Mk w0 w G k n bs ln F) (hk : Kept [] w w') : Mk w0 w' G k n bs ln F :=
  ⟨hk.heap h.out (by simp), fun i hi => (h.row i hi).keep hk (by simp), h.gt, h.mon, h.new, h.kept.trans hk⟩
theorem Mk.pl {w0 w : World} {G n : Nat} {bs ln : Nat → Nat} {F : Nat → Nat → Nat} (h : Mk w0 w G n n bs ln F) : Pl w (some ⟨G, 0, none⟩) n ln F :=
  .inr ⟨G, 0, rfl, fun i hi => ⟨_, _, by rw [Nat.zero_add]; exact h.cell hi (Nat.le_refl _), (h.row i hi).rd⟩⟩
/-- One row more. -/
theorem Mk.put {w0 w w' : World} {G k n b : Nat} {bs ln : Nat → Nat} {F : Nat → Nat → Nat} (h : Mk w0 w G k n bs ln F) (hk : Kept [] w w') (hb : w.heap.size ≤ b) (hr : Row w' b (ln k) (F k)) :
    Mk w0 (w'.setCell ⟨G, k, none⟩ (.slice (some ⟨b, 0, none⟩) (ln k) (ln k))) G (k + 1) n (nx bs k b) ln F := by
  have hset : Kept [G] w' (w'.setCell ⟨G, k, none⟩ (.slice (some ⟨b, 0, none⟩) (ln k) (ln k))) := (Kept.refl [G] w').setCell (p := ⟨G, k, none⟩) (.inl (by simp)) _
  have hG := h.lt
  refine ⟨?_, fun i hi => ?_, fun i hi => ?_, fun i j h1 h2 => ?_, h.new, (h.kept.trans hk).setCell (p := ⟨G, k, none⟩) (.inr h.new) _⟩
  · rw [heap_setCell_at (hk.heap h.out (by simp)), List.setIfInBounds_toArray, outC_set]
  · by_cases e : i = k
    · subst e
      rw [show nx bs i b i = b from if_pos rfl]
      exact hr.keep hset (by simp; omega)
    · rw [show nx bs k b i = bs i from if_neg e]
      exact ((h.row i (by omega)).keep hk (by simp)).keep hset (by have := h.gt i (by omega); simp; omega)
  · by_cases e : i = k
    · subst e; rw [show nx bs i b i = b from if_pos rfl]; omega
    · rw [show nx bs k b i = bs i from if_neg e]; exact h.gt i (by omega)
  · rw [show nx bs k b i = bs i from if_neg (by omega)]
    by_cases e : j = k
    · subst e; rw [show nx bs j b j = b from if_pos rfl]; have := (h.row i (by omega)).lt; omega
    · rw [show nx bs k b j = bs j from if_neg e]; exact h.mon i j h1 (by omega)

/-- What was new to a later world; a block that lay there is written. -/
theorem Mk.after {w0 w1 w w' : World} {G k n B : Nat} {bs ln : Nat → Nat} {F : Nat → Nat → Nat} (h : Mk w1 w G k n bs ln F) (hk : Kept [] w0 w1) (hs : Kept [B] w w') (hB : B < w1.heap.size) (hB2 : w0.heap.size ≤ B) : Mk w0 w' G k n bs ln F := by
  have h1 := h.new
  refine ⟨hs.heap h.out (by simp; omega), fun i hi => (h.row i hi).keep hs (by have := h.gt i hi; simp; omega), h.gt, h.mon, Nat.le_trans hk.size h1, (hk.trans h.kept).step hs (fun x hx => by simp at hx; subst hx; exact .inr hB2)⟩

/-- How many samples a plane has. -/
def pz (W H : Int) (i : Nat) : Nat := (wp W (i : Int) * H).toNat

theorem wrap_i {x : Int} (h0 : -9223372036854775808 ≤ x) (h1 : x ≤ 9223372036854775807) : IntKind.i64.wrap x = x := by
  simp only [IntKind.wrap, IntKind.bits, IntKind.signed]; simp; omega

/-- Making a list of planes, as an equation. -/
theorem make_planes (r : Nat) (hr : r ≤ 1000000) : ∃ mkW : World → World, (∀ w, Sem.run Tryz.prog (Instr.makeSlice 40 (.int .i64 (r : Int)) (.int .i64 (r : Int))) w = .ok (.slice (some ⟨w.heap.size, 0, none⟩) r r) (mkW w)) ∧ ∀ w, (mkW w).heap[w.heap.size]? = some (.cells (List.replicate r (.slice none 0 0)).toArray 94 (0, 0)) ∧ Kept [] w (mkW w) := by
  obtain ⟨j0, gi, gz0, gz1, gz2⟩ := info_parts Tryz.infoR
  have h : ∀ w : World, ∃ w', Sem.run Tryz.prog (Instr.makeSlice 40 (.int .i64 (r : Int)) (.int .i64 (r : Int))) w = .ok (.slice (some ⟨w.heap.size, 0, none⟩) r r) w' ∧ w'.heap[w.heap.size]? = some (.cells (List.replicate r (.slice none 0 0)).toArray 94 (0, 0)) ∧ Kept [] w w' := fun w => by
    obtain ⟨w', hrun, r1, r2⟩ := run_make_full (P := Tryz.prog) w 0 40 94 j0 (.slice none 0 0) 1 Tryz.underlying40 gi gz0 gz1 .i64 .i64 r (by rw [gz2]; omega) (by unfold maxLen; omega) (by omega)
    have hr3 := row_heap r1 rfl
    rw [show (madeCells (Value.slice none 0 0).cells (r * 1)).toList = List.replicate r (.slice none 0 0) by rw [Nat.mul_one]; exact toList_madeCells_one _ _] at hr3
    exact ⟨w', hrun, hr3, (Kept.of_grown r2).mono (by simp)⟩
  obtain ⟨mkW, hm⟩ := Classical.axiomOfChoice h
  exact ⟨mkW, fun w => (hm w).1, fun w => (hm w).2⟩

/-- Making a list of samples, as an equation. -/
theorem make_row (r : Nat) (m : Int) (hm : m = (r : Int)) (hr : r ≤ 1000000000) : ∃ mkW : World → World, (∀ w, Sem.run Tryz.prog (Instr.makeSlice 94 (.int .i64 m) (.int .i64 m)) w = .ok (.slice (some ⟨w.heap.size, 0, none⟩) r r) (mkW w)) ∧ ∀ w, Row (mkW w) w.heap.size r (fun _ => 0) ∧ Kept [] w (mkW w) := by
  subst hm
  obtain ⟨j0, gi, gz0, gz1, gz2⟩ := info_parts Tryz.info93
  have h : ∀ w : World, ∃ w', Sem.run Tryz.prog (Instr.makeSlice 94 (.int .i64 (r : Int)) (.int .i64 (r : Int))) w = .ok (.slice (some ⟨w.heap.size, 0, none⟩) r r) w' ∧ Row w' w.heap.size r (fun _ => 0) ∧ Kept [] w w' := fun w => by
    obtain ⟨w', hrun, r1, r2⟩ := run_make_full (P := Tryz.prog) w 0 94 93 j0 (.int .u16 0) 1 Tryz.underlying94 gi gz0 gz1 .i64 .i64 r (by rw [gz2]; omega) (by unfold maxLen; omega) (by omega)
    have hr3 := row_heap r1 rfl
    rw [show (madeCells (Value.int .u16 0).cells (r * 1)).toList = List.replicate r (.int .u16 0) by rw [Nat.mul_one]; exact toList_madeCells_one _ _, fl_none] at hr3
    exact ⟨w', hrun, hr3, (Kept.of_grown r2).mono (by simp)⟩
  obtain ⟨mkW, hm⟩ := Classical.axiomOfChoice h
  exact ⟨mkW, fun w => (hm w).1, fun w => (hm w).2⟩

theorem new_keep {w w' : World} {a b c d e : Value} {t : Nat} (hk : Kept [] (w.alloc (.cells #[a, b, c, d, e] t (0, 0))) w') :
    (w'.cell? ⟨w.heap.size, 0, none⟩ = some a ∧ w'.cell? ⟨w.heap.size, 1, none⟩ = some b ∧ w'.cell? ⟨w.heap.size, 2, none⟩ = some c ∧ w'.cell? ⟨w.heap.size, 3, none⟩ = some d ∧ w'.cell? ⟨w.heap.size, 4, none⟩ = some e) ∧
    (w'.frozen? ⟨w.heap.size, 0, none⟩ = false ∧ w'.frozen? ⟨w.heap.size, 1, none⟩ = false ∧ w'.frozen? ⟨w.heap.size, 2, none⟩ = false ∧ w'.frozen? ⟨w.heap.size, 3, none⟩ = false ∧ w'.frozen? ⟨w.heap.size, 4, none⟩ = false) ∧ w.heap.size < w'.heap.size := by
  have h := hk.heap (heap_alloc_new w (.cells #[a, b, c, d, e] t (0, 0))) (by simp)
  refine ⟨⟨?_, ?_, ?_, ?_, ?_⟩, ⟨?_, ?_, ?_, ?_, ?_⟩, lt_of_block h⟩
  all_goals first | (rw [cell_of_row _ _ _ _ _ _ h]; rfl) | (simp [World.frozen?, h])

theorem new_keepd {w w' : World} {a b c d e : Value} {t : Nat} (hk : Kept [] (w.drew.alloc (.cells #[a, b, c, d, e] t (0, 0))) w') :
    (w'.cell? ⟨w.heap.size, 0, none⟩ = some a ∧ w'.cell? ⟨w.heap.size, 1, none⟩ = some b ∧ w'.cell? ⟨w.heap.size, 2, none⟩ = some c ∧ w'.cell? ⟨w.heap.size, 3, none⟩ = some d ∧ w'.cell? ⟨w.heap.size, 4, none⟩ = some e) ∧
    (w'.frozen? ⟨w.heap.size, 0, none⟩ = false ∧ w'.frozen? ⟨w.heap.size, 1, none⟩ = false ∧ w'.frozen? ⟨w.heap.size, 2, none⟩ = false ∧ w'.frozen? ⟨w.heap.size, 3, none⟩ = false ∧ w'.frozen? ⟨w.heap.size, 4, none⟩ = false) ∧ w.heap.size < w'.heap.size := new_keep (w := w.drew) hk

/-- Five cells are written. -/
theorem set5 {w : World} {B t : Nat} {a b c d e : Value} (a' b' c' d' e' : Value) (h : w.heap[B]? = some (.cells #[a, b, c, d, e] t (0, 0))) :
    (((((w.setCell ⟨B, 0, none⟩ a').setCell ⟨B, 1, none⟩ b').setCell ⟨B, 2, none⟩ c').setCell ⟨B, 3, none⟩ d').setCell ⟨B, 4, none⟩ e').heap[B]? = some (.cells #[a', b', c', d', e'] t (0, 0)) ∧
    Kept [B] w (((((w.setCell ⟨B, 0, none⟩ a').setCell ⟨B, 1, none⟩ b').setCell ⟨B, 2, none⟩ c').setCell ⟨B, 3, none⟩ d').setCell ⟨B, 4, none⟩ e') :=
  ⟨heap_setCell_at (heap_setCell_at (heap_setCell_at (heap_setCell_at (heap_setCell_at h)))), (((((Kept.refl [B] w).setCell (p := ⟨B, 0, none⟩) (.inl (by simp)) _).setCell (p := ⟨B, 1, none⟩) (.inl (by simp)) _).setCell (p := ⟨B, 2, none⟩) (.inl (by simp)) _).setCell (p := ⟨B, 3, none⟩) (.inl (by simp)) _).setCell (p := ⟨B, 4, none⟩) (.inl (by simp)) _⟩

set_option maxHeartbeats 2000000 in
set_option maxRecDepth 1000000 in
theorem blank_any (W H D : Int) (A : Bool) (w : World) (h0 : 1 ≤ W) (h1 : W ≤ 4096) (h2 : 1 ≤ H) (h3 : H ≤ 4096) :
    Calls Tryz.prog 50 #[shv W H D A] w fun e w' => ∃ g bs, e = .returned (frv W H D A (some ⟨g, 0, none⟩) (np A) (np A)) ∧ Mk w w' g (np A) (np A) bs (pz W H) (fun _ _ => 0) := by
  have C := Hid.mk (fun u => planes_any W H D A u)
  have C2 := Hid.mk (fun u (p : Nat) => sides_any W H D p A u (by omega) h1)
  have hn4 := np_hi A
  have HP := Hid.mk (fun p => wpH p h0 h1 h2 h3)
  obtain ⟨n, en⟩ : ∃ n : Nat, n = np A := ⟨_, rfl⟩
  rw [← en] at C hn4 ⊢
  clear en
  obtain ⟨i0, hi, hz0, hz1, hz2⟩ := info_parts Tryz.info93
  obtain ⟨mkW, hmk, hmw⟩ := make_planes n (by omega)
  have HMW := Hid.mk hmw
  have hmc : ∀ (u : World) (p o : Nat), p < u.heap.size → (mkW u).cell? ⟨p, o, none⟩ = u.cell? ⟨p, o, none⟩ := fun u p o hp => World.cell?_of_block (a := ⟨p, o, none⟩) ((hmw u).2.block p hp (by simp))
  have hmf : ∀ (u : World) (p o : Nat), p < u.heap.size → (mkW u).frozen? ⟨p, o, none⟩ = u.frozen? ⟨p, o, none⟩ := fun u p o hp => by
    have := (hmw u).2.block p hp (by simp)
    unfold World.frozen?
    simp only [this]
  clear hmw
  have hk0 := Hid.mk ((alloc_kept w (.cells #[.int .i64 W, .int .i64 H, .int .i64 D, .bool A] 23)).trans (alloc_kept _ (.cells #[.int .i64 0, .int .i64 0, .int .i64 0, .bool false, .slice none 0 0] 42)))
  have S0 := (Sat.new w W H D A 23).keep (alloc_kept _ (.cells #[.int .i64 0, .int .i64 0, .int .i64 0, .bool false, .slice none 0 0] 42)) (by simp)
  go_enter Tryz.func50, Tryz.ntmps50
  go_wp2
  obtain ⟨w1, ew1⟩ : ∃ w1, w1 = (w.alloc (.cells #[.int .i64 W, .int .i64 H, .int .i64 D, .bool A] 23)).alloc (.cells #[.int .i64 0, .int .i64 0, .int .i64 0, .bool false, .slice none 0 0] 42) := ⟨_, rfl⟩
  have hres : ((w.alloc (.cells #[.int .i64 W, .int .i64 H, .int .i64 D, .bool A] 23)).alloc (.cells #[.int .i64 0, .int .i64 0, .int .i64 0, .bool false, .slice none 0 0] 42)).heap[w.heap.size + 1]? = some (.cells #[.int .i64 0, .int .i64 0, .int .i64 0, .bool false, .slice none 0 0] 42 (0, 0)) := by
    have := heap_alloc_new (w.alloc (.cells #[.int .i64 W, .int .i64 H, .int .i64 D, .bool A] 23)) (.cells #[.int .i64 0, .int .i64 0, .int .i64 0, .bool false, .slice none 0 0] 42)
    rwa [World.size_alloc] at this
  rw [← ew1] at hk0 S0 hres ⊢
  clear ew1
  obtain ⟨q0, q1, q2, q3⟩ := S0
  obtain ⟨b, eb⟩ : ∃ b, b = w.heap.size := ⟨_, rfl⟩
  rw [← eb] at q0 q1 q2 q3 hres ⊢
  have Hres := Hid.mk hres
  have HEB := Hid.mk eb
  clear eb hres
  go_cut [3] (fun s wc => ∃ B g, s = .pointer (some ⟨B, 0, none⟩) ∧ wc.heap[B]? = some (.cells #[.int .i64 W, .int .i64 H, .int .i64 D, .bool A, .slice (some ⟨g, 0, none⟩) n n] 42 (0, 0)) ∧ wc.heap[g]? = some (.cells (List.replicate n (.slice none 0 0)).toArray 94 (0, 0)) ∧ w1.heap.size ≤ B ∧ w1.heap.size ≤ g ∧ B ≠ g ∧ Kept [] w1 wc)
  case first =>
    have CA := Hid.mk (C.out (w1.drew.alloc (.cells #[.int .i64 0, .int .i64 0, .int .i64 0, .bool false, .slice none 0 0] 42 (0, 0))))
    have CB := Hid.mk (C.out w1.drew)
    have hb1 := World.block_lt_of_cell? w1 _ q0
    go_region_law (first | (go_simp; go_at_call 80; refine CA.out.mono ?_; rintro e w2 ⟨rfl, hk2⟩; have hk3 := (alloc_kept w1.drew _).trans hk2; have p0 := cell_keep hk3 (show w1.drew.cell? _ = _ from q0) (by simp); have hb2 := World.block_lt_of_cell? w2 _ p0; have hb3 : b < (mkW w2).heap.size := Nat.lt_of_lt_of_le hb2 (HMW.out w2).2.size; have p1 := cell_keep hk3 (show w1.drew.cell? _ = _ from q1) (by simp); have p2 := cell_keep hk3 (show w1.drew.cell? _ = _ from q2) (by simp); have p3 := cell_keep hk3 (show w1.drew.cell? _ = _ from q3) (by simp); obtain ⟨⟨z0, z1, z2, z3, z4⟩, ⟨f0, f1, f2, f3, f4⟩, zl⟩ := new_keepd hk2) | (go_simp; go_at_call 80; refine CB.out.mono ?_; rintro e w2 ⟨rfl, hk2⟩; have p0 := cell_keep hk2 (show w1.drew.cell? _ = _ from q0) (by simp); have hb2 := World.block_lt_of_cell? w2 _ p0; have hb3 : b < (mkW w2).heap.size := Nat.lt_of_lt_of_le hb2 (HMW.out w2).2.size; have p1 := cell_keep hk2 (show w1.drew.cell? _ = _ from q1) (by simp); have p2 := cell_keep hk2 (show w1.drew.cell? _ = _ from q2) (by simp); have p3 := cell_keep hk2 (show w1.drew.cell? _ = _ from q3) (by simp)))
    all_goals go_wp2
    all_goals go_meet
    all_goals first
      | (refine ⟨(mkW w2).heap.size, w2.heap.size, rfl, ?_⟩; have m := HMW.out w2; exact ⟨heap_alloc_new _ _, (alloc_kept _ _).heap m.1 (by simp), (hk2.trans m.2).size, hk2.size, by have := lt_of_block m.1; omega, ((hk2.trans m.2).trans (alloc_kept _ _)).undrew⟩)
      | (refine ⟨w2.heap.size, w2.heap.size + 1, rfl, ?_⟩; have m := HMW.out (w2.alloc (.cells #[.int .i64 0, .int .i64 0, .int .i64 0, .bool false, .slice none 0 0] 42 (0, 0))); have s5 := set5 (.int .i64 W) (.int .i64 H) (.int .i64 D) (.bool A) (.slice (some ⟨w2.heap.size + 1, 0, none⟩) n n) (m.2.heap (heap_alloc_new w2 _) (by simp)); rw [World.size_alloc] at m; exact ⟨s5.1, s5.2.heap m.1 (by simp), hk2.size, Nat.le_succ_of_le hk2.size, by omega, ((((hk2.trans (alloc_kept _ _)).trans m.2).step s5.2 (fun x hx => by simp at hx; subst hx; exact .inr hk2.size))).undrew⟩)
      | (refine ⟨w1.heap.size, w2.heap.size, rfl, ?_⟩; have m := HMW.out w2; have h3 := hk2.heap (heap_alloc_new w1.drew _) (by simp); have s5 := set5 (.int .i64 W) (.int .i64 H) (.int .i64 D) (.bool A) (.slice (some ⟨w2.heap.size, 0, none⟩) n n) (m.2.heap h3 (by simp)); exact ⟨s5.1, s5.2.heap m.1 (by simp; omega), Nat.le_refl _, Nat.le_of_lt zl, by omega, (((((alloc_kept w1.drew _).trans hk2).trans m.2).step s5.2 (fun x hx => by simp at hx; subst hx; exact .inr (Nat.le_refl _)))).undrew⟩)
  case rest =>
    obtain ⟨B, g, rfl, hB, hg, lB, lg, hne, hkc⟩ := hcut
    have M0 : Hid (Mk w wc g 0 n (fun _ => 0) (pz W H) (fun _ _ => 0)) := Hid.mk ⟨by rw [outC_zero]; exact hg, fun i h => by omega, fun i h => by omega, fun i j h1 h2 => by omega, Nat.le_trans hk0.out.size lg, hk0.out.trans hkc⟩
    have hcB := cell_of_row
    have c0 : wc.cell? ⟨B, 0, none⟩ = some (.int .i64 W) := by rw [cell_of_row _ _ _ _ _ _ hB]; rfl
    have c4 : wc.cell? ⟨B, 4, none⟩ = some (.slice (some ⟨g, 0, none⟩) n n) := by rw [cell_of_row _ _ _ _ _ _ hB]; rfl
    have S1 := Sat.keep ⟨q0, q1, q2, q3⟩ hkc (by simp)
    have HB := Hid.mk hB
    have Hne := Hid.mk hne
    have HlB := Hid.mk (Nat.le_trans hk0.out.size lB)
    have hb1 : b < w1.heap.size := World.block_lt_of_cell? w1 _ q0
    have hbg : Hid (b ≠ g) := Hid.mk (by show b ≠ g; omega)
    have hb2 : b + 1 < w1.heap.size := lt_of_block Hres.out
    have hbg2 : Hid (b + 1 ≠ g ∧ b + 1 ≠ B) := Hid.mk (by constructor <;> omega)
    have Hres2 := Hid.mk (hkc.heap Hres.out (by simp))
    clear Hres hb2
    clear hB hg lB lg hne hkc q0 q1 q2 q3 C hmc hmf hmk HMW hcB hb1
    go_wp2
    go_loopw [15] (fun i wr => ∃ (k : Nat) (bs : Nat → Nat), k ≤ n ∧ i = .int .i64 (k : Int) ∧ Mk w wr g k n bs (pz W H) (fun _ _ => 0) ∧ Kept [g] wc wr) (fun i _ => n - (intOf i).toNat)
    case atStart => exact ⟨0, _, by omega, rfl, M0.out, Kept.refl _ _⟩
    case round =>
      obtain ⟨k, bs, hk, rfl, hM, hkr⟩ := hrel
      have HM := Hid.mk hM
      have Hkr := Hid.mk hkr
      obtain ⟨p0, p1, p2, p3⟩ := S1.keep hkr (by simpa using hbg.out)
      have d4 := cell_keep hkr c4 (by simpa using Hne.out)
      clear hM hkr c0 c4 S1
      by_cases hlt : k < n
      · have b1 := HP.out (k : Int)
        have D2 := Hid.mk (fun u => C2.out u k)
        have epz : pz W H k = (wp W (k : Int) * H).toNat := rfl
        obtain ⟨x, ex⟩ : ∃ x, x = wp W k := ⟨_, rfl⟩
        rw [← ex] at b1 D2 epz
        obtain ⟨mkR, hmk, hmw⟩ := make_row (pz W H k) (x * H) (by rw [epz]; omega) (by rw [epz]; omega)
        have HMW := Hid.mk hmw
        have hmc : ∀ (u : World) (p o : Nat), p < u.heap.size → (mkR u).cell? ⟨p, o, none⟩ = u.cell? ⟨p, o, none⟩ := fun u p o hp => World.cell?_of_block (a := ⟨p, o, none⟩) ((hmw u).2.block p hp (by simp))
        have hmf : ∀ (u : World) (p o : Nat), p < u.heap.size → (mkR u).frozen? ⟨p, o, none⟩ = u.frozen? ⟨p, o, none⟩ := fun u p o hp => by
          have := (hmw u).2.block p hp (by simp)
          unfold World.frozen?
          simp only [this]
        have Hmc := Hid.mk hmc
        have Hmf := Hid.mk hmf
        obtain ⟨r, er⟩ : ∃ r, r = pz W H k := ⟨_, rfl⟩
        rw [← er] at hmk HMW
        have ER := Hid.mk er
        clear ex hmw epz er hmc hmf
        have ix : (k : Int) < (n : Int) := by omega
        have hwr : IntKind.i64.wrap (x * H) = x * H := wrap_i (by omega) (by omega)
        go_wp2_with (go_at_call 81; refine (D2.out _).mono ?_; rintro e w2 ⟨rfl, hk2⟩)
        have M2 := Hid.mk (HM.out.keep hk2)
        have hcell := M2.out.nil (Nat.le_refl k) hlt
        have hfz := M2.out.fz k
        have e4 := cell_keep hk2 d4 (by simp)
        have hl1 := World.block_lt_of_cell? w2 _ hcell
        have hl2 := World.block_lt_of_cell? w2 _ e4
        have hmc1 : (mkR w2.drew).cell? ⟨g, k, none⟩ = some (.slice none 0 0) := (Hmc.out w2.drew g k hl1).trans hcell
        have hmf1 : (mkR w2.drew).frozen? ⟨g, k, none⟩ = false := (Hmf.out w2.drew g k hl1).trans hfz
        have hmc2 : (mkR w2.drew).cell? ⟨B, 4, none⟩ = some (.slice (some ⟨g, 0, none⟩) n n) := (Hmc.out w2.drew B 4 hl2).trans e4
        clear hl1 hl2 p0 p1 p2 p3
        go_region_law (fail)
        all_goals go_wp2
        all_goals go_roundw
        all_goals first
          | exact ⟨k + 1, _, by omega, by go_num, by rw [ER.out]; exact M2.out.put ((HMW.out w2.drew).2.undrew) (Nat.le_refl _) (by rw [← ER.out]; exact (HMW.out w2.drew).1), ((Hkr.out.step hk2 (by simp)).step ((HMW.out w2.drew).2.undrew) (by simp)).setCell (p := ⟨g, k, none⟩) (.inl (by simp)) _⟩
          | (simp [intOf]; omega)
      · obtain rfl : n = k := by omega
        have hB2 := Hkr.out.heap HB.out (by simpa using Hne.out)
        have hR2 := Hkr.out.heap Hres2.out (by simpa using hbg2.out.1)
        have c0 : wr.cell? ⟨B, 0, none⟩ = some (.int .i64 W) := by rw [cell_of_row _ _ _ _ _ _ hB2]; rfl
        have c1 : wr.cell? ⟨B, 1, none⟩ = some (.int .i64 H) := by rw [cell_of_row _ _ _ _ _ _ hB2]; rfl
        have c2 : wr.cell? ⟨B, 2, none⟩ = some (.int .i64 D) := by rw [cell_of_row _ _ _ _ _ _ hB2]; rfl
        have c3 : wr.cell? ⟨B, 3, none⟩ = some (.bool A) := by rw [cell_of_row _ _ _ _ _ _ hB2]; rfl
        have z0 : wr.cell? ⟨b + 1, 0, none⟩ = some (.int .i64 0) := by rw [cell_of_row _ _ _ _ _ _ hR2]; rfl
        have z1 : wr.cell? ⟨b + 1, 1, none⟩ = some (.int .i64 0) := by rw [cell_of_row _ _ _ _ _ _ hR2]; rfl
        have z2 : wr.cell? ⟨b + 1, 2, none⟩ = some (.int .i64 0) := by rw [cell_of_row _ _ _ _ _ _ hR2]; rfl
        have z3 : wr.cell? ⟨b + 1, 3, none⟩ = some (.bool false) := by rw [cell_of_row _ _ _ _ _ _ hR2]; rfl
        have z4 : wr.cell? ⟨b + 1, 4, none⟩ = some (.slice none 0 0) := by rw [cell_of_row _ _ _ _ _ _ hR2]; rfl
        have f0 : wr.frozen? ⟨b + 1, 0, none⟩ = false := by simp [World.frozen?, hR2]
        have f1 : wr.frozen? ⟨b + 1, 1, none⟩ = false := by simp [World.frozen?, hR2]
        have f2 : wr.frozen? ⟨b + 1, 2, none⟩ = false := by simp [World.frozen?, hR2]
        have f3 : wr.frozen? ⟨b + 1, 3, none⟩ = false := by simp [World.frozen?, hR2]
        have f4 : wr.frozen? ⟨b + 1, 4, none⟩ = false := by simp [World.frozen?, hR2]
        have HB2 := Hid.mk hB2
        have HR2 := Hid.mk hR2
        clear hB2 hR2
        go_wp2
        have s5 := set5 (.int .i64 W) (.int .i64 H) (.int .i64 D) (.bool A) (.slice (some ⟨g, 0, none⟩) n n) HR2.out
        refine bodyPost_ret (v := frv W H D A (some ⟨g, 0, none⟩) n n) ?_ rfl ⟨g, bs, rfl, ?_⟩
        · exact results_cell_row rfl _ _ (b + 1) 42 _ (0, 0) _ rfl s5.1 Tryz.underlying42 rfl Tryz.info42
        · refine ⟨s5.2.heap HM.out.out (by have := hbg2.out.1; simp; omega), fun i hi => (HM.out.row i hi).keep s5.2 ?_, HM.out.gt, HM.out.mon, HM.out.new, HM.out.kept.step s5.2 (fun x hx => by simp at hx; subst hx; exact .inr (by have := HEB.out; omega))⟩
          have h1 := HM.out.gt i hi
          have h2 := HM.out.new
          have h3 := HEB.out
          have h4 := hbg.out
          have h5 := hbg2.out.1
          simp
          omega

/-- Five cells. -/
theorem five {w : World} {B t : Nat} {a b c d e : Value} (h : w.heap[B]? = some (.cells #[a, b, c, d, e] t (0, 0))) :
    (w.cell? ⟨B, 0, none⟩ = some a ∧ w.cell? ⟨B, 1, none⟩ = some b ∧ w.cell? ⟨B, 2, none⟩ = some c ∧ w.cell? ⟨B, 3, none⟩ = some d ∧ w.cell? ⟨B, 4, none⟩ = some e) ∧
    w.frozen? ⟨B, 0, none⟩ = false ∧ w.frozen? ⟨B, 1, none⟩ = false ∧ w.frozen? ⟨B, 2, none⟩ = false ∧ w.frozen? ⟨B, 3, none⟩ = false ∧ w.frozen? ⟨B, 4, none⟩ = false := by
  refine ⟨⟨?_, ?_, ?_, ?_, ?_⟩, ?_, ?_, ?_, ?_, ?_⟩
  all_goals first | (rw [cell_of_row _ _ _ _ _ _ h]; rfl) | (simp [World.frozen?, h])

/-- A struct and a number as results. -/
theorem results_two {fn : Func} {p u : Tmp} {ty : TypeId} (h : fn.results = #[.cell p ty, .tmp u]) (tmps : Array Value) (w : World) (g : Nat) (t : TypeId) (cs : Array Value) (fr : Nat × Nat) (fs : Array Field) (v : Value)
    (hp : tmps.getD p undef = .pointer (some ⟨g, 0, none⟩)) (hg : w.heap[g]? = some (.cells cs t fr))
    (hu : Tryz.prog.underlying ty = some (.struct fs)) (hi : (Tryz.prog.info? ty).map (·.size) = some cs.size) (hv : tmps.getD u undef = v) :
    (results fn tmps).run Tryz.prog w = .ok (.tuple #[.agg cs, v]) w := by
  rw [results_cell_tmp h, hp, hv]
  simp [asAddr, run_loadVar_row w g t ty cs fr _ hg hu rfl hi]

set_option maxHeartbeats 4000000 in
set_option maxRecDepth 1000000 in
theorem new_any (W H D : Int) (A : Bool) (w : World) :
    Calls Tryz.prog 21 #[shv W H D A] w fun e w' => (shE W H D A = 0 → ∃ g bs, e = .returned (.tuple #[frv W H D A (some ⟨g, 0, none⟩) (np A) (np A), .int .i64 0]) ∧ Mk w w' g (np A) (np A) bs (pz W H) (fun _ _ => 0)) ∧ (shE W H D A ≠ 0 → e = .returned (.tuple #[frv 0 0 0 false none 0 0, .int .i64 61]) ∧ Kept [] w w') := by
  have C := Hid.mk (fun u => shaped_any W H D A u)
  have hk0 := Hid.mk ((alloc_kept w (.cells #[.int .i64 W, .int .i64 H, .int .i64 D, .bool A] 23)).trans (alloc_kept _ (.cells #[.int .i64 0, .int .i64 0, .int .i64 0, .bool false, .slice none 0 0] 42)))
  have S0 := (Sat.new w W H D A 23).keep (alloc_kept _ (.cells #[.int .i64 0, .int .i64 0, .int .i64 0, .bool false, .slice none 0 0] 42)) (by simp)
  have hres : ((w.alloc (.cells #[.int .i64 W, .int .i64 H, .int .i64 D, .bool A] 23)).alloc (.cells #[.int .i64 0, .int .i64 0, .int .i64 0, .bool false, .slice none 0 0] 42)).heap[w.heap.size + 1]? = some (.cells #[.int .i64 0, .int .i64 0, .int .i64 0, .bool false, .slice none 0 0] 42 (0, 0)) := by
    have := heap_alloc_new (w.alloc (.cells #[.int .i64 W, .int .i64 H, .int .i64 D, .bool A] 23)) (.cells #[.int .i64 0, .int .i64 0, .int .i64 0, .bool false, .slice none 0 0] 42)
    rwa [World.size_alloc] at this
  obtain ⟨w1, ew1⟩ : ∃ w1, w1 = (w.alloc (.cells #[.int .i64 W, .int .i64 H, .int .i64 D, .bool A] 23)).alloc (.cells #[.int .i64 0, .int .i64 0, .int .i64 0, .bool false, .slice none 0 0] 42) := ⟨_, rfl⟩
  rw [← ew1] at hk0 S0 hres
  have HS := Hid.mk S0
  have HR := Hid.mk hres
  have HW := Hid.mk ew1
  clear S0 hres ew1
  rcases shE_two W H D A with ⟨e1, h1⟩ | ⟨e1, h1⟩
  · rw [e1] at C ⊢
    have CB := Hid.mk (fun u => blank_any W H D A u h1.1.1 h1.1.2 h1.2.1.1 h1.2.1.2)
    clear e1 h1
    go_enter Tryz.func21, Tryz.ntmps21
    go_wp2_with (first | (go_at_call 49; refine (C.out _).mono ?_; rintro e w2 ⟨rfl, hk2⟩; rw [← HW.out] at hk2; have hk02 := Hid.mk (hk0.out.trans hk2); obtain ⟨p0, p1, p2, p3⟩ := HS.out.keep hk2 (by simp); have HR2 := Hid.mk (hk2.heap HR.out (by simp))) | (go_at_call 50; refine (CB.out _).mono ?_; rintro e w3 ⟨g, bs, rfl, hM⟩; obtain ⟨⟨z0, z1, z2, z3, z4⟩, f0, f1, f2, f3, f4⟩ := five (hM.kept.heap HR2.out (by simp))))
    have s5 := set5 (.int .i64 W) (.int .i64 H) (.int .i64 D) (.bool A) (.slice (some ⟨g, 0, none⟩) (np A) (np A)) (hM.kept.heap HR2.out (by simp))
    refine bodyPost_ret (v := .tuple #[frv W H D A (some ⟨g, 0, none⟩) (np A) (np A), .int .i64 0]) ?_ rfl ⟨fun _ => ⟨g, bs, rfl, ?_⟩, fun h => absurd rfl h⟩
    · exact results_two rfl _ _ (w.heap.size + 1) 42 _ (0, 0) _ _ rfl s5.1 Tryz.underlying42 Tryz.info42 rfl
    · exact hM.after hk02.out s5.2 (lt_of_block HR2.out) (by omega)
  · rw [e1] at C ⊢
    clear e1 h1
    go_enter Tryz.func21, Tryz.ntmps21
    go_wp2_with (first | (go_at_call 49; refine (C.out _).mono ?_; rintro e w2 ⟨rfl, hk2⟩; rw [← HW.out] at hk2; have hk02 := Hid.mk (hk0.out.trans hk2); obtain ⟨⟨z0, z1, z2, z3, z4⟩, f0, f1, f2, f3, f4⟩ := five (hk2.heap HR.out (by simp)); have HR2 := Hid.mk (hk2.heap HR.out (by simp))))
    have s5 := set5 (.int .i64 0) (.int .i64 0) (.int .i64 0) (.bool false) (.slice none 0 0) HR2.out
    refine bodyPost_ret (v := .tuple #[frv 0 0 0 false none 0 0, .int .i64 61]) ?_ rfl ⟨fun h => absurd h (by decide), fun _ => ⟨rfl, ?_⟩⟩
    · exact results_two rfl _ _ (w.heap.size + 1) 42 _ (0, 0) _ _ rfl s5.1 Tryz.underlying42 Tryz.info42 rfl
    · exact hk02.out.step s5.2 (fun x hx => by simp at hx; subst hx; exact .inr (by omega))

end Go.Proofs.YthhegomjipbdbaaGreatDoor.Tl

namespace Go.Proofs.YthhegomjipbdbaaGreatDoor.Tl
open Go.RowKit

/-- A rectangle lies in w by h samples. -/
def lie (X Y W H w h : Int) : Bool := decide (1 ≤ W ∧ 1 ≤ H ∧ 0 ≤ X ∧ 0 ≤ Y ∧ X + W ≤ w ∧ Y + H ≤ h)

set_option maxHeartbeats 4000000 in
set_option maxRecDepth 1000000 in
theorem lies_any (X Y W H wd ht : Int) (w : World) (hX : -9223372036854775808 ≤ X ∧ X ≤ 9223372036854775807) (hY : -9223372036854775808 ≤ Y ∧ Y ≤ 9223372036854775807) (hw : 1 ≤ wd ∧ wd ≤ 4096) (hh : 1 ≤ ht ∧ ht ≤ 4096) :
    Calls Tryz.prog 162 #[rcv X Y W H, .int .i64 wd, .int .i64 ht] w fun e w' => e = .returned (.bool (lie X Y W H wd ht)) ∧ Kept [] w w' := by
  unfold lie
  by_cases k0 : W < 1
  · skip
    go_enter Tryz.func162, Tryz.ntmps162
    go_wp2
    go_ret
    exact ⟨ret_bool (by first | exact (decide_eq_false (by omega)).symm | (simp only [Bool.and_eq_true, decide_eq_true_eq]; omega) | (simp; omega)), (Kept.refl _ _).alloc _⟩
  · skip
    by_cases k1 : H < 1
    · skip
      go_enter Tryz.func162, Tryz.ntmps162
      go_wp2
      go_ret
      exact ⟨ret_bool (by first | exact (decide_eq_false (by omega)).symm | (simp only [Bool.and_eq_true, decide_eq_true_eq]; omega) | (simp; omega)), (Kept.refl _ _).alloc _⟩
    · skip
      by_cases k2 : X < 0
      · skip
        go_enter Tryz.func162, Tryz.ntmps162
        go_wp2
        go_ret
        exact ⟨ret_bool (by first | exact (decide_eq_false (by omega)).symm | (simp only [Bool.and_eq_true, decide_eq_true_eq]; omega) | (simp; omega)), (Kept.refl _ _).alloc _⟩
      · skip
        by_cases k3 : Y < 0
        · skip
          go_enter Tryz.func162, Tryz.ntmps162
          go_wp2
          go_ret
          exact ⟨ret_bool (by first | exact (decide_eq_false (by omega)).symm | (simp only [Bool.and_eq_true, decide_eq_true_eq]; omega) | (simp; omega)), (Kept.refl _ _).alloc _⟩
        · skip
          by_cases k4 : X < wd
          · skip
            by_cases k5 : W ≤ wd - X
            · skip
              by_cases k6 : Y < ht
              · skip
                by_cases k7 : H ≤ ht - Y
                · skip
                  go_enter Tryz.func162, Tryz.ntmps162
                  go_wp2
                  go_ret
                  exact ⟨ret_bool (by first | exact (decide_eq_true (by omega)).symm | (simp only [Bool.and_eq_true, decide_eq_true_eq]; omega) | (simp; omega)), (Kept.refl _ _).alloc _⟩
                · skip
                  go_enter Tryz.func162, Tryz.ntmps162
                  go_wp2
                  go_ret
                  exact ⟨ret_bool (by first | exact (decide_eq_false (by omega)).symm | (simp only [Bool.and_eq_true, decide_eq_true_eq]; omega) | (simp; omega)), (Kept.refl _ _).alloc _⟩
              · skip
                go_enter Tryz.func162, Tryz.ntmps162
                go_wp2
                go_ret
                exact ⟨ret_bool (by first | exact (decide_eq_false (by omega)).symm | (simp only [Bool.and_eq_true, decide_eq_true_eq]; omega) | (simp; omega)), (Kept.refl _ _).alloc _⟩
            · skip
              go_enter Tryz.func162, Tryz.ntmps162
              go_wp2
              go_ret
              exact ⟨ret_bool (by first | exact (decide_eq_false (by omega)).symm | (simp only [Bool.and_eq_true, decide_eq_true_eq]; omega) | (simp; omega)), (Kept.refl _ _).alloc _⟩
          · skip
            go_enter Tryz.func162, Tryz.ntmps162
            go_wp2
            go_ret
            exact ⟨ret_bool (by first | exact (decide_eq_false (by omega)).symm | (simp only [Bool.and_eq_true, decide_eq_true_eq]; omega) | (simp; omega)), (Kept.refl _ _).alloc _⟩
end Go.Proofs.YthhegomjipbdbaaGreatDoor.Tl
