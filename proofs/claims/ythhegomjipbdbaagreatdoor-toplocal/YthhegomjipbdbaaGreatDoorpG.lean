import Derived.Test.YthhegomjipbdbaaGreatDoorpEZ
import Derived.Test.YthhegomjipbdbaaGreatDoortT5Z
import Derived.Laws.OwnMore
namespace Go.Proofs.YthhegomjipbdbaaGreatDoor.Pc
open Go.RowKit

theorem fl_add (f : Nat → Value) (a b : Nat) : Tl.fl f (a + b) = Tl.fl f a ++ Tl.fl (fun j => f (a + j)) b := by
  unfold Tl.fl
  rw [List.range_add, List.map_append, List.map_map]
  rfl
/-- A sample of a part. -/
def bsm (f : Nat → Nat) (X Y bw wd : Nat) (i : Nat) : Nat := f ((Y + i / bw) * wd + X + i % bw)
theorem bsm_row {f : Nat → Nat} {X Y bw wd t j : Nat} (hj : j < bw) : bsm f X Y bw wd (t * bw + j) = f ((Y + t) * wd + X + j) := by
  unfold bsm
  have h0 : 0 < bw := by omega
  rw [Nat.mul_comm t bw, Nat.mul_add_div h0, Nat.mul_add_mod, Nat.div_eq_of_lt hj, Nat.mod_eq_of_lt hj, Nat.add_zero]
theorem make_none (r : Nat) (m : Int) (hm : m = (r : Int)) (hr : r ≤ 1000000000) : ∃ mkW : World → World, (∀ w, Sem.run Tryz.prog (Instr.makeSlice 94 (.int .i64 0) (.int .i64 m)) w = .ok (.slice (some ⟨w.heap.size, 0, none⟩) 0 r) (mkW w)) ∧ ∀ w, (mkW w).ownsRow w.heap.size 93 1 (.slice (some ⟨w.heap.size, 0, none⟩) 0 r) 0 [] ∧ Kept [] w (mkW w) := by
  subst hm
  obtain ⟨j0, gi, gz0, gz1, gz2⟩ := info_parts Tl.Tryz.info93
  have h : ∀ w : World, ∃ w', Sem.run Tryz.prog (Instr.makeSlice 94 (.int .i64 0) (.int .i64 (r : Int))) w = .ok (.slice (some ⟨w.heap.size, 0, none⟩) 0 r) w' ∧ w'.ownsRow w.heap.size 93 1 (.slice (some ⟨w.heap.size, 0, none⟩) 0 r) 0 [] ∧ Kept [] w w' := fun w => by
    obtain ⟨w', hrun, r1, r2⟩ := run_make_own (P := Tryz.prog) w w.heap.size 94 93 j0 (.int .u16 0) 1 Tryz.underlying94 gi gz0 gz1 .i64 .i64 r (by rw [gz2]; omega) (by unfold maxLen; omega) (Nat.le_refl _)
    exact ⟨w', hrun, r1, (Kept.of_grown r2).mono (by simp)⟩
  obtain ⟨mkW, hm⟩ := Classical.axiomOfChoice h
  exact ⟨mkW, fun w => (hm w).1, fun w => (hm w).2⟩

theorem w64_nat {a : Nat} (h : a ≤ 100000000) : wrap64 (a : Int) = a := Tl.w64_in (by omega) (by omega)
theorem w64_add {a b c : Nat} (h : a + b = c) (hc : c ≤ 100000000) : wrap64 ((a : Int) + (b : Int)) = (c : Int) := by rw [← Int.natCast_add, h]; exact w64_nat hc
theorem w64_mul {a b c : Nat} (h : a * b = c) (hc : c ≤ 100000000) : wrap64 ((a : Int) * (b : Int)) = (c : Int) := by rw [← Int.natCast_mul, h]; exact w64_nat hc
theorem wi_add {a b c : Nat} (h : a + b = c) (hc : c ≤ 100000000) : IntKind.i64.wrap ((a : Int) + (b : Int)) = (c : Int) := by rw [← Int.natCast_add, h]; exact Tl.wrap_i (by omega) (by omega)
theorem meas_y {Y bh yv t : Nat} (h1 : Y + t = yv) (h2 : t + 1 ≤ bh) : Y + bh - (yv + 1) < Y + bh - yv := by omega
theorem row_in {yv wd X bw M ht : Nat} (h : yv + 1 ≤ ht) (hx : X + bw ≤ wd) (hM : wd * ht = M) : yv * wd + X + bw ≤ M := by
  have h3 : (yv + 1) * wd ≤ ht * wd := Nat.mul_le_mul_right _ h
  rw [Nat.add_mul, Nat.mul_comm ht wd, hM] at h3
  omega
theorem own_base {w : World} {B B' e n : Nat} {v : Value} {xs : List Value} (h : w.ownsRow B e 1 v n xs) (hb : B' ≤ B) : w.ownsRow B' e 1 v n xs := by
  refine ⟨h.1, ?_⟩
  rcases h.2 with hn | ⟨g, cap, cur, e1, e2, rest⟩
  · exact .inl hn
  · exact .inr ⟨g, cap, cur, e1, Nat.le_trans hb e2, rest⟩
theorem own_block {w : World} {B e n c g o : Nat} {xs : List Value} (h : w.ownsRow B e 1 (.slice (some ⟨g, o, none⟩) n c) n xs) : B ≤ g ∧ ∃ cs, w.heap[g]? = some (.cells cs e (0, 0)) := by
  rcases h.2 with ⟨hn, _⟩ | ⟨g', cap, cur, e1, e2, e3, _⟩
  · cases hn
  · cases e1
    exact ⟨e2, _, e3⟩
theorem wp_app_eq {o : Oper} {a : Act} {w w' : World} {K : Act → World → Prop} {Q : Exit → Act → World → Prop} (s x : Operand) (t : TypeId) (ho : o.op = .call { callee := .builtin .append, args := #[s, x], argTypes := #[t, t] }) (v U V' : Value) (hs : a.eval s = v) (hx : a.eval x = U)
    (hr : Sem.run Tryz.prog (Builtin.append_ #[t, t] o.type #[v, U]) w = .ok V' w') (h : K (a.put o.dst V') w') : o.wp Tryz.prog a w K Q := by
  unfold Oper.wp execOp
  simp only [ho, resolve, invoke, builtin, Sem.run_bind, Sem.run_pure, Result.andThen_ok, List.map_toArray, List.map_cons, List.map_nil, hs, hx, hr]
  exact h
theorem own_some {w : World} {base e n : Nat} {v : Value} {xs : List Value} (h : w.ownsRow base e 1 v n xs) (hn : 0 < n) : ∃ g cap, v = .slice (some ⟨g, 0, none⟩) n cap := by
  rcases h.2 with ⟨_, h0⟩ | ⟨g, cap, cur, h1, _⟩
  · omega
  · exact ⟨g, cap, h1⟩
theorem app_u16 (u : World) (B n c g : Nat) (xs : List Value) (ho : u.ownsRow B 93 1 (.slice (some ⟨g, 0, none⟩) n c) n xs) (hB : B ≤ u.heap.size) (pb o m k : Nat) (f : Nat → Nat) (hr : ∀ j, j < m → u.cell? ⟨pb, o + j, none⟩ = some (.int .u16 (f j : Int))) (hn : n + m ≤ 100000000) (hm : 1 ≤ m) :
    ∃ g' c' u', Sem.run Tryz.prog (Builtin.append_ #[94, 94] 94 #[.slice (some ⟨g, 0, none⟩) n c, .slice (some ⟨pb, o, none⟩) m k]) u = .ok (.slice (some ⟨g', 0, none⟩) (n + m) c') u' ∧ u'.ownsRow B 93 1 (.slice (some ⟨g', 0, none⟩) (n + m) c') (n + m) (xs ++ Tl.fl (Tl.vU f) m) ∧ Kept [g] u u' := by
  obtain ⟨j0, gi, gz0, gz1, gz2⟩ := info_parts Tl.Tryz.info93
  obtain ⟨v', u', h1, h2, h3, _, h5⟩ := run_append_own_at (P := Tryz.prog) u B 94 94 93 j0 (.int .u16 0) 1 2 Tryz.underlying94 gi gz0 gz1 gz2 rfl (by decide) _ n xs ho ⟨pb, o, none⟩ m k (Tl.fl (Tl.vU f) m) (by rw [Tl.fl_length]; omega) (fun j v hj => by
    by_cases hjm : j < m
    · rw [Tl.fl_at _ _ _ hjm] at hj
      cases hj
      have := hr j hjm
      by_cases j0 : j = 0
      · subst j0; simpa [Addr.add, Tl.vU] using this
      · simpa [Addr.add, j0, Tl.vU] using this
    · rw [List.getElem?_eq_none (by rw [Tl.fl_length]; omega)] at hj; cases hj) (fun v hv => by
    simp only [Tl.fl, List.mem_map] at hv
    obtain ⟨j, _, rfl⟩ := hv
    rfl) (by unfold maxLen; omega) (by omega) hB
  obtain ⟨g', c', rfl⟩ := own_some h2 (by omega)
  exact ⟨g', c', u', h1, h2, (Kept.of_grown h3).mono (by simp [Value.ownBlock])⟩

/-- Planes that are read, with their room. -/
def Plc (w : World) (po : Option Addr) (n : Nat) (ln : Nat → Nat) (F : Nat → Nat → Nat) : Prop := n = 0 ∨ ∃ g off, po = some ⟨g, off, none⟩ ∧ ∀ i, i < n → ∃ bo c, w.cell? ⟨g, off + i, none⟩ = some (.slice bo (ln i) c) ∧ ln i ≤ c ∧ Tl.Rd w bo (ln i) (F i)
theorem Plc.pl {w : World} {po : Option Addr} {n : Nat} {ln : Nat → Nat} {F : Nat → Nat → Nat} (h : Plc w po n ln F) : Tl.Pl w po n ln F := by
  rcases h with h | ⟨g, off, e, hc⟩
  · exact .inl h
  · exact .inr ⟨g, off, e, fun i hi => by obtain ⟨bo, c, h1, _, h3⟩ := hc i hi; exact ⟨bo, c, h1, h3⟩⟩
theorem Plc.keep {w w' : World} {po : Option Addr} {n : Nat} {ln : Nat → Nat} {F : Nat → Nat → Nat} (h : Plc w po n ln F) (hk : Kept [] w w') : Plc w' po n ln F := by
  rcases h with h | ⟨g, off, e, hc⟩
  · exact .inl h
  · exact .inr ⟨g, off, e, fun i hi => by obtain ⟨bo, c, h1, h2, h3⟩ := hc i hi; exact ⟨bo, c, Tl.cell_keep hk h1 (by simp), h2, h3.keep hk⟩⟩
theorem Plc.at {w : World} {po : Option Addr} {n : Nat} {ln : Nat → Nat} {F : Nat → Nat → Nat} (h : Plc w po n ln F) {i : Nat} (hi : i < n) (h1 : 1 ≤ ln i) : ∃ g off pb pofs c, po = some ⟨g, off, none⟩ ∧ w.cell? ⟨g, off + i, none⟩ = some (.slice (some ⟨pb, pofs, none⟩) (ln i) c) ∧ ln i ≤ c ∧ ∀ j, j < ln i → w.cell? ⟨pb, pofs + j, none⟩ = some (.int .u16 (F i j : Int)) := by
  rcases h with h | ⟨g, off, e, hc⟩
  · omega
  · obtain ⟨bo, c, h2, h3, h4⟩ := hc i hi
    rcases h4 with h4 | ⟨pb, pofs, rfl, h5⟩
    · omega
    · exact ⟨g, off, pb, pofs, c, e, h2, h3, h5⟩

theorem Tryz.infoB : (Tryz.prog.info? 132).map (·.size) = some 3 := by kernel_rfl
/-- The part of a plane, in memory of its own. -/
def BlkPost (w : World) (X Y bw bh wd : Nat) (f : Nat → Nat) (e : Ending) (w' : World) : Prop :=
  ∃ g c, e = .returned (.agg #[.int .i64 (bw : Int), .int .i64 (bh : Int), .slice (some ⟨g, 0, none⟩) (bh * bw) c]) ∧ w.heap.size ≤ g ∧ (∀ i, i < bh * bw → w'.cell? ⟨g, i, none⟩ = some (.int .u16 (bsm f X Y bw wd i : Int))) ∧ Kept [] w w'

set_option maxHeartbeats 8000000 in
set_option maxRecDepth 1000000 in
theorem block_any (W H D : Int) (A : Bool) (po : Option Addr) (m d : Nat) (sw sh : Int) (lo : Option Addr) (n c : Nat) (cap p : Int) (G : Nat) (k : Int) (q : Nat) (X Y bw bh wd ht : Nat) (ln : Nat → Nat) (F : Nat → Nat → Nat) (w : World)
    (hP : Plc w po m ln F) (hq : q < m) (hl : ln q = wd * ht) (hx : X + bw ≤ wd) (hy : Y + bh ≤ ht) (b1 : 1 ≤ bw) (b2 : 1 ≤ bh) (w1 : wd ≤ 4096) (h1 : ht ≤ 4096)
    (HC1 : ∀ u, Kept [] w u → Calls Tryz.prog 76 #[.pointer (some ⟨G, 0, none⟩), .int .i64 k, .int .i64 (q : Int)] u fun e w' => e = .returned (.tuple #[Tl.rcv (X : Int) (Y : Int) (bw : Int) (bh : Int), .int .i64 0]) ∧ Kept [] u w')
    (HC2 : ∀ u, Calls Tryz.prog 93 #[Tl.shv W H D A, .int .i64 (q : Int)] u fun e w' => e = .returned (.tuple #[.int .i64 (wd : Int), .int .i64 (ht : Int), .int .i64 0]) ∧ Kept [] u w') :
    Calls Tryz.prog 70 #[jbv W H D A po m d sw sh lo n c cap p (some ⟨G, 0, none⟩), .int .i64 k, .int .i64 (q : Int)] w fun e w' => BlkPost w X Y bw bh wd (F q) e w' := by
  obtain ⟨w2, e2⟩ : ∃ w2, w.alloc (.cells #[.int .i64 W, .int .i64 H, .int .i64 D, .bool A, .slice po m d, .int .i64 sw, .int .i64 sh, .slice lo n c, .int .i64 cap, .int .i64 p, .pointer (some ⟨G, 0, none⟩)] 97 (0, 0)) = w2 := ⟨_, rfl⟩
  obtain ⟨w3, e3⟩ : ∃ w3, w2.alloc (.cells #[.int .i64 0, .int .i64 0, .slice none 0 0] 132 (0, 0)) = w3 := ⟨_, rfl⟩
  obtain ⟨B, eB⟩ : ∃ B, w.heap.size = B := ⟨_, rfl⟩
  have z1 : w2.heap.size = B + 1 := by rw [← e2, ← eB]; exact Array.size_push _
  have k1 : Kept [] w w2 := by rw [← e2]; exact (Kept.refl [] w).alloc _
  have k2 : Kept [] w2 w3 := by rw [← e3]; exact (Kept.refl [] w2).alloc _
  have HJ : w3.heap[B]? = some (.cells #[.int .i64 W, .int .i64 H, .int .i64 D, .bool A, .slice po m d, .int .i64 sw, .int .i64 sh, .slice lo n c, .int .i64 cap, .int .i64 p, .pointer (some ⟨G, 0, none⟩)] 97 (0, 0)) := k2.heap (by rw [← e2, ← eB]; exact heap_alloc_new _ _) (by simp)
  have HR := Hid.mk (show w3.heap[B + 1]? = some (.cells #[.int .i64 0, .int .i64 0, .slice none 0 0] 132 (0, 0)) by rw [← e3, ← z1]; exact heap_alloc_new _ _)
  have K3 := Hid.mk (k1.trans k2)
  have HP := Hid.mk (hP.keep K3.out)
  have C1 := Hid.mk (HC1 _ K3.out)
  have C2 := Hid.mk HC2
  obtain ⟨j0, j1, j2, j3, j4, j5, j6, j7, j8, j9, j10⟩ := cel11 HJ
  have HJ := Hid.mk HJ
  have HB := Hid.mk eB
  clear hP k1 k2 HC1 HC2
  go_enter Tryz.func70, Tryz.ntmps70
  go_wp2_with (fail)
  clear e2 e3 z1 eB
  refine C1.out.mono ?_
  rintro e w4 ⟨rfl, K4⟩
  have K4 := Hid.mk K4
  clear j0 j1 j2 j3 j4 j5 j6 j7 j8 j9 j10 C1
  obtain ⟨w5, e5⟩ : ∃ w5, w4.alloc (.cells #[.int .i64 (X : Int), .int .i64 (Y : Int), .int .i64 (bw : Int), .int .i64 (bh : Int)] 54 (0, 0)) = w5 := ⟨_, rfl⟩
  obtain ⟨R, eR⟩ : ∃ R, w4.heap.size = R := ⟨_, rfl⟩
  have k5 : Kept [] w4 w5 := by rw [← e5]; exact (Kept.refl [] w4).alloc _
  have HS : Hid (w5.heap[R]? = some (.cells #[.int .i64 (X : Int), .int .i64 (Y : Int), .int .i64 (bw : Int), .int .i64 (bh : Int)] 54 (0, 0))) := Hid.mk (by rw [← e5, ← eR]; exact heap_alloc_new _ _)
  have K5 := Hid.mk (K4.out.trans k5)
  obtain ⟨j0, j1, j2, j3, j4, j5, j6, j7, j8, j9, j10⟩ := cel11 (K5.out.heap HJ.out (by simp))
  have ER := Hid.mk eR
  clear k5
  go_wp2_with (fail)
  clear e5 eR
  refine (C2.out _).mono ?_
  rintro e w6 ⟨rfl, K6⟩
  have K6 := Hid.mk (K5.out.trans K6)
  replace HS := Hid.mk (‹Kept [] w5 w6›.heap HS.out (by simp))
  clear j0 j1 j2 j3 j4 j5 j6 j7 j8 j9 j10 C2 K4 K5
  obtain ⟨r0, r1, r2, r3⟩ := cel4 HS.out
  have hm1 : IntKind.i64.wrap ((bw : Int) * (bh : Int)) = ((bh * bw : Nat) : Int) := by
    have h2 : bh * bw ≤ 4096 * 4096 := Nat.mul_le_mul (by omega) (by omega)
    rw [← Int.natCast_mul, Nat.mul_comm bw bh]
    exact Tl.wrap_i (by omega) (by omega)
  have hNN : bh * bw ≤ 16777216 := Nat.mul_le_mul (show bh ≤ 4096 by omega) (show bw ≤ 4096 by omega)
  obtain ⟨N, eN⟩ : ∃ N, bh * bw = N := ⟨_, rfl⟩
  rw [eN] at hm1
  obtain ⟨mkW, mk1, mk2⟩ := make_none N (N : Int) rfl (by omega)
  have M2 := Hid.mk mk2
  have EN := Hid.mk eN
  have RK : Hid (∀ u, Kept [] w6 u → u.cell? ⟨R, 2, none⟩ = some (.int .i64 (bw : Int)) ∧ u.cell? ⟨R, 3, none⟩ = some (.int .i64 (bh : Int))) := Hid.mk (fun u h => ⟨Tl.cell_keep h r2 (by simp), Tl.cell_keep h r3 (by simp)⟩)
  obtain ⟨ub, eub⟩ : ∃ ub, ub = (w6.alloc (.cells #[.int .i64 0, .int .i64 0, .slice none 0 0] 132 (0, 0))).drew := ⟨_, rfl⟩
  have hub : ub.heap[w6.heap.size]? = some (.cells #[.int .i64 0, .int .i64 0, .slice none 0 0] 132 (0, 0)) := by rw [eub]; exact heap_alloc_new w6 _
  have kub : Kept [] w6 ub := by rw [eub]; exact ((Kept.refl [] w6).alloc _).drew
  have hub2 := (mk2 ub).2.heap hub (by simp)
  have y0 := cellAt (i := 0) hub2 rfl
  have y1 := cellAt (i := 1) hub2 rfl
  have y2 := cellAt (i := 2) hub2 rfl
  have yz := row_fz hub2
  have HU := Hid.mk hub2
  have KU := Hid.mk (kub.trans (mk2 ub).2)
  have OU := Hid.mk (mk2 ub).1
  have SU : Hid (ub.heap.size = w6.heap.size + 1) := Hid.mk (by rw [eub]; exact Array.size_push _)
  have EU := Hid.mk eub
  rw [eub] at y0 y1 y2 yz
  clear mk2 eN hNN hub2 kub hub eub
  go_wp2_with (fail)
  go_cut [12] (fun s wc => ∃ Q g : Nat, s = .pointer (some ⟨Q, 0, none⟩) ∧ Hid (w6.heap.size ≤ Q ∧ w6.heap.size ≤ g ∧ Q ≠ g ∧ wc.heap[Q]? = some (.cells #[.int .i64 (bw : Int), .int .i64 (bh : Int), .slice (some ⟨g, 0, none⟩) 0 N] 132 (0, 0)) ∧ wc.ownsRow w6.heap.size 93 1 (.slice (some ⟨g, 0, none⟩) 0 N) 0 [] ∧ Kept [] w6 wc))
  case first =>
    go_region_held_law (fun u => u.cell? ⟨R, 2, none⟩ = some (.int .i64 (bw : Int)) ∧ u.cell? ⟨R, 3, none⟩ = some (.int .i64 (bh : Int))) (first | exact ⟨r2, r3⟩ | (refine RK.out _ ?_; repeat' (first | exact Kept.refl _ _ | refine Kept.drew ?_ | refine Kept.alloc ?_ _ | refine Kept.trans ?_ (M2.out _).2 | refine Kept.setCell ?_ (.inr (Nat.le_refl _)) _))) (fail)
    all_goals go_wp2
    all_goals go_meet
    · obtain ⟨o1, o2⟩ := M2.out w6.drew
      obtain ⟨_, cs, hcs⟩ := own_block o1
      have k7 : Kept [] w6 (mkW w6.drew) := ((Kept.refl [] w6).drew).trans o2
      exact ⟨_, _, rfl, Hid.mk ⟨k7.size, Nat.le_refl _, Nat.ne_of_gt (lt_of_block hcs), heap_alloc_new _ _, ((Kept.refl [] _).alloc _).row o1 (by simp), k7.alloc _⟩⟩
    · have S7 := setAll_row [.int .i64 (bw : Int), .int .i64 (bh : Int), .slice (some ⟨w6.heap.size + 1, 0, none⟩) 0 N] 0 _ [] _ HU.out rfl rfl
      simp only [setAll, EU.out, List.nil_append, Nat.zero_add] at S7
      have o1 := OU.out
      have k1 := KU.out
      rw [SU.out, EU.out] at o1
      rw [EU.out] at k1
      exact ⟨_, _, rfl, Hid.mk ⟨Nat.le_refl _, Nat.le_succ _, by omega, S7.1, own_base (S7.2.row o1 (by intro x hx; simp [Value.ownBlock] at hx; subst hx; simp)) (Nat.le_succ _), k1.step S7.2 (by intro x hx; simp at hx; subst hx; exact .inr (Nat.le_refl _))⟩⟩
  case rest =>
    obtain ⟨Q, g, rfl, HQ⟩ := hcut
    clear y0 y1 y2 yz mk1 M2 OU KU HU SU EU r0 r1 r2 r3 RK hm1
    have hM1 : 1 ≤ ln q := by rw [hl]; exact Nat.mul_pos (by omega) (by omega)
    obtain ⟨gp, offp, pb, pofs, cq, rfl, hcell, hcap, hrd⟩ := (HP.out.keep K6.out).at hq hM1
    rw [hl] at hcell hcap hrd
    obtain ⟨M, eM⟩ : ∃ M, wd * ht = M := ⟨_, rfl⟩
    rw [eM] at hcell hcap hrd
    have EM := Hid.mk eM
    have HRD := Hid.mk hrd
    have HCL := Hid.mk hcell
    obtain ⟨S0, eS0⟩ : ∃ S0, w6.heap.size = S0 := ⟨_, rfl⟩
    have ES := Hid.mk eS0
    rw [eS0] at HQ
    have HRK : Hid (∀ u, Kept [] w6 u → (u.cell? ⟨R, 0, none⟩ = some (.int .i64 (X : Int)) ∧ u.cell? ⟨R, 1, none⟩ = some (.int .i64 (Y : Int)) ∧ u.cell? ⟨R, 2, none⟩ = some (.int .i64 (bw : Int)) ∧ u.cell? ⟨R, 3, none⟩ = some (.int .i64 (bh : Int))) ∧ u.cell? ⟨B, 4, none⟩ = some (.slice (some ⟨gp, offp, none⟩) m d) ∧ u.cell? ⟨gp, offp + q, none⟩ = some (.slice (some ⟨pb, pofs, none⟩) M cq)) := Hid.mk (fun u h => ⟨cel4 (h.heap HS.out (by simp)), cellAt (i := 4) ((K6.out.trans h).heap HJ.out (by simp)) rfl, Tl.cell_keep h HCL.out (by simp)⟩)
    clear hcell hrd eM eS0 hM1 hl
    obtain ⟨⟨r0, r1, r2, r3⟩, j4, p0⟩ := HRK.out wc HQ.out.2.2.2.2.2
    go_wp2
    clear r0 r1 r2 r3 j4 p0
    go_loopw [13] (fun y wr => ∃ t g c, t ≤ bh ∧ y = .int .i64 ((Y + t : Nat) : Int) ∧ Hid (S0 ≤ Q ∧ wr.heap[Q]? = some (.cells #[.int .i64 (bw : Int), .int .i64 (bh : Int), .slice (some ⟨g, 0, none⟩) (t * bw) c] 132 (0, 0)) ∧ wr.ownsRow S0 93 1 (.slice (some ⟨g, 0, none⟩) (t * bw) c) (t * bw) (Tl.fl (Tl.vU (bsm (F q) X Y bw wd)) (t * bw)) ∧ Kept [] w6 wr)) (fun y _ => Y + bh - (intOf y).toNat)
    case atStart => exact ⟨0, g, N, Nat.zero_le _, rfl, Hid.mk ⟨HQ.out.1, by rw [Nat.zero_mul]; exact HQ.out.2.2.2.1, by rw [Nat.zero_mul]; exact HQ.out.2.2.2.2.1, HQ.out.2.2.2.2.2⟩⟩
    case round =>
      obtain ⟨t, g1, c1, ht1, rfl, HI⟩ := hrel
      obtain ⟨⟨r0, r1, r2, r3⟩, j4, p0⟩ := HRK.out wr HI.out.2.2.2
      obtain ⟨yv, eyv⟩ : ∃ yv, Y + t = yv := ⟨_, rfl⟩
      obtain ⟨ye, eye⟩ : ∃ ye, Y + bh = ye := ⟨_, rfl⟩
      rw [eyv]
      have EY := Hid.mk eyv
      have HYE : Hid (ye ≤ 4096) := Hid.mk (by omega)
      by_cases htb : t < bh
      · have hlt : (yv : Int) < (ye : Int) := by omega
        have hPb := Hid.mk (row_in (yv := yv) (show yv + 1 ≤ ht by omega) hx EM.out)
        have hM9 : Hid (M ≤ 16777216) := Hid.mk (by rw [← EM.out]; exact Nat.mul_le_mul w1 h1)
        obtain ⟨P, eP⟩ : ∃ P, yv * wd = P := ⟨_, rfl⟩
        obtain ⟨T, eT⟩ : ∃ T, P + X = T := ⟨_, rfl⟩
        obtain ⟨T2, eT2⟩ : ∃ T2, T + bw = T2 := ⟨_, rfl⟩
        rw [eP, eT, eT2] at hPb
        have i1 : (T : Int) ≤ (T2 : Int) := by omega
        have i2 : (T2 : Int) ≤ (cq : Int) := by have := hPb.out; omega
        have i0 : (0 : Int) ≤ (T : Int) := by omega
        have i3 : (q : Int) < (m : Int) := by omega
        have HTB0 : Hid (t + 1 ≤ bh) := Hid.mk htb
        have HYB : Hid (yv + 1 ≤ 100000000) := Hid.mk (by have := HYE.out; omega)
        have hcT : ¬ cq = T := by have := hPb.out; omega
        have HTJ : Hid (∀ j, j < bw → T + j < M) := Hid.mk (fun j hj => by have := hPb.out; omega)
        have HSZ : Hid (S0 ≤ wr.heap.size) := Hid.mk (by have := HI.out.2.2.2.size; have := ES.out; omega)
        have HGQ : Hid (S0 ≤ Q ∧ S0 ≤ g1 ∧ g1 ≠ Q) := Hid.mk ⟨HI.out.1, (own_block HI.out.2.2.1).1, by
          obtain ⟨_, cs, hcs⟩ := own_block HI.out.2.2.1
          rintro rfl
          rw [HI.out.2.1] at hcs
          cases hcs⟩
        have hd : T2 - T = bw := by omega
        have HBW : Hid (1 ≤ bw ∧ t * bw + bw ≤ 100000000) := Hid.mk ⟨b1, by
          have h9 : (t + 1) * bw ≤ 4096 * 4096 := Nat.mul_le_mul (by omega) (by omega)
          rw [Nat.add_mul] at h9; omega⟩
        have q1 : Hid (P ≤ 100000000 ∧ T ≤ 100000000 ∧ T2 ≤ 100000000 ∧ ye ≤ 100000000) := Hid.mk (by have := hPb.out; have := hM9.out; have := HYE.out; omega)
        have hadd := w64_add eye q1.out.2.2.2
        have hmul := w64_mul eP q1.out.1
        have hat := w64_add eT q1.out.2.1
        have hat2 := wi_add eT2 q1.out.2.2.1
        have ETT : Hid (P + X = T ∧ T + bw = T2 ∧ yv * wd = P) := Hid.mk ⟨eT, eT2, eP⟩
        clear eP eyv eye eT eT2 hx hy b1 b2 w1 h1 hq hcap htb ht1
        go_wp2
        have b2c := cellAt (i := 2) HI.out.2.1 rfl
        refine wp_region_held_drew (S := fun u => (u.cell? ⟨R, 2, none⟩ = some (.int .i64 (bw : Int)) ∧ u.cell? ⟨B, 4, none⟩ = some (.slice (some ⟨gp, offp, none⟩) m d)) ∧ u.cell? ⟨gp, offp + q, none⟩ = some (.slice (some ⟨pb, pofs, none⟩) M cq)) (by kernel_rfl) ⟨⟨r2, j4⟩, p0⟩ (fun hHeld => ?_)
        refine wpAnyH_take (i := 0) (oi := _) (v := ?_) rfl (by kernel_rfl) (by kernel_rfl) (by kernel_rfl) (fun _ _ _ h => h) (Or.inl ⟨by rfl, ?y0⟩) (by assumption) ?r0
        case y0 => (intro w hSw; (try dsimp only at hSw); go_simp; try with_reducible rfl)
        refine wpAnyH_take (i := 2) (oi := _) (v := ?_) rfl (by kernel_rfl) (by kernel_rfl) (by kernel_rfl) (fun _ _ _ h => h) (Or.inl ⟨by rfl, ?y2⟩) (by assumption) ?r2
        case y2 => (intro w hSw; (try dsimp only at hSw); go_simp; try with_reducible rfl)
        refine wpAnyH_take (i := 3) (oi := _) (v := ?_) rfl (by kernel_rfl) (by kernel_rfl) (by kernel_rfl) (fun _ _ _ h => h) (Or.inl ⟨by rfl, ?y3⟩) (by assumption) ?r3
        case y3 => (intro w hSw; (try dsimp only at hSw); go_simp; try with_reducible rfl)
        refine wpAnyH_take (i := 4) (oi := _) (v := ?_) rfl (by kernel_rfl) (by kernel_rfl) (by kernel_rfl) (fun _ _ _ h => h) (Or.inl ⟨by rfl, ?y4⟩) (by assumption) ?r4
        case y4 => (intro w hSw; (try dsimp only at hSw); go_simp; try with_reducible rfl)
        refine wpAnyH_take (i := 5) (oi := _) (v := ?_) rfl (by kernel_rfl) (by kernel_rfl) (by kernel_rfl) (fun _ _ _ h => h) (Or.inl ⟨by rfl, ?y5⟩) (by assumption) ?r5
        case y5 => (intro w hSw; (try dsimp only at hSw); go_simp; try with_reducible rfl)
        refine wpAnyH_take (i := 6) (oi := _) (v := ?_) rfl (by kernel_rfl) (by kernel_rfl) (by kernel_rfl) (fun _ _ _ h => h) (Or.inl ⟨by rfl, ?y6⟩) (by assumption) ?r6
        case y6 => (intro w hSw; (try dsimp only at hSw); go_simp; try with_reducible rfl)
        refine wpAnyH_take (i := 7) (oi := _) (v := ?_) rfl (by kernel_rfl) (by kernel_rfl) (by kernel_rfl) (fun _ _ _ h => h) (Or.inl ⟨by rfl, ?y7⟩) (by assumption) ?r7
        case y7 => (intro w hSw; (try dsimp only at hSw); go_simp; try with_reducible rfl)
        refine wpAnyH_take (i := 8) (oi := _) (v := ?_) rfl (by kernel_rfl) (by kernel_rfl) (by kernel_rfl) (fun _ _ _ h => h) (Or.inl ⟨by rfl, ?y8⟩) (by assumption) ?r8
        case y8 => (intro w hSw; (try dsimp only at hSw); go_simp; try with_reducible rfl)
        refine wpAnyH_take (i := 9) (oi := _) (v := ?_) rfl (by kernel_rfl) (by kernel_rfl) (by kernel_rfl) (fun _ _ _ h => h) (Or.inl ⟨by rfl, ?y9⟩) (by assumption) ?r9
        case y9 => (intro w hSw; (try dsimp only at hSw); go_simp; try with_reducible rfl)
        refine wpAnyH_take (i := 10) (oi := _) (v := ?_) rfl (by kernel_rfl) (by kernel_rfl) (by kernel_rfl) (fun _ _ _ h => h) (Or.inl ⟨by rfl, ?y10⟩) (by assumption) ?r10
        case y10 => (intro w hSw; (try dsimp only at hSw); go_simp; try with_reducible rfl)
        refine wpAnyH_take (i := 11) (oi := _) (v := ?_) rfl (by kernel_rfl) (by kernel_rfl) (by kernel_rfl) (fun _ _ _ h => h) (Or.inl ⟨by rfl, ?y11⟩) (by assumption) ?r11
        case y11 => (intro w hSw; (try dsimp only at hSw); go_simp; try with_reducible rfl)
        refine wpAnyH_take (i := 12) (oi := _) (v := ?_) rfl (by kernel_rfl) (by kernel_rfl) (by kernel_rfl) (fun _ _ _ h => h) (Or.inl ⟨by rfl, ?y12⟩) (by assumption) ?r12
        case y12 => (intro w hSw; (try dsimp only at hSw); go_simp; try with_reducible rfl)
        refine wpAnyH_take (i := 13) (oi := _) (v := ?_) rfl (by kernel_rfl) (by kernel_rfl) (by kernel_rfl) (fun _ _ _ h => h) (Or.inl ⟨by rfl, ?y13⟩) (by assumption) ?r13
        case y13 => (intro w hSw; (try dsimp only at hSw); go_simp; try with_reducible rfl)
        refine wpAnyH_ready (rs := [1]) (by kernel_rfl) (by simp) ?_
        refine AllReadyH.cons rfl (fun K hK => ?_) AllReadyH.nil
        go_simp
        refine hK.out _ _ ⟨⟨r2, j4⟩, p0⟩ (fun hHeld => ?_)
        clear hK K
        have hbs : ∀ j, j < bw → bsm (F q) X Y bw wd (t * bw + j) = F q (T + j) := fun j hj => by
          rw [bsm_row hj, EY.out]
          have h9 := ETT.out
          rw [h9.2.2, h9.1]
        obtain ⟨g2, c2, u2, ha2, ho2, k2⟩ := app_u16 wr.drew S0 (t * bw) c1 g1 _ (HI.out.2.2.1 : wr.drew.ownsRow _ _ _ _ _ _) HSZ.out pb (pofs + T) bw (cq - T) (fun j => bsm (F q) X Y bw wd (t * bw + j)) (fun j hj => by
          rw [hbs j hj, Nat.add_assoc]
          exact Tl.cell_keep HI.out.2.2.2 (HRD.out (T + j) (HTJ.out j hj)) (by simp)) HBW.out.2 HBW.out.1
        have HO2 := Hid.mk ho2
        have K2 := Hid.mk k2
        refine wpAnyH_ready (rs := [14]) (by kernel_rfl) (by simp) ?_
        refine AllReadyH.cons rfl (fun K hK => ?_) AllReadyH.nil
        rw [if_pos (by rfl)]
        refine wp_app_eq (.tmp 61) (.tmp 73) 94 rfl _ _ _ rfl rfl ha2 ?_
        have HK2 : Hid (Kept [] w6 u2) := Hid.mk ((HI.out.2.2.2.drew).step k2 (fun z hz => by simp at hz; subst hz; exact .inr (by rw [ES.out]; exact HGQ.out.2.1)))
        obtain ⟨⟨_, _, s2, _⟩, s4, sp⟩ := HRK.out u2 HK2.out
        refine hK.out _ _ ⟨⟨s2, s4⟩, sp⟩ (fun hHeld => ?_)
        clear hK K
        refine wpAnyH_take (i := 15) (oi := _) (v := ?_) rfl (by kernel_rfl) (by kernel_rfl) (by kernel_rfl) (fun _ _ _ h => h) (Or.inl ⟨by rfl, ?y15⟩) (by assumption) ?r15
        case y15 => (intro w hSw; (try dsimp only at hSw); go_simp; try with_reducible rfl)
        have hQ2 := k2.heap (show wr.drew.heap[Q]? = _ from HI.out.2.1) (by simpa using HGQ.out.2.2.symm)
        have S9 := setAll_row [.slice (some ⟨g2, 0, none⟩) (t * bw + bw) c2] 2 u2 [.int .i64 (bw : Int), .int .i64 (bh : Int)] [_] hQ2 rfl rfl
        simp only [setAll] at S9
        obtain ⟨w9, e9⟩ : ∃ w9, u2.setCell ⟨Q, 2, none⟩ (.slice (some ⟨g2, 0, none⟩) (t * bw + bw) c2) = w9 := ⟨_, rfl⟩
        rw [e9] at S9
        have x2 := cellAt (i := 2) hQ2 rfl
        have xz := row_fz hQ2
        have HK9 : Hid (Kept [] w6 w9) := Hid.mk (HK2.out.step S9.2 (fun z hz => by simp at hz; subst hz; exact .inr (by rw [ES.out]; exact HGQ.out.1)))
        have S9 := Hid.mk S9
        obtain ⟨⟨_, _, s2, _⟩, s4, sp⟩ := HRK.out w9 HK9.out
        refine wpAnyH_ready (rs := [16]) (by kernel_rfl) (by simp) ?_
        refine AllReadyH.cons rfl (fun K hK => ?_) AllReadyH.nil
        go_simp
        refine hK.out _ _ ⟨⟨s2, s4⟩, sp⟩ (fun hHeld => ?_)
        clear hK K
        refine wpAnyH_done (by kernel_rfl) ?_ _
        have HG2 : Hid (w9.ownsRow S0 93 1 (.slice (some ⟨g2, 0, none⟩) (t * bw + bw) c2) (t * bw + bw) (Tl.fl (Tl.vU (bsm (F q) X Y bw wd)) (t * bw + bw))) := Hid.mk (by
          refine S9.out.2.row ?_ ?_
          · rw [fl_add]
            exact HO2.out
          · intro z hz
            simp [Value.ownBlock] at hz
            subst hz
            obtain ⟨_, cs, hcs⟩ := own_block HO2.out
            intro hq
            simp at hq
            subst hq
            rw [hQ2] at hcs
            cases hcs)
        have HTB : Hid (t + 1 ≤ bh) := Hid.mk HTB0.out
        have HYV : Hid (yv + 1 = Y + (t + 1)) := Hid.mk (by rw [← EY.out]; rfl)
        have hy1 : wrap64 ((yv : Int) + 1) = ((yv + 1 : Nat) : Int) := w64_add (b := 1) rfl HYB.out
        clear r0 r1 r2 r3 j4 p0 s2 s4 sp hHeld hadd hmul hat hat2 x2 xz hbs ha2 ho2 k2 e9 hQ2 b2c i0 i1 i2 i3 hcT hd hlt
        go_wp2
        rw [hy1]
        clear hy1
        go_roundw
        case rel => exact ⟨t + 1, g2, c2, HTB.out, by rw [← HYV.out], Hid.mk ⟨HGQ.out.1, by rw [Nat.add_mul, Nat.one_mul]; exact S9.out.1, by rw [Nat.add_mul, Nat.one_mul]; exact HG2.out, HK9.out⟩⟩
        case measure => (simp only [intOf, Int.toNat_natCast]; exact meas_y EY.out HTB.out)
      · obtain rfl : bh = t := by omega
        have hlt : ¬ ((yv : Int) < (ye : Int)) := by omega
        have q1 : Hid (ye ≤ 100000000) := Hid.mk (Nat.le_trans HYE.out (by decide))
        have hadd := w64_add eye q1.out
        clear eye eyv hx hy b1 b2 w1 h1 hq hcap htb ht1
        obtain ⟨x0, x1, x2⟩ : wr.cell? ⟨Q, 0, none⟩ = some (.int .i64 (bw : Int)) ∧ wr.cell? ⟨Q, 1, none⟩ = some (.int .i64 (bh : Int)) ∧ wr.cell? ⟨Q, 2, none⟩ = some (.slice (some ⟨g1, 0, none⟩) (bh * bw) c1) := ⟨cellAt (i := 0) HI.out.2.1 rfl, cellAt (i := 1) HI.out.2.1 rfl, cellAt (i := 2) HI.out.2.1 rfl⟩
        have hR9 := (K6.out.trans HI.out.2.2.2).heap HR.out (by simp)
        have S9 := setAll_row [.int .i64 (bw : Int), .int .i64 (bh : Int), .slice (some ⟨g1, 0, none⟩) (bh * bw) c1] 0 wr [] _ hR9 rfl rfl
        simp only [setAll] at S9
        have S9 := Hid.mk S9
        have z0 := cellAt (i := 0) hR9 rfl
        have z1 := cellAt (i := 1) hR9 rfl
        have z2 := cellAt (i := 2) hR9 rfl
        have zz := row_fz hR9
        clear hR9 r0 r2 j4 p0
        go_wp2
        refine bodyPost_ret (v := .agg #[.int .i64 (bw : Int), .int .i64 (bh : Int), .slice (some ⟨g1, 0, none⟩) (bh * bw) c1]) ?_ rfl ?_
        · exact results_cell_row rfl _ _ (B + 1) 132 _ (0, 0) _ rfl S9.out.1 Tryz.underlying132 rfl Tryz.infoB
        · have kk := (K3.out.trans K6.out).trans HI.out.2.2.2
          refine ⟨g1, c1, rfl, ?_, fun i hi => ?_, ?_⟩
          · have h1 := (own_block HI.out.2.2.1).1
            have h2 := ES.out
            have h3 := (K3.out.trans K6.out).size
            omega
          · have h1 : (Tl.fl (Tl.vU (bsm (F q) X Y bw wd)) (bh * bw))[i]? = some (.int .u16 (bsm (F q) X Y bw wd i : Int)) := Tl.fl_at _ _ _ hi
            have h2 := HI.out.2.2.1.cells rfl i _ h1
            have h3 : wr.cell? ⟨g1, i, none⟩ = some (.int .u16 (bsm (F q) X Y bw wd i : Int)) := by
              by_cases i0 : i = 0
              · subst i0; simpa [Addr.add] using h2
              · simpa [Addr.add, i0] using h2
            refine Tl.cell_keep S9.out.2 h3 ?_
            intro h4
            simp at h4
            have h5 := (own_block HI.out.2.2.1).1
            have h6 := ES.out
            have h7 := K6.out.size
            have h8 := lt_of_block HR.out
            omega
          · exact kk.step S9.out.2 (fun z hz => by simp at hz; subst hz; exact .inr (by have := HB.out; omega))
end Go.Proofs.YthhegomjipbdbaaGreatDoor.Pc
