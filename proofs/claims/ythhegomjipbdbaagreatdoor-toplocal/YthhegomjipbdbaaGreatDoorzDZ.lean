import Derived.Test.YthhegomjipbdbaaGreatDoorzAZ
import Derived.Test.YthhegomjipbdbaaGreatDoorqJZ
import Derived.Test.YthhegomjipbdbaaGreatDoorpKZ
import Derived.Laws.StructEq
import Derived.BigQuiet
namespace Go.Proofs.YthhegomjipbdbaaGreatDoor.Pc
open Go.RowKit

theorem le_mxl {l : Nat → Nat} {n i : Nat} (h : i < n) : l i ≤ mxl l n := by
  induction n with
  | zero => omega
  | succ n ih =>
    unfold mxl
    by_cases e : i = n
    · subst e; exact Nat.le_max_right _ _
    · exact Nat.le_trans (ih (by omega)) (Nat.le_max_left _ _)
theorem rgt_nm {W H D : Int} {A : Bool} {sw sh : Int} {r : Nat → Int} {N p ln : Int} (h : rgt W H D A sw sh r N p ln = true) : ∃ n q : Nat, N = (n : Int) ∧ p = (q : Int) ∧ 1 ≤ n ∧ n ≤ 70000 ∧ q ≤ 16 ∧ ln ≤ 134217727 := by
  unfold rgt at h
  simp only [Bool.and_eq_true, decide_eq_true_eq] at h
  obtain ⟨⟨⟨⟨⟨h1, _⟩, h3⟩, h4⟩, _⟩, h6⟩ := h
  obtain ⟨a, b⟩ := nwE_zero h1
  have cl_lo : ∀ a b : Int, 1 ≤ a → 16 ≤ b → 1 ≤ Tl.cl a b := fun a b h1 h3 => by
    unfold Tl.cl
    exact Int.le_ediv_of_mul_le (by omega) (by omega)
  have cl_hi : ∀ a b : Int, a ≤ 4096 → 16 ≤ b → Tl.cl a b ≤ 256 := fun a b h2 h3 => by
    unfold Tl.cl
    have := Int.ediv_lt_of_lt_mul (a := a + b - 1) (b := 257) (c := b) (by omega) (by omega)
    omega
  have l1 := cl_lo _ _ a.1.1 b.1.1
  have l2 := cl_lo _ _ a.2.1.1 b.2.2.1
  have u1 := cl_hi _ _ a.1.2 b.1.1
  have u2 := cl_hi _ _ a.2.1.2 b.2.2.1
  unfold pmb at h4
  simp only [decide_eq_true_eq] at h4
  obtain ⟨x, ex⟩ := Int.eq_ofNat_of_zero_le (by omega : 0 ≤ Tl.cl W sw)
  obtain ⟨y, ey⟩ := Int.eq_ofNat_of_zero_le (by omega : 0 ≤ Tl.cl H sh)
  obtain ⟨q, eq⟩ := Int.eq_ofNat_of_zero_le h4.1.1
  rw [ex] at l1 u1 h3
  rw [ey] at l2 u2 h3
  have hxy : x * y ≤ 256 * 256 := Nat.mul_le_mul (by omega) (by omega)
  have hx1 : 1 * 1 ≤ x * y := Nat.mul_le_mul (by omega) (by omega)
  exact ⟨x * y, q, by rw [h3]; simp, eq, by omega, by omega, by omega, h6⟩
set_option maxHeartbeats 4000000 in
theorem max_big (g N c : Nat) (l : Nat → Nat) (w : World) (h : In w g N l) (hN : 1 ≤ N) (hN2 : N ≤ 1000000) (hl : ∀ i, i < N → l i ≤ 9000000000000000000) :
    Calls Tryz.prog 30 #[.slice (some ⟨g, 0, none⟩) N c] w fun e w' => e = .returned (.int .i64 (mxl l N : Int)) ∧ w' = w := by
  have HH := Hid.mk h
  have HLL := Hid.mk hl
  have c0 := h 0 (by omega)
  have d1 : decide ((N : Int) < 1) = false := by simp; omega
  have i0 : (0 : Int) < (N : Int) := by omega
  obtain ⟨x0, e0⟩ : ∃ x, l 0 = x := ⟨_, rfl⟩
  rw [e0] at c0
  have H1 : Hid (mxl l 1 = x0) := Hid.mk (by simp [mxl, e0])
  clear h hl e0
  go_enter Tryz.func30, Tryz.ntmps30
  go_wp2
  clear c0
  go_loop [3, 4] (fun m i => ∃ k y : Nat, 1 ≤ k ∧ k ≤ N ∧ i = .int .i64 (k : Int) ∧ m = .int .i64 (y : Int) ∧ Hid (y = mxl l k ∧ y ≤ 9000000000000000000)) (fun _ i => N - (intOf i).toNat)
  case atStart => exact ⟨1, x0, by omega, hN, rfl, rfl, Hid.mk ⟨H1.out.symm, by rw [← H1.out]; exact mxl_le (fun i hi => HLL.out i (by omega))⟩⟩
  case round =>
    obtain ⟨k, y, hk1, hk, rfl, rfl, HI⟩ := hrel
    by_cases hlt : k < N
    · have ck := HH.out k hlt
      have ik : (k : Int) < (N : Int) := by omega
      have hlk := HLL.out k hlt
      have HS : Hid (mxl l (k + 1) = max (mxl l k) (l k)) := Hid.mk rfl
      obtain ⟨x, ex⟩ : ∃ x, l k = x := ⟨_, rfl⟩
      rw [ex] at ck HS hlk
      have HX := Hid.mk hlk
      have hmx : max (y : Int) (x : Int) = ((max y x : Nat) : Int) := by omega
      clear ex hlk
      go_wp2
      go_round
      case rel => exact ⟨k + 1, max y x, by omega, by omega, by go_num, by first | rfl | (congr 1; omega), Hid.mk ⟨by rw [HS.out, HI.out.1], by have := HI.out.2; have := HX.out; omega⟩⟩
      case measure => simp [intOf]; omega
    · obtain rfl : N = k := by omega
      go_wp2
      go_ret
      exact ⟨ret_int (by rw [HI.out.1]), rfl⟩

/-- Does a table tell what it must? -/
def tbok (l : List Nat) (N p : Nat) (ln : Int) : Bool := decide (8 * N + 4 * p + 4 ≤ l.length) && (decide (s4 (l.take (8 * N + 4 * p)) = nb l (8 * N + 4 * p) 4) && (decide (mxl (fun k => nb l (8 * k) 4) N ≤ 16777215) && decide ((rcl (fun k => nb l (8 * k) 4) N p : Int) = ln)))
/-- What Table answers: its error, how many entries, and their cells. -/
def tbE (rg : Bool) (l : List Nat) (N p : Nat) (ln : Int) : Int := if rg then (if tbok l N p ln then 0 else 124) else 123
def tbN (rg : Bool) (l : List Nat) (N p : Nat) (ln : Int) : Nat := if rg && tbok l N p ln then N + p else 0
def tbX (rg : Bool) (l : List Nat) (N p : Nat) (ln : Int) : List Value := if rg && tbok l N p ln then enL (36 + 8 * N + 4 * p) (teln l N) (tesu l N) (N + p) else []
theorem field_num (x : Int) (u : World) : Sem.run Tryz.prog (Instr.field 75 (.agg #[.int .i64 x, .int .i64 4]) 0) u = .ok (.int .i64 x) u := by kernel_rfl
theorem own_none3 (w : World) (base : Nat) : w.ownsRow base 87 3 (.slice none 0 0) 0 [] := ⟨rfl, .inl ⟨rfl, rfl⟩⟩

set_option maxHeartbeats 8000000 in
set_option maxRecDepth 1000000 in
theorem table_no (W H D : Int) (A : Bool) (sw sh : Int) (r : Nat → Int) (N p ln : Int) (ao : Option Addr) (m cap : Nat) (w : World) (s0 : -9223372036854775808 ≤ sw) (s1 : sw ≤ 9223372036854775807) (hR : rgt W H D A sw sh r N p ln = false) :
    Calls Tryz.prog 7 #[hvv W H D A sw sh r N p ln, .slice ao m cap] w fun e w' => e = .returned (.tuple #[.slice none 0 0, .int .i64 123]) ∧ Kept [] w w' := by
  have C1 := Hid.mk (fun u => pright_any W H D A sw sh r N p ln u s0 s1)
  rw [hR] at C1
  obtain ⟨r0, er0⟩ : ∃ x, r 0 = x := ⟨_, rfl⟩
  obtain ⟨r1, er1⟩ : ∃ x, r 1 = x := ⟨_, rfl⟩
  obtain ⟨r2, er2⟩ : ∃ x, r 2 = x := ⟨_, rfl⟩
  obtain ⟨r3, er3⟩ : ∃ x, r 3 = x := ⟨_, rfl⟩
  have e9 : hvv W H D A sw sh r N p ln = .agg #[.int .i64 W, .int .i64 H, .int .i64 D, .bool A, .int .i64 sw, .int .i64 sh, .int .i64 r0, .int .i64 r1, .int .i64 r2, .int .i64 r3, .int .i64 N, .int .i64 p, .int .i64 ln] := by unfold hvv; rw [er0, er1, er2, er3]
  rw [e9] at C1 ⊢
  obtain ⟨w1, e1⟩ : ∃ w1, w.alloc (.cells #[.int .i64 W, .int .i64 H, .int .i64 D, .bool A, .int .i64 sw, .int .i64 sh, .int .i64 r0, .int .i64 r1, .int .i64 r2, .int .i64 r3, .int .i64 N, .int .i64 p, .int .i64 ln] 27 (0, 0)) = w1 := ⟨_, rfl⟩
  obtain ⟨B, eB⟩ : ∃ B, w.heap.size = B := ⟨_, rfl⟩
  have K1 : Hid (Kept [] w w1) := Hid.mk (by rw [← e1]; exact (Kept.refl [] w).alloc _)
  have HB1 := Hid.mk (show w1.heap[B]? = some (.cells #[.int .i64 W, .int .i64 H, .int .i64 D, .bool A, .int .i64 sw, .int .i64 sh, .int .i64 r0, .int .i64 r1, .int .i64 r2, .int .i64 r3, .int .i64 N, .int .i64 p, .int .i64 ln] 27 (0, 0)) by rw [← e1, ← eB]; exact heap_alloc_new _ _)
  obtain ⟨h0, h1, h2, h3, h4, h5, h6, h7, h8, h9, h10, h11, h12⟩ := cel13 HB1.out
  clear hR er0 er1 er2 er3 e9 s0 s1
  go_enter Tryz.func7, Tryz.ntmps7
  go_wp2_with (fail)
  clear e1 eB
  refine (C1.out _).mono ?_
  rintro e w2 ⟨rfl, k2⟩
  have K2 := Hid.mk k2
  clear k2 h0 h1 h2 h3 h4 h5 h6 h7 h8 h9 h10 h11 h12
  go_wp2
  go_ret2
  exact ⟨rfl, K1.out.trans K2.out⟩

set_option maxHeartbeats 16000000 in
set_option maxRecDepth 1000000 in
theorem table_yes (W H D : Int) (A : Bool) (sw sh : Int) (r : Nat → Int) (N p : Nat) (ln : Int) (ao : Option Addr) (m cap : Nat) (l : List Nat) (w : World) (hr : Reads w ao l) (hb : Byts l) (hm : l.length = m) (hc : m ≤ cap) (hcap : cap ≤ 9223372036854775807) (s0 : -9223372036854775808 ≤ sw) (s1 : sw ≤ 9223372036854775807) (hR : rgt W H D A sw sh r (N : Int) (p : Int) ln = true) (hN1 : 1 ≤ N) (hN : N ≤ 70000) (hp : p ≤ 16) :
    Calls Tryz.prog 7 #[hvv W H D A sw sh r (N : Int) (p : Int) ln, .slice ao m cap] w fun e w' => ∃ V, e = .returned (.tuple #[V, .int .i64 (tbE true l N p ln)]) ∧ w'.ownsRow w.heap.size 87 3 V (tbN true l N p ln) (tbX true l N p ln) ∧ Kept [] w w' := by
  have NO : Hid (tbok l N p ln = false → ∀ (e : Ending) (w' : World), e = .returned (.tuple #[.slice none 0 0, .int .i64 124]) → Kept [] w w' → ∃ V, e = .returned (.tuple #[V, .int .i64 (tbE true l N p ln)]) ∧ w'.ownsRow w.heap.size 87 3 V (tbN true l N p ln) (tbX true l N p ln) ∧ Kept [] w w') := Hid.mk (fun h e w' he hk => ⟨.slice none 0 0, by rw [he]; unfold tbE; rw [h]; rfl, by unfold tbN tbX; rw [h]; exact own_none3 _ _, hk⟩)
  have C1 := Hid.mk (fun u => pright_any W H D A sw sh r (N : Int) (p : Int) ln u s0 s1)
  rw [hR] at C1
  have C2 := Hid.mk (fun u => ptz_any N p u (by omega) (by omega))
  obtain ⟨ts, ets⟩ : ∃ T, 8 * N + 4 * p + 4 = T := ⟨_, rfl⟩
  rw [ets] at C2
  obtain ⟨r0, er0⟩ : ∃ x, r 0 = x := ⟨_, rfl⟩
  obtain ⟨r1, er1⟩ : ∃ x, r 1 = x := ⟨_, rfl⟩
  obtain ⟨r2, er2⟩ : ∃ x, r 2 = x := ⟨_, rfl⟩
  obtain ⟨r3, er3⟩ : ∃ x, r 3 = x := ⟨_, rfl⟩
  have e9 : hvv W H D A sw sh r (N : Int) (p : Int) ln = .agg #[.int .i64 W, .int .i64 H, .int .i64 D, .bool A, .int .i64 sw, .int .i64 sh, .int .i64 r0, .int .i64 r1, .int .i64 r2, .int .i64 r3, .int .i64 (N : Int), .int .i64 (p : Int), .int .i64 ln] := by unfold hvv; rw [er0, er1, er2, er3]
  rw [e9] at C1 ⊢
  obtain ⟨w1, e1⟩ : ∃ w1, w.alloc (.cells #[.int .i64 W, .int .i64 H, .int .i64 D, .bool A, .int .i64 sw, .int .i64 sh, .int .i64 r0, .int .i64 r1, .int .i64 r2, .int .i64 r3, .int .i64 (N : Int), .int .i64 (p : Int), .int .i64 ln] 27 (0, 0)) = w1 := ⟨_, rfl⟩
  obtain ⟨B, eB⟩ : ∃ B, w.heap.size = B := ⟨_, rfl⟩
  have K1 : Hid (Kept [] w w1) := Hid.mk (by rw [← e1]; exact (Kept.refl [] w).alloc _)
  have HB1 := Hid.mk (show w1.heap[B]? = some (.cells #[.int .i64 W, .int .i64 H, .int .i64 D, .bool A, .int .i64 sw, .int .i64 sh, .int .i64 r0, .int .i64 r1, .int .i64 r2, .int .i64 r3, .int .i64 (N : Int), .int .i64 (p : Int), .int .i64 ln] 27 (0, 0)) by rw [← e1, ← eB]; exact heap_alloc_new _ _)
  obtain ⟨h0, h1, h2, h3, h4, h5, h6, h7, h8, h9, h10, h11, h12⟩ := cel13 HB1.out
  have HR := Hid.mk hr
  have HBY := Hid.mk hb
  have HC := Hid.mk (And.intro hm (And.intro hc (And.intro hcap (And.intro ets (And.intro hN1 (And.intro hN hp))))))
  have HV := Hid.mk (show ∀ u, Kept [] w1 u → _ from fun u hu => cel13 (hu.heap HB1.out (by simp)))
  have CE : Hid (∀ u G c, Kept [] w u → In u G N (fun k => nb l (8 * k) 4) → 8 * N + 4 * p ≤ m → (∀ k, k < N → nb l (8 * k) 4 ≤ 16777215) → 0 < m → Calls Tryz.prog 32 #[.agg #[.int .i64 W, .int .i64 H, .int .i64 D, .bool A, .int .i64 sw, .int .i64 sh, .int .i64 r0, .int .i64 r1, .int .i64 r2, .int .i64 r3, .int .i64 (N : Int), .int .i64 (p : Int), .int .i64 ln], .slice ao m cap, .slice (some ⟨G, 0, none⟩) N c] u fun e w' => ∃ V, e = .returned V ∧ w'.ownsRow u.heap.size 87 3 V (N + p) (enL (36 + 8 * N + 4 * p) (teln l N) (tesu l N) (N + p)) ∧ Kept [] u w') := Hid.mk (fun u G c hu hI hmm hle h0 => by
    rw [← e9]
    obtain ⟨g, off, rfl⟩ : ∃ g off, ao = some ⟨g, off, none⟩ := by
      rcases HR.out with h | ⟨g, off, e, _⟩
      · subst h; simp at hm; omega
      · exact ⟨g, off, e⟩
    exact entries_any W H D A sw sh r N p ln g off cap m G c l u (HR.out.keep hu) HBY.out hm hc (by omega) hI hN1 hN hp hmm hle)
  clear hR er0 er1 er2 er3 e9 s0 s1 hr hb hm hc hcap hN1 hN hp ets
  go_enter Tryz.func7, Tryz.ntmps7
  go_wp2_with (fail)
  clear e1 eB
  refine (C1.out _).mono ?_
  rintro e w2 ⟨rfl, k2⟩
  have K2 := Hid.mk (K1.out.trans k2)
  have J2 := Hid.mk k2
  clear h0 h1 h2 h3 h4 h5 h6 h7 h8 h9 h10 h11 h12 C1
  obtain ⟨h0, h1, h2, h3, h4, h5, h6, h7, h8, h9, h10, h11, h12⟩ := HV.out w2 k2
  clear k2
  go_wp2_with (fail)
  refine (C2.out _).mono ?_
  rintro e w3 ⟨rfl, hw⟩
  obtain rfl := hw.symm
  clear hw C2
  by_cases hmt : m < ts
  · have d1 : decide ((m : Int) < (ts : Int)) = true := by simp; omega
    have d1n : decide (m < ts) = true := by simp; omega
    have HNO : Hid (tbok l N p ln = false) := Hid.mk (by have := HC.out; unfold tbok; rw [decide_eq_false (by omega)]; rfl)
    clear h0 h1 h2 h3 h4 h5 h6 h7 h8 h9 h10 h11 h12
    go_wp2
    go_ret2
    exact NO.out HNO.out _ _ rfl K2.out
  · have d1 : decide ((m : Int) < (ts : Int)) = false := by simp; omega
    have d1n : decide (m < ts) = false := by simp; omega
    obtain ⟨g, off, rfl⟩ : ∃ g off, ao = some ⟨g, off, none⟩ := by
      have := HC.out
      rcases HR.out with h | ⟨g, off, e, _⟩
      · subst h; simp at this; omega
      · exact ⟨g, off, e⟩
    obtain ⟨s0, es0⟩ : ∃ x, 8 * N + 4 * p = x := ⟨_, rfl⟩
    have q0 : (ts : Int) - 4 = (s0 : Int) := by have := HC.out; omega
    have b0 : s0 ≤ 9000000000000000000 := by have := HC.out; omega
    have is0 : (s0 : Int) ≤ (cap : Int) := by have := HC.out; omega
    have HT : Hid (8 * N + 4 * p = s0 ∧ s0 + 4 ≤ m) := Hid.mk ⟨es0, by have := HC.out; omega⟩
    have CS := Hid.mk (sumOf_any (some ⟨g, off, none⟩) cap s0 (l.take s0) w2 (by
      have h9 := reads_cut (HR.out.keep K2.out) 0 s0 (by have := HC.out; have := HT.out; omega)
      simpa using h9) (fun b hb => HBY.out b (List.mem_of_mem_take hb)) (by have := HC.out; have := HT.out; simp; omega) (by omega))
    obtain ⟨x, ex⟩ : ∃ x, s4 (l.take s0) = x := ⟨_, rfl⟩
    rw [ex] at CS
    have CN : Hid (∀ u, Kept [] w2 u → Calls Tryz.prog 28 #[.slice (some ⟨g, off, none⟩) m cap, .int .i64 (s0 : Int), .int .i64 4] u fun e w' => e = .returned (.int .i64 (nb l s0 4 : Int)) ∧ w' = u) := Hid.mk (fun u hu => pnum_any g off cap m s0 4 l u (HR.out.keep (K2.out.trans hu)) HBY.out HC.out.1 HC.out.2.1 (by have := HC.out; omega) (by decide) (by decide) HT.out.2)
    obtain ⟨y, ey⟩ : ∃ y, nb l s0 4 = y := ⟨_, rfl⟩
    rw [ey] at CN
    have HXY := Hid.mk (And.intro ex ey)
    have v1 : wrap64 ((ts : Int) - 4) = (s0 : Int) := w64n q0 b0
    have v2 : IntKind.i64.wrap ((ts : Int) - 4) = (s0 : Int) := win q0 b0
    clear es0 q0 b0 ex ey h0 h1 h2 h3 h4 h5 h6 h7 h8 h9 h10 h11 h12 hmt
    go_wp2_with (fail)
    refine CS.out.mono ?_
    rintro e w4 ⟨rfl, k4⟩
    have K4 := Hid.mk (K2.out.trans k4)
    have J4 := Hid.mk (J2.out.trans k4)
    have CN4 := Hid.mk (CN.out w4 k4)
    have fn := field_num (x : Int) w4
    clear k4 CS CN v1 v2
    go_wp2_with (fail)
    refine CN4.out.mono ?_
    rintro e w5 ⟨rfl, hw⟩
    obtain rfl := hw.symm
    clear hw CN4 fn
    by_cases hxy : x = y
    · have d2 : (((x : Int) == (y : Int))) = true := by simp; omega
      have d2' : decide ((x : Int) = (y : Int)) = true := by simp; omega
      have CP := Hid.mk (plens_any g off cap m N l w4 (HR.out.keep K4.out) HBY.out HC.out.1 HC.out.2.1 (by have := HC.out; omega) (by have := HT.out; omega) (by have := HC.out; omega))
      obtain ⟨h0, h1, h2, h3, h4, h5, h6, h7, h8, h9, h10, h11, h12⟩ := HV.out w4 J4.out
      have HXE := Hid.mk hxy
      subst hxy
      go_wp2_with (fail)
      refine CP.out.mono ?_
      rintro e w6 ⟨G, rfl, hG, hI, _, k6⟩
      have K6 := Hid.mk (K4.out.trans k6)
      have J6 := Hid.mk (J4.out.trans k6)
      have HI := Hid.mk hI
      clear h0 h1 h2 h3 h4 h5 h6 h7 h8 h9 h10 h11 h12 hG hI k6 CP d2 d2'
      have NLT : Hid (∀ k, k < N → nb l (8 * k) 4 < 4294967296) := Hid.mk (fun k hk => by
        have h9 := nb_lt HBY.out (a := 8 * k) (k := 4) (by have := HC.out; have := HT.out; omega)
        have p4 : (256 : Nat) ^ 4 = 4294967296 := by decide
        omega)
      have z11 := fun q : KW w6 => (HV.out q.u (J6.out.trans q.h)).2.2.2.2.2.2.2.2.2.2.2.1
      have z12 := fun q : KW w6 => (HV.out q.u (J6.out.trans q.h)).2.2.2.2.2.2.2.2.2.2.2.2
      have IK : Hid (∀ q : KW w6, In q.u G N (fun k => nb l (8 * k) 4)) := Hid.mk (fun q i hi => Tl.cell_keep q.h (HI.out i hi) (by simp))
      obtain ⟨M, eM⟩ : ∃ x, mxl (fun k => nb l (8 * k) 4) N = x := ⟨_, rfl⟩
      have QM : Hid (∀ q : KW w6, Calls Tryz.prog 30 #[.slice (some ⟨G, 0, none⟩) N N] q.u fun r w' => r = .returned (.int .i64 (M : Int)) ∧ ∃ q' : KW w6, w' = q'.u) := Hid.mk fun q => (max_big G N N (fun k => nb l (8 * k) 4) q.u (IK.out q) HC.out.2.2.2.2.1 (by have := HC.out; omega) (fun i hi => by have := NLT.out i hi; omega)).mono fun r w' ⟨h1, h2⟩ => ⟨by rw [h1, eM], q, h2⟩
      have NE : Nonempty (KW w6) := ⟨⟨w6, Kept.refl _ _⟩⟩
      have HM := Hid.mk eM
      by_cases hM : 16777215 < M
      · have d3 : decide ((16777215 : Int) < (M : Int)) = true := by simp; omega
        have HNO : Hid (tbok l N p ln = false) := Hid.mk (by unfold tbok; rw [HM.out, decide_eq_false (by omega : ¬ M ≤ 16777215)]; simp)
        go_wp2_with (fail)
        refine wp_region_kept (by kernel_rfl) (by kernel_rfl) ?_
        repeat (go_big_quiet_step ((go_at_call 30; exact QM.out _)))
        refine wpQuiet_nil ?_
        rintro _ ⟨z, rfl⟩
        have KZ := Hid.mk (K6.out.trans z.h)
        generalize z.u = wz at *
        clear z11 z12 NE QM z IK
        go_wp2
        go_ret2
        exact NO.out HNO.out _ _ rfl KZ.out
      · have d3 : decide ((16777215 : Int) < (M : Int)) = false := by simp; omega
        have HLE : Hid (∀ k, k < N → nb l (8 * k) 4 ≤ 16777215) := Hid.mk (fun k hk => by
          have h9 := le_mxl (l := fun k => nb l (8 * k) 4) hk
          rw [eM] at h9
          have h8 : nb l (8 * k) 4 ≤ M := h9
          omega)
        obtain ⟨RC, eRC⟩ : ∃ x, rcl (fun k => nb l (8 * k) 4) N p = x := ⟨_, rfl⟩
        have QR : Hid (∀ q : KW w6, Calls Tryz.prog 31 #[.slice (some ⟨G, 0, none⟩) N N, .int .i64 (p : Int)] q.u fun r w' => r = .returned (.int .i64 (RC : Int)) ∧ ∃ q' : KW w6, w' = q'.u) := Hid.mk fun q => (recordLength_any G N N p (fun k => nb l (8 * k) 4) q.u (IK.out q) HC.out.2.2.2.2.1 (by have := HC.out; omega) (by have := HC.out; omega) (fun i hi => by have := HLE.out i hi; omega)).mono fun r w' ⟨h1, h2⟩ => ⟨by rw [h1, eRC], q, h2⟩
        have HRC := Hid.mk eRC
        clear eRC eM
        by_cases hL : (RC : Int) = ln
        · subst hL
          have HOK : Hid (tbok l N p (RC : Int) = true) := Hid.mk (by
            have h1 := HT.out
            have h2 := HXY.out
            have h3 := HC.out
            unfold tbok
            rw [HM.out, HRC.out, h1.1, h2.1, h2.2, decide_eq_true (by omega : s0 + 4 ≤ l.length), decide_eq_true rfl, decide_eq_true (by omega : M ≤ 16777215), decide_eq_true rfl]; rfl)
          go_wp2_with (fail)
          refine wp_region_kept (by kernel_rfl) (by kernel_rfl) ?_
          repeat (go_big_quiet_step ((first | (go_at_call 30; exact QM.out _) | (go_at_call 31; exact QR.out _))))
          refine wpQuiet_nil ?_
          rintro _ ⟨z, rfl⟩
          have JZ := Hid.mk z.h
          have KZ := Hid.mk (K6.out.trans z.h)
          have IZ := Hid.mk (IK.out z)
          obtain ⟨h0, h1, h2, h3, h4, h5, h6, h7, h8, h9, h10, h11, h12⟩ := HV.out z.u (J6.out.trans z.h)
          generalize z.u = wz at *
          clear z11 z12 NE QM QR z IK
          have CX := Hid.mk (CE.out wz G N KZ.out IZ.out (by have := HT.out; omega) HLE.out (by have := HT.out; omega))
          go_wp2_with (fail)
          refine CX.out.mono ?_
          rintro e w9 ⟨V, rfl, oV, k9⟩
          have OV : Hid (w9.ownsRow w.heap.size 87 3 V (N + p) (enL (36 + 8 * N + 4 * p) (teln l N) (tesu l N) (N + p))) := Hid.mk (by
            have := KZ.out.size
            refine ⟨oV.1, ?_⟩
            rcases oV.2 with hn | ⟨g', cp, cur, f1, f2, rest⟩
            · exact .inl hn
            · exact .inr ⟨g', cp, cur, f1, by omega, rest⟩)
          have K9 := Hid.mk (KZ.out.trans k9)
          clear h0 h1 h2 h3 h4 h5 h6 h7 h8 h9 h10 h11 h12 oV k9 CX
          go_wp2
          go_ret2
          exact ⟨V, by unfold tbE; rw [HOK.out]; rfl, by unfold tbN tbX; rw [HOK.out]; exact OV.out, K9.out⟩
        · have d5 : ((RC : Int) != ln) = true := by simp [hL]
          have d4 : ((RC : Int) == ln) = false := by simp [hL]
          have d4' : decide ((RC : Int) = ln) = false := by simp [hL]
          have HNO : Hid (tbok l N p ln = false) := Hid.mk (by unfold tbok; rw [HRC.out, decide_eq_false hL]; simp)
          clear hL
          go_wp2_with (fail)
          refine wp_region_kept (by kernel_rfl) (by kernel_rfl) ?_
          repeat (go_big_quiet_step ((first | (go_at_call 30; exact QM.out _) | (go_at_call 31; exact QR.out _))))
          refine wpQuiet_nil ?_
          rintro _ ⟨z, rfl⟩
          have KZ := Hid.mk (K6.out.trans z.h)
          generalize z.u = wz at *
          clear z11 z12 NE QM QR z IK d4 d4'
          go_wp2
          go_ret2
          exact NO.out HNO.out _ _ rfl KZ.out
    · have d2 : (((x : Int) == (y : Int))) = false := by simp; omega
      have d2' : decide ((x : Int) = (y : Int)) = false := by simp; omega
      have d2n : decide (x = y) = false := by simp; omega
      have d2m : (x == y) = false := by simp; omega
      have HNO : Hid (tbok l N p ln = false) := Hid.mk (by have h1 := HT.out; have h2 := HXY.out; unfold tbok; rw [h1.1, h2.1, h2.2, decide_eq_false hxy]; simp)
      go_wp2
      go_ret2
      exact NO.out HNO.out _ _ rfl K4.out

/-- Table of any head and bytes. -/
theorem table_any (W H D : Int) (A : Bool) (sw sh : Int) (r : Nat → Int) (N p ln : Int) (ao : Option Addr) (m cap : Nat) (l : List Nat) (w : World) (hr : Reads w ao l) (hb : Byts l) (hm : l.length = m) (hc : m ≤ cap) (hcap : cap ≤ 9223372036854775807) (s0 : -9223372036854775808 ≤ sw) (s1 : sw ≤ 9223372036854775807) :
    Calls Tryz.prog 7 #[hvv W H D A sw sh r N p ln, .slice ao m cap] w fun e w' => ∃ V, e = .returned (.tuple #[V, .int .i64 (tbE (rgt W H D A sw sh r N p ln) l N.toNat p.toNat ln)]) ∧ w'.ownsRow w.heap.size 87 3 V (tbN (rgt W H D A sw sh r N p ln) l N.toNat p.toNat ln) (tbX (rgt W H D A sw sh r N p ln) l N.toNat p.toNat ln) ∧ Kept [] w w' := by
  cases hR : rgt W H D A sw sh r N p ln with
  | false => exact (table_no W H D A sw sh r N p ln ao m cap w s0 s1 hR).mono (fun e w' h => ⟨.slice none 0 0, h.1, own_none3 _ _, h.2⟩)
  | true =>
    obtain ⟨n, q, rfl, rfl, h1, h2, h3, _⟩ := rgt_nm hR
    exact table_yes W H D A sw sh r n q ln ao m cap l w hr hb hm hc hcap s0 s1 hR h1 h2 h3
end Go.Proofs.YthhegomjipbdbaaGreatDoor.Pc

namespace Go.Proofs.YthhegomjipbdbaaGreatDoor.Pc
open Go.RowKit

/-- Cells that are entries'. -/
def Ens (n : Nat) (xs : List Value) : Prop := ∀ k, k < n → ∃ a b c : Int, xs[k * 3]? = some (.int .i64 a) ∧ xs[k * 3 + 1]? = some (.int .i64 b) ∧ xs[k * 3 + 2]? = some (.int .u32 c)
theorem enL_ens (at0 : Nat) (ln su : Nat → Nat) (n : Nat) : Ens n (enL at0 ln su n) := by
  induction n with
  | zero => intro k hk; omega
  | succ n ih =>
    intro k hk
    have hl := enL_len at0 ln su n
    by_cases e : k = n
    · subst e
      refine ⟨((at0 + sm ln k : Nat) : Int), (ln k : Int), (su k : Int), ?_, ?_, ?_⟩
      · rw [enL, List.getElem?_append_right (by omega), hl, Nat.sub_self]; rfl
      · rw [enL, List.getElem?_append_right (by omega), hl, show k * 3 + 1 - k * 3 = 1 by omega]; rfl
      · rw [enL, List.getElem?_append_right (by omega), hl, show k * 3 + 2 - k * 3 = 2 by omega]; rfl
    · obtain ⟨a, b, c, h1, h2, h3⟩ := ih k (by omega)
      refine ⟨a, b, c, ?_, ?_, ?_⟩
      · rw [enL, List.getElem?_append_left (by omega)]; exact h1
      · rw [enL, List.getElem?_append_left (by omega)]; exact h2
      · rw [enL, List.getElem?_append_left (by omega)]; exact h3
theorem own_cells3 {w : World} {base n c : Nat} {ao : Option Addr} {xs : List Value} (h : w.ownsRow base 87 3 (.slice ao n c) n xs) (hn : 0 < n) : ∃ g, ao = some ⟨g, 0, none⟩ ∧ ∀ i x, xs[i]? = some x → w.cell? ⟨g, i, none⟩ = some x := by
  obtain ⟨g, cap, h1, _, h3⟩ := own_some3 h hn
  cases h1
  exact ⟨g, rfl, h3⟩

set_option maxHeartbeats 8000000 in
set_option maxRecDepth 1000000 in
theorem sameEntries_any (ao ao' : Option Addr) (n c c' B B' : Nat) (xs : List Value) (w : World) (hO : w.ownsRow B 87 3 (.slice ao n c) n xs) (hO' : w.ownsRow B' 87 3 (.slice ao' n c') n xs) (hx : Ens n xs) (hn : n ≤ 100000) :
    Calls Tryz.prog 10 #[.slice ao n c, .slice ao' n c'] w fun e w' => e = .returned (.bool true) ∧ Kept [] w w' := by
  have HO := Hid.mk hO
  have HO' := Hid.mk hO'
  have HX := Hid.mk hx
  clear hO hO' hx
  go_enter Tryz.func10, Tryz.ntmps10
  go_wp2
  go_loopw [5] (fun i wr => ∃ k : Nat, k ≤ n ∧ i = .int .i64 (k : Int) ∧ Hid (Kept [] w wr)) (fun i _ => n - (intOf i).toNat)
  case atStart => exact ⟨0, Nat.zero_le _, rfl, Hid.mk (Kept.refl _ _)⟩
  case round =>
    obtain ⟨k, hk, rfl, HI⟩ := hrel
    by_cases hlt : k < n
    · have ik : (k : Int) < (n : Int) := by omega
      obtain ⟨g, rfl, hc⟩ := own_cells3 (HI.out.row HO.out (by simp)) (by omega)
      obtain ⟨g', rfl, hc'⟩ := own_cells3 (HI.out.row HO'.out (by simp)) (by omega)
      obtain ⟨x, y, z, f1, f2, f3⟩ := HX.out k hlt
      have l0 := hc _ _ f1
      have l1 := hc _ _ f2
      have l2 := hc _ _ f3
      have m0 := hc' _ _ f1
      have m1 := hc' _ _ f2
      have m2 := hc' _ _ f3
      have HKI := Hid.mk HI.out
      clear HI HO HO' hc hc' f1 f2 f3
      go_wp2_with (fail)
      go_quiet (fail)
      clear l0 l1 l2 m0 m1 m2
      go_wp2
      go_roundw
      case rel => exact ⟨k + 1, by omega, by go_num, Hid.mk (HKI.out.drewN _)⟩
      case measure => simp [intOf]; omega
    · obtain rfl : n = k := by omega
      clear hlt hk
      go_wp2
      go_ret
      exact ⟨rfl, HI.out⟩
end Go.Proofs.YthhegomjipbdbaaGreatDoor.Pc
