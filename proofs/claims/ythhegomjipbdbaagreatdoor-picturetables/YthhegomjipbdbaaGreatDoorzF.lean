import Derived.Test.YthhegomjipbdbaaGreatDoorzDZ
import Derived.Test.YthhegomjipbdbaaGreatDoorqPZ
import Derived.Test.YthhegomjipbdbaaGreatDoorcC6Z
namespace Go.Proofs.YthhegomjipbdbaaGreatDoor.Pc
open Go.RowKit

theorem slice_cutz (g off m cap a z : Nat) (h1 : a < z) (h2 : z ≤ cap) (u : World) : Sem.run Tryz.prog (Instr.slice 28 (.slice (some ⟨g, off, none⟩) m cap) (some (.int .i64 (a : Int))) (some (.int .i64 (z : Int))) none) u = .ok (.slice (some ⟨g, off + a, none⟩) (z - a) (cap - a)) u := by
  have e : (sizeOf (Tryz.prog.elem 28)).run Tryz.prog u = .ok 1 u := by kernel_rfl
  rw [run_slice_lh (P := Tryz.prog) (w := u) 28 (some ⟨g, off, none⟩) m cap (by kernel_rfl) .i64 .i64 (a : Int) (z : Int) (by omega) (by omega) (by omega), e]
  have hne : ¬ cap = a := by omega
  by_cases h0 : a = 0
  · subst h0; simp [sliced, hne, Addr.add]
  · simp [sliced, hne, Addr.add, h0]

theorem agg3z {w : World} {Q t : Nat} {v0 v1 v2 : Value} (h : w.heap[Q]? = some (.cells #[v0, v1, v2] t (0, 0))) : w.cell? ⟨Q, 0, none⟩ = some v0 ∧ w.cell? ⟨Q, 1, none⟩ = some v1 ∧ w.cell? ⟨Q, 2, none⟩ = some v2 := ⟨cellAt h rfl, cellAt h rfl, cellAt h rfl⟩
theorem wpList_en (B : Nat) (w : World) {ops : Array Oper} {rest : List Oper} {o : Oper} {a : Act} {Q : Exit → Act → World → Prop} (hgd : o.guard = none) (s x : Operand)
    (ho : o.op = .call { callee := .builtin .append, args := #[s, x], argTypes := #[31, 31] })
    (V : Value) (n : Nat) (xs : List Value) (hs : a.eval s = V) (hown : w.ownsRow B 87 3 V n xs) (T : Nat) (v0 v1 v2 : Value) (hx : a.eval x = .slice (some ⟨T, 0, none⟩) 1 1) (hT : w.heap[T]? = some (.cells #[v0, v1, v2] 87 (0, 0)))
    (h1 : ∀ v ∈ [v0, v1, v2], v.oneCell' = true) (hn : n ≤ 100000) (hB : B ≤ w.heap.size)
    (h : ∀ g c w', w'.ownsRow B 87 3 (.slice (some ⟨g, 0, none⟩) (n + 1) c) (n + 1) (xs ++ [v0, v1, v2]) → Kept V.ownBlock.toList w w' → wpList Tryz.prog ops Q rest (a.put o.dst (.slice (some ⟨g, 0, none⟩) (n + 1) c)) w') :
    wpList Tryz.prog ops Q (o :: rest) a w := by
  obtain ⟨i0, hi, hz0, hz1, hz2⟩ := info_parts Tryz.infoEn
  refine wpList_append_own_at w hgd s x 31 ho B 87 i0 (.agg #[.int .i64 0, .int .i64 0, .int .u32 0]) 3 24 Tryz.underlying31 hi hz0 hz1 hz2 rfl (by decide) V n xs hs hown ⟨T, 0, none⟩ 1 1 [v0, v1, v2] hx rfl (fun j v hj => ?_) h1 (by unfold maxLen; omega) (by omega) hB ?_
  · have hadd : (⟨T, 0, none⟩ : Addr).add j = ⟨T, j, none⟩ := by unfold Addr.add; split <;> simp_all
    rw [hadd]
    exact cellAt hT (by rw [← Array.getElem?_toList]; exact hj)
  · intro v' w' h2 h3 _ _
    obtain ⟨g, c, rfl, _⟩ := own_some3 h2 (by omega)
    exact h g c w' h2 (Kept.of_grown h3)

theorem own_far3 {w : World} {B n b : Nat} {V : Value} {xs : List Value} {cs : Array Value} {t : Nat} (h : w.ownsRow B 87 3 V n xs) (hb : w.heap[b]? = some (.cells cs t (0, 0))) (ht : t ≠ 87) : ∀ x ∈ V.ownBlock.toList, B ≤ x ∧ x ≠ b := fun x hx => by
  rcases h.2 with ⟨rfl, _⟩ | ⟨g, cap, cur, rfl, h1, h2, _⟩
  · simp [Value.ownBlock] at hx
  · simp [Value.ownBlock] at hx
    subst hx
    refine ⟨h1, fun e => ?_⟩
    rw [e, hb] at h2
    simp at h2
    exact ht h2.2
/-- The lengths of all entries. -/
theorem sm_teln (l : List Nat) (N p : Nat) : sm (teln l N) (N + p) = sm (fun k => nb l (8 * k) 4) N + p * mxl (fun k => nb l (8 * k) 4) N := by
  induction p with
  | zero =>
    rw [Nat.add_zero, Nat.zero_mul, Nat.add_zero]
    exact sm_congr (fun i hi => by unfold teln; rw [if_pos hi])
  | succ p ih =>
    rw [← Nat.add_assoc, sm, ih]
    have e : teln l N (N + p) = mxl (fun k => nb l (8 * k) 4) N := by unfold teln; rw [if_neg (by omega)]
    rw [e, Nat.add_mul, Nat.one_mul, Nat.add_assoc]

set_option maxHeartbeats 16000000 in
set_option maxRecDepth 1000000 in
theorem rtable_yes (W H D : Int) (A : Bool) (sw sh : Int) (r : Nat → Int) (N p : Nat) (ln : Int) (ao : Option Addr) (m cap : Nat) (l : List Nat) (w : World) (hr : Reads w ao l) (hb : Byts l) (hm : l.length = m) (hc : m ≤ cap) (hcap : cap ≤ 9223372036854775807) (hR : rgt W H D A sw sh r (N : Int) (p : Int) ln = true) (hN1 : 1 ≤ N) (hN : N ≤ 70000) (hp : p ≤ 16) :
    Calls Tryz.prog 9 #[hvv W H D A sw sh r (N : Int) (p : Int) ln, .slice ao m cap] w fun e w' => ∃ V, e = .returned (.tuple #[V, .int .i64 (tbE true l N p ln)]) ∧ w'.ownsRow w.heap.size 87 3 V (tbN true l N p ln) (tbX true l N p ln) ∧ Kept [] w w' := by
  have NO : Hid (tbok l N p ln = false → ∀ (e : Ending) (w' : World), e = .returned (.tuple #[.slice none 0 0, .int .i64 124]) → Kept [] w w' → ∃ V, e = .returned (.tuple #[V, .int .i64 (tbE true l N p ln)]) ∧ w'.ownsRow w.heap.size 87 3 V (tbN true l N p ln) (tbX true l N p ln) ∧ Kept [] w w') := Hid.mk (fun h e w' he hk => ⟨.slice none 0 0, by rw [he]; unfold tbE; rw [h]; rfl, by unfold tbN tbX; rw [h]; exact own_none3 _ _, hk⟩)
  have C1 := Hid.mk (fun u => rRight_any W H D A sw sh r (N : Int) (p : Int) ln u)
  rw [hR] at C1
  have C2 := Hid.mk (fun u => rts_yes W H D A sw sh r N p ln u hR hN hp)
  obtain ⟨ts, ets⟩ : ∃ T, 8 * N + 4 * p + 4 = T := ⟨_, rfl⟩
  rw [ets] at C2
  obtain ⟨r0, er0⟩ : ∃ x, r 0 = x := ⟨_, rfl⟩
  obtain ⟨r1, er1⟩ : ∃ x, r 1 = x := ⟨_, rfl⟩
  obtain ⟨r2, er2⟩ : ∃ x, r 2 = x := ⟨_, rfl⟩
  obtain ⟨r3, er3⟩ : ∃ x, r 3 = x := ⟨_, rfl⟩
  have e9 : hvv W H D A sw sh r (N : Int) (p : Int) ln = .agg #[.int .i64 W, .int .i64 H, .int .i64 D, .bool A, .int .i64 sw, .int .i64 sh, .int .i64 r0, .int .i64 r1, .int .i64 r2, .int .i64 r3, .int .i64 (N : Int), .int .i64 (p : Int), .int .i64 ln] := by unfold hvv; rw [er0, er1, er2, er3]
  rw [e9] at C1 C2 ⊢
  obtain ⟨w1, e1⟩ : ∃ w1, w.alloc (.cells #[.int .i64 W, .int .i64 H, .int .i64 D, .bool A, .int .i64 sw, .int .i64 sh, .int .i64 r0, .int .i64 r1, .int .i64 r2, .int .i64 r3, .int .i64 (N : Int), .int .i64 (p : Int), .int .i64 ln] 27 (0, 0)) = w1 := ⟨_, rfl⟩
  obtain ⟨B, eB⟩ : ∃ B, w.heap.size = B := ⟨_, rfl⟩
  have K1 : Hid (Kept [] w w1) := Hid.mk (by rw [← e1]; exact (Kept.refl [] w).alloc _)
  have HB1 := Hid.mk (show w1.heap[B]? = some (.cells #[.int .i64 W, .int .i64 H, .int .i64 D, .bool A, .int .i64 sw, .int .i64 sh, .int .i64 r0, .int .i64 r1, .int .i64 r2, .int .i64 r3, .int .i64 (N : Int), .int .i64 (p : Int), .int .i64 ln] 27 (0, 0)) by rw [← e1, ← eB]; exact heap_alloc_new _ _)
  obtain ⟨h0, h1, h2, h3, h4, h5, h6, h7, h8, h9, h10, h11, h12⟩ := cel13 HB1.out
  have HR := Hid.mk hr
  have HBY := Hid.mk hb
  have HC := Hid.mk (And.intro hm (And.intro hc (And.intro hcap (And.intro ets (And.intro hN1 (And.intro hN hp))))))
  have HV := Hid.mk (show ∀ u, Kept [] w1 u → _ from fun u hu => cel13 (hu.heap HB1.out (by simp)))
  clear hR er0 er1 er2 er3 e9 hr hb hm hc hcap hN1 hN hp ets
  go_enter Tryz.func9, Tryz.ntmps9
  go_wp2_with (fail)
  clear e1 eB
  refine (C1.out _).mono ?_
  rintro e w2 ⟨rfl, k2⟩
  have K2 := Hid.mk (K1.out.trans k2)
  have J2 := Hid.mk k2
  clear h0 h1 h2 h3 h4 h5 h6 h7 h8 h9 h10 h11 h12 C1
  obtain ⟨h0, h1, h2, h3, h4, h5, h6, h7, h8, h9, h10, h11, h12⟩ := HV.out w2 k2
  clear k2
  go_wp2_with (fail)
  refine (C2.out _).mono ?_
  rintro e w3 ⟨rfl, k3⟩
  have K3 := Hid.mk (K2.out.trans k3)
  have J3 := Hid.mk (J2.out.trans k3)
  clear k3 C2 h0 h1 h2 h3 h4 h5 h6 h7 h8 h9 h10 h11 h12
  have NE : Nonempty (KW w3) := ⟨⟨w3, Kept.refl _ _⟩⟩
  by_cases hmt : m < ts
  · have d1 : decide ((m : Int) < (ts : Int)) = true := by simp; omega
    have d1n : decide (m < ts) = true := by simp; omega
    have HNO : Hid (tbok l N p ln = false) := Hid.mk (by have := HC.out; unfold tbok; rw [decide_eq_false (by omega)]; rfl)
    go_wp2_with (fail)
    refine wp_region_kept (by kernel_rfl) (by kernel_rfl) ?_
    repeat (go_big_quiet_step (fail))
    refine wpQuiet_nil ?_
    rintro _ ⟨z, rfl⟩
    have KZ := Hid.mk (K3.out.trans z.h)
    generalize z.u = wz at *
    clear NE z
    go_wp2
    go_ret2
    exact NO.out HNO.out _ _ rfl KZ.out
  · have d1 : decide ((m : Int) < (ts : Int)) = false := by simp; omega
    have d1n : decide (m < ts) = false := by simp; omega
    obtain ⟨g, off, rfl⟩ : ∃ g off, ao = some ⟨g, off, none⟩ := by
      have := HC.out
      rcases HR.out with h | ⟨g, off, e, _⟩
      · subst h; simp at this; omega
      · exact ⟨g, off, e⟩
    obtain ⟨s0, es0⟩ : ∃ x, 8 * N + 4 * p = x := ⟨_, rfl⟩
    have q0 : (ts : Int) - 4 = (s0 : Int) := by have := HC.out; omega
    have b0 : s0 ≤ 9000000000000000000 := by have := HC.out; omega
    have is0 : (s0 : Int) ≤ (cap : Int) := by have := HC.out; omega
    have HT : Hid (8 * N + 4 * p = s0 ∧ s0 + 4 ≤ m ∧ s0 + 4 = ts) := Hid.mk ⟨es0, by have := HC.out; omega, by have := HC.out; omega⟩
    obtain ⟨x, ex⟩ : ∃ x, s4 (l.take s0) = x := ⟨_, rfl⟩
    obtain ⟨y, ey⟩ : ∃ y, nb l s0 4 = y := ⟨_, rfl⟩
    have hx4 : x ≤ 9000000000000000000 := by rw [← ex]; have := s4_lt (l.take s0); omega
    have QU : Hid (∀ q : KW w3, Calls Tryz.prog 36 #[.slice (some ⟨g, off, none⟩) s0 cap] q.u fun r w' => r = .returned (.int .u32 (x : Int)) ∧ ∃ q' : KW w3, w' = q'.u) := Hid.mk fun q => (Cr.sumD_any (some ⟨g, off, none⟩) cap s0 (l.take s0) q.u (by
      have h9 := reads_cut (HR.out.keep (K3.out.trans q.h)) 0 s0 (by have := HC.out; have := HT.out; omega)
      simpa using h9) (fun b hb => HBY.out b (List.mem_of_mem_take hb)) (by have := HC.out; have := HT.out; simp; omega) (by have := HC.out; have := HT.out; omega)).mono fun r w' ⟨h1, h2⟩ => ⟨by rw [h1, ← ex]; rfl, q, h2⟩
    have QS : Hid (∀ (q : KW w3) (so : Option Addr) (cs : Nat), so = some ⟨g, off + s0, none⟩ → Calls Tryz.prog 35 #[.slice so 4 cs] q.u fun r w' => r = .returned (.int .i64 (y : Int)) ∧ ∃ q' : KW w3, w' = q'.u) := Hid.mk fun q so cs hso => (rsmall_any so 4 cs ((l.drop s0).take 4) q.u (by rw [hso]; exact reads_cut (HR.out.keep (K3.out.trans q.h)) s0 4 (by have := HC.out; have := HT.out; omega)) (byts_cut HBY.out s0 4) (by have := HC.out; have := HT.out; simp; omega) (by decide)).mono fun r w' ⟨h1, h2⟩ => ⟨by rw [h1, ← ey]; rfl, q, h2⟩
    have j1 : (s0 : Int) ≤ (ts : Int) := by have := HT.out; omega
    have j2 : (ts : Int) ≤ (cap : Int) := by have := HT.out; have := HC.out; omega
    have j3 : ts - s0 = 4 := by have := HT.out; omega
    have hne : ¬ cap = s0 := by have := HT.out; have := HC.out; omega
    have HXY := Hid.mk (And.intro ex ey)
    have v1 : wrap64 ((ts : Int) - 4) = (s0 : Int) := w64n q0 b0
    have v2 : IntKind.i64.wrap ((ts : Int) - 4) = (s0 : Int) := win q0 b0
    have v3 : wrap64 (x : Int) = (x : Int) := w64n rfl hx4
    have v4 : IntKind.i64.wrap (x : Int) = (x : Int) := win rfl hx4
    clear es0 q0 b0 ex ey hx4 hmt
    by_cases hxy : y = x
    · subst hxy
      obtain ⟨a0, ea0⟩ : ∃ x, 32 + ts = x := ⟨_, rfl⟩
      have q2 : (32 : Int) + (ts : Int) = (a0 : Int) := by omega
      have ba0 : a0 ≤ 9000000000000000000 := by have := HC.out; omega
      have EA : Hid (36 + 8 * N + 4 * p = a0 ∧ a0 ≤ 1000000) := Hid.mk (by have := HC.out; omega)
      have v5 : wrap64 ((32 : Int) + (ts : Int)) = (a0 : Int) := w64n q2 ba0
      have v6 : IntKind.i64.wrap ((32 : Int) + (ts : Int)) = (a0 : Int) := win q2 ba0
      clear q2 ba0 ea0
      go_wp2_with (fail)
      refine wp_region_kept (by kernel_rfl) (by kernel_rfl) ?_
      repeat (go_big_quiet_step ((first | (go_at_call 35; exact QS.out _ _ _ (by first | rfl | simp [Addr.add] | (unfold Addr.add; split <;> simp_all))) | (go_at_call 36; exact QU.out _))))
      refine wpQuiet_nil ?_
      rintro _ ⟨z, rfl⟩
      have KZ := Hid.mk (K3.out.trans z.h)
      have BZ := Hid.mk ((J3.out.trans z.h).heap HB1.out (by simp))
      generalize z.u = wz at *
      clear NE z QS QU v1 v2 v3 v4
      go_wp2_with (fail)
      clear v5 v6
      go_loopw [8, 9, 10, 11, 12] (fun V at_ f i x wr => ∃ k : Nat, k ≤ N ∧ i = .int .i64 (k : Int) ∧ at_ = .int .i64 ((a0 + sm (teln l N) k : Nat) : Int) ∧ f = .int .i64 (mxl (fun i => nb l (8 * i) 4) k : Int) ∧ Hid (wr.ownsRow w.heap.size 87 3 V k (enL a0 (teln l N) (tesu l N) k) ∧ (∀ j, j < k → nb l (8 * j) 4 ≤ 16777215) ∧ wr.heap[B]? = some (.cells #[.int .i64 W, .int .i64 H, .int .i64 D, .bool A, .int .i64 sw, .int .i64 sh, .int .i64 r0, .int .i64 r1, .int .i64 r2, .int .i64 r3, .int .i64 (N : Int), .int .i64 (p : Int), .int .i64 ln] 27 (0, 0)) ∧ Kept [] w wr)) (fun _ _ _ i _ _ => N - (intOf i).toNat)
      case atStart => exact ⟨0, Nat.zero_le _, rfl, rfl, rfl, Hid.mk ⟨own_none3 _ _, (fun j hj => by omega), BZ.out, KZ.out⟩⟩
      case round =>
        obtain ⟨k, hk, rfl, rfl, rfl, HI⟩ := hrel
        have hNN : N ≤ 70000 := HC.out.2.2.2.2.2.1
        by_cases hlt : k < N
        · have ik : (k : Int) < (N : Int) := by omega
          have h10 := (cel13 HI.out.2.2.1).2.2.2.2.2.2.2.2.2.2.1
          have HS10 : Hid (∀ u, Kept [] wr u → u.cell? ⟨B, 10, none⟩ = some (.int .i64 (N : Int))) := Hid.mk (fun u hu => Tl.cell_keep hu h10 (by simp))
          obtain ⟨P8, e8⟩ : ∃ x, 8 * k = x := ⟨_, rfl⟩
          obtain ⟨P4, e4⟩ : ∃ x, P8 + 4 = x := ⟨_, rfl⟩
          obtain ⟨P9, e9⟩ : ∃ x, P8 + 8 = x := ⟨_, rfl⟩
          have q1 : 8 * (k : Int) = (P8 : Int) := by omega
          have q2 : (P8 : Int) + 4 = (P4 : Int) := by omega
          have q3 : (P8 : Int) + 8 = (P9 : Int) := by omega
          have b1 : P8 ≤ 9000000000000000000 := by omega
          have b2 : P4 ≤ 9000000000000000000 := by omega
          have b3 : P9 ≤ 9000000000000000000 := by omega
          obtain ⟨x1, ex1⟩ : ∃ x, nb l P8 4 = x := ⟨_, rfl⟩
          obtain ⟨x2, ex2⟩ : ∃ x, nb l P4 4 = x := ⟨_, rfl⟩
          have RD : ∀ u, Kept [] wr u → Reads u (some ⟨g, off, none⟩) l := fun u hu => HR.out.keep (HI.out.2.2.2.trans hu)
          obtain ⟨sa, fa, HA⟩ : ∃ sa : Value, (∀ u, Sem.run Tryz.prog (Instr.slice 28 (.slice (some ⟨g, off, none⟩) m cap) (some (.int .i64 (P8 : Int))) (some (.int .i64 (P4 : Int))) none) u = .ok sa u) ∧ Hid (∀ u, Kept [] wr u → Calls Tryz.prog 35 #[sa] u fun e w' => e = .returned (.int .i64 (x1 : Int)) ∧ w' = u) :=
            ⟨_, fun u => slice_cutz g off m cap P8 P4 (by omega) (by have := HC.out; have := HT.out; omega) u, Hid.mk (fun u hu => by rw [← ex1, show P4 - P8 = 4 by omega]; exact rsmall_any _ 4 _ _ u (reads_cut (RD u hu) P8 4 (by have := HC.out; have := HT.out; omega)) (byts_cut HBY.out P8 4) (by have := HC.out; have := HT.out; simp; omega) (by decide))⟩
          obtain ⟨sb, fb, HBq⟩ : ∃ sb : Value, (∀ u, Sem.run Tryz.prog (Instr.slice 28 (.slice (some ⟨g, off, none⟩) m cap) (some (.int .i64 (P4 : Int))) (some (.int .i64 (P9 : Int))) none) u = .ok sb u) ∧ Hid (∀ u, Kept [] wr u → Calls Tryz.prog 35 #[sb] u fun e w' => e = .returned (.int .i64 (x2 : Int)) ∧ w' = u) :=
            ⟨_, fun u => slice_cutz g off m cap P4 P9 (by omega) (by have := HC.out; have := HT.out; omega) u, Hid.mk (fun u hu => by rw [← ex2, show P9 - P4 = 4 by omega]; exact rsmall_any _ 4 _ _ u (reads_cut (RD u hu) P4 4 (by have := HC.out; have := HT.out; omega)) (byts_cut HBY.out P4 4) (by have := HC.out; have := HT.out; simp; omega) (by decide))⟩
          have lt2 : x2 < 4294967296 := by
            rw [← ex2]
            have h9 := nb_lt HBY.out (a := P4) (k := 4) (by have := HC.out; have := HT.out; omega)
            have p4 : (256 : Nat) ^ 4 = 4294967296 := by decide
            omega
          have u32 : IntKind.u32.wrap (x2 : Int) = (x2 : Int) := by unfold IntKind.wrap; simp [IntKind.bits, IntKind.signed]; omega
          have HXX : Hid (teln l N k = x1 ∧ tesu l N k = x2 ∧ nb l (8 * k) 4 = x1) := Hid.mk ⟨by unfold teln; rw [if_pos hlt, e8, ex1], by unfold tesu; rw [if_pos hlt, e8, e4, ex2], by rw [e8, ex1]⟩
          have v1 : wrap64 (8 * (k : Int)) = (P8 : Int) := w64n q1 b1
          have v2 : IntKind.i64.wrap (8 * (k : Int)) = (P8 : Int) := win q1 b1
          have v3 : wrap64 ((P8 : Int) + 4) = (P4 : Int) := w64n q2 b2
          have v4 : IntKind.i64.wrap ((P8 : Int) + 4) = (P4 : Int) := win q2 b2
          have v5 : wrap64 ((P8 : Int) + 8) = (P9 : Int) := w64n q3 b3
          have v6 : IntKind.i64.wrap ((P8 : Int) + 8) = (P9 : Int) := win q3 b3
          clear e8 e4 e9 q1 q2 q3 b1 b2 b3 ex1 ex2 RD lt2
          obtain ⟨AT, eAT⟩ : ∃ x, a0 + sm (teln l N) k = x := ⟨_, rfl⟩
          rw [eAT]
          go_upto_region 13 with (fail)
          go_cut [12] (fun s wc => ∃ Q : Nat, s = .pointer (some ⟨Q, 0, none⟩) ∧ Hid (wr.heap.size ≤ Q ∧ wc.heap[Q]? = some (.cells #[.int .i64 (AT : Int), .int .i64 (x1 : Int), .int .u32 (x2 : Int)] 87 (0, 0)) ∧ Kept [] wr wc))
          case first =>
            go_region_held_law (fun u => u.cell? ⟨B, 10, none⟩ = some (.int .i64 (N : Int))) (first | with_reducible exact h10 | (refine HS10.out _ ?_; repeat' (first | with_reducible exact Kept.refl _ _ | refine Kept.drew ?_ | refine Kept.alloc ?_ _ | refine Kept.setCell ?_ (.inr (Nat.le_refl _)) _))) (first | (go_at_call_of 35 sa; refine (HA.out _ (by repeat' (first | with_reducible exact Kept.refl _ _ | refine Kept.drew ?_ | refine Kept.alloc ?_ _))).mono ?_; rintro e w5 ⟨rfl, hw⟩; obtain rfl := hw.symm) | (go_at_call_of 35 sb; refine (HBq.out _ (by repeat' (first | with_reducible exact Kept.refl _ _ | refine Kept.drew ?_ | refine Kept.alloc ?_ _))).mono ?_; rintro e w5 ⟨rfl, hw⟩; obtain rfl := hw.symm))
            all_goals go_wp2
            all_goals go_meet
            all_goals exact ⟨_, rfl, Hid.mk ⟨Nat.le_refl _, heap_alloc_new _ _, ((Kept.refl [] wr).alloc _).drew⟩⟩
          case rest =>
            obtain ⟨Q, rfl, HQ⟩ := hcut
            obtain ⟨w5, rfl⟩ : ∃ w5, w5 = wc := ⟨_, rfl⟩
            have K5 := Hid.mk (HI.out.2.2.2.trans HQ.out.2.2)
            clear fa fb HA HBq v1 v2 v3 v4 v5 v6 u32 h10 HS10
            obtain ⟨c0, c1, c2⟩ := agg3z HQ.out.2.1
            by_cases hbig : 16777215 < x1
            · have d3 : decide ((16777215 : Int) < (x1 : Int)) = true := by simp; omega
              have HNO : Hid (tbok l N p ln = false) := Hid.mk (by
                have h9 := le_mxl (l := fun k => nb l (8 * k) 4) hlt
                have h8 : x1 ≤ mxl (fun k => nb l (8 * k) 4) N := by rw [← HXX.out.2.2]; exact h9
                unfold tbok
                rw [decide_eq_false (show ¬ mxl (fun k => nb l (8 * k) 4) N ≤ 16777215 by omega)]
                simp)
              go_wp2
              go_ret2
              exact NO.out HNO.out _ _ rfl K5.out
            · have d3 : decide ((16777215 : Int) < (x1 : Int)) = false := by simp; omega
              obtain ⟨FF, eF⟩ : ∃ x, mxl (fun i => nb l (8 * i) 4) k = x := ⟨_, rfl⟩
              rw [eF]
              have HF1 : Hid (mxl (fun i => nb l (8 * i) 4) (k + 1) = max FF x1) := Hid.mk (by rw [mxl, eF, HXX.out.2.2])
              obtain ⟨A2, eA2⟩ : ∃ x, AT + x1 = x := ⟨_, rfl⟩
              have q9 : (AT : Int) + (x1 : Int) = (A2 : Int) := by omega
              have HSM : Hid (a0 + sm (teln l N) (k + 1) = A2) := Hid.mk (by rw [sm, HXX.out.1]; omega)
              have bA : A2 ≤ 9000000000000000000 := by
                have h9 := sm_le (l := teln l N) (n := k) (b := 16777215) (fun i hi => by unfold teln; rw [if_pos (by omega)]; exact HI.out.2.1 i hi)
                have hkb : k * 16777215 ≤ 70000 * 16777215 := Nat.mul_le_mul_right _ (by omega)
                have := EA.out
                omega
              obtain ⟨w6, e6⟩ : ∃ x, w5.alloc (.cells #[.int .i64 (AT : Int), .int .i64 (x1 : Int), .int .u32 (x2 : Int)] 87 (0, 0)) = x := ⟨_, rfl⟩
              obtain ⟨T6, eT6⟩ : ∃ x, w5.heap.size = x := ⟨_, rfl⟩
              have k6 : Kept [] w5 w6 := by rw [← e6]; exact (Kept.refl [] w5).alloc _
              have HT6 := Hid.mk (show w6.heap[T6]? = some (.cells #[.int .i64 (AT : Int), .int .i64 (x1 : Int), .int .u32 (x2 : Int)] 87 (0, 0)) by rw [← e6, ← eT6]; exact heap_alloc_new _ _)
              have K6 := Hid.mk (K5.out.trans k6)
              have J6' := Hid.mk (HQ.out.2.2.trans k6)
              have O6 := Hid.mk (J6'.out.row HI.out.1 (by simp))
              have B6 := Hid.mk (J6'.out.heap HI.out.2.2.1 (by simp))
              have H16 : Hid (∀ v ∈ ([.int .i64 (AT : Int), .int .i64 (x1 : Int), .int .u32 (x2 : Int)] : List Value), v.oneCell' = true) := Hid.mk (by simp [Value.oneCell'])
              have HEN : Hid (enL a0 (teln l N) (tesu l N) (k + 1) = enL a0 (teln l N) (tesu l N) k ++ [.int .i64 (AT : Int), .int .i64 (x1 : Int), .int .u32 (x2 : Int)]) := Hid.mk (by rw [enL, HXX.out.1, HXX.out.2.1, eAT])
              have HJL : Hid (∀ j, j < k + 1 → nb l (8 * j) 4 ≤ 16777215) := Hid.mk (fun j hj => by
                by_cases e : j = k
                · subst e; rw [HXX.out.2.2]; omega
                · exact HI.out.2.1 j (by omega))
              have HFB : Hid (B + 0 < B + 1) := Hid.mk (by omega)
              have v1 : wrap64 ((AT : Int) + (x1 : Int)) = (A2 : Int) := w64n q9 bA
              have v2 : IntKind.i64.wrap ((AT : Int) + (x1 : Int)) = (A2 : Int) := win q9 bA
              clear k6 eA2 q9 bA eF eAT
              by_cases hf : FF < x1
              · have d6 : decide ((FF : Int) < (x1 : Int)) = true := by simp; omega
                have HMX : Hid (max FF x1 = x1) := Hid.mk (by omega)
                go_wp2_with (at_builtin; first | refine wpList_en w.heap.size _ rfl _ _ rfl _ k _ rfl O6.out T6 _ _ _ rfl HT6.out H16.out (by omega) K6.out.size ?_ | refine wpList_en w.heap.size _ rfl _ _ rfl _ k _ rfl (by rw [e6]; exact O6.out) w5.heap.size _ _ _ rfl (by rw [e6, eT6]; exact HT6.out) H16.out (by omega) (by rw [e6]; exact K6.out.size) ?_)
                intro g7 c7 w7 ho7 hk7
                try rw [e6] at hk7
                have far7 := own_far3 O6.out B6.out (by decide)
                have B7 := Hid.mk (hk7.heap B6.out (fun hm => (far7 _ hm).2 rfl))
                have K7 := Hid.mk (K6.out.step hk7 (fun x hx => .inr (far7 x hx).1))
                have O7 := Hid.mk ho7
                clear ho7 hk7 far7 e6 eT6
                go_wp2
                go_roundw
                case rel => exact ⟨k + 1, by omega, by go_num, by rw [HSM.out], by rw [HF1.out, HMX.out], Hid.mk ⟨by rw [HEN.out]; exact O7.out, HJL.out, B7.out, K7.out⟩⟩
                case measure => simp [intOf]; omega
              · have d6 : decide ((FF : Int) < (x1 : Int)) = false := by simp; omega
                have HMX : Hid (max FF x1 = FF) := Hid.mk (by omega)
                go_wp2_with (at_builtin; first | refine wpList_en w.heap.size _ rfl _ _ rfl _ k _ rfl O6.out T6 _ _ _ rfl HT6.out H16.out (by omega) K6.out.size ?_ | refine wpList_en w.heap.size _ rfl _ _ rfl _ k _ rfl (by rw [e6]; exact O6.out) w5.heap.size _ _ _ rfl (by rw [e6, eT6]; exact HT6.out) H16.out (by omega) (by rw [e6]; exact K6.out.size) ?_)
                intro g7 c7 w7 ho7 hk7
                try rw [e6] at hk7
                have far7 := own_far3 O6.out B6.out (by decide)
                have B7 := Hid.mk (hk7.heap B6.out (fun hm => (far7 _ hm).2 rfl))
                have K7 := Hid.mk (K6.out.step hk7 (fun x hx => .inr (far7 x hx).1))
                have O7 := Hid.mk ho7
                clear ho7 hk7 far7 e6 eT6
                go_wp2
                go_roundw
                case rel => exact ⟨k + 1, by omega, by go_num, by rw [HSM.out], by rw [HF1.out, HMX.out], Hid.mk ⟨by rw [HEN.out]; exact O7.out, HJL.out, B7.out, K7.out⟩⟩
                case measure => simp [intOf]; omega
        · obtain rfl : k = N := by omega
          obtain ⟨FM, eFM⟩ : ∃ x, mxl (fun i => nb l (8 * i) 4) k = x := ⟨_, rfl⟩
          rw [eFM]
          have HFM : Hid (FM ≤ 16777215 ∧ (∀ j, teln l k (k + j) = FM) ∧ ∀ j, tesu l k (k + j) = nb l (8 * k + 4 * j) 4) := Hid.mk ⟨by rw [← eFM]; exact mxl_le HI.out.2.1, fun j => by unfold teln; rw [if_neg (by omega), eFM], fun j => by unfold tesu; rw [if_neg (by omega), show k + j - k = j by omega]⟩
          have HFE := Hid.mk eFM
          have HIJ := Hid.mk HI.out.2.1
          have h10 := (cel13 HI.out.2.2.1).2.2.2.2.2.2.2.2.2.2.1
          have h11 := (cel13 HI.out.2.2.1).2.2.2.2.2.2.2.2.2.2.2.1
          have h12 := (cel13 HI.out.2.2.1).2.2.2.2.2.2.2.2.2.2.2.2
          clear eFM
          go_wp2_with (fail)
          clear h10 h11 h12
          go_loopw [8, 9, 13] (fun V at_ i wr => ∃ j : Nat, j ≤ p ∧ i = .int .i64 (j : Int) ∧ at_ = .int .i64 ((a0 + sm (teln l k) (k + j) : Nat) : Int) ∧ Hid (wr.ownsRow w.heap.size 87 3 V (k + j) (enL a0 (teln l k) (tesu l k) (k + j)) ∧ wr.heap[B]? = some (.cells #[.int .i64 W, .int .i64 H, .int .i64 D, .bool A, .int .i64 sw, .int .i64 sh, .int .i64 r0, .int .i64 r1, .int .i64 r2, .int .i64 r3, .int .i64 (k : Int), .int .i64 (p : Int), .int .i64 ln] 27 (0, 0)) ∧ Kept [] w wr)) (fun _ _ i _ => p - (intOf i).toNat)
          case atStart => exact ⟨0, Nat.zero_le _, rfl, rfl, Hid.mk ⟨HI.out.1, HI.out.2.2.1, HI.out.2.2.2⟩⟩
          case round =>
            obtain ⟨j, hj, rfl, rfl, HJ⟩ := hrel
            have h10 := (cel13 HJ.out.2.1).2.2.2.2.2.2.2.2.2.2.1
            have h11 := (cel13 HJ.out.2.1).2.2.2.2.2.2.2.2.2.2.2.1
            have h12 := (cel13 HJ.out.2.1).2.2.2.2.2.2.2.2.2.2.2.2
            have hpp : p ≤ 16 := HC.out.2.2.2.2.2.2
            have bS : a0 + sm (teln l k) (k + j) ≤ 9000000000000 := by
              have h9 := sm_le (l := teln l k) (n := k + j) (b := 16777215) (fun i hi => by
                by_cases e : i < k
                · unfold teln; rw [if_pos e]; exact HIJ.out i e
                · have h8 := HFM.out.2.1 (i - k)
                  rw [show k + (i - k) = i by omega] at h8
                  rw [h8]; exact HFM.out.1)
              have hkb : (k + j) * 16777215 ≤ 70016 * 16777215 := Nat.mul_le_mul_right _ (by omega)
              have := EA.out
              omega
            obtain ⟨AT, eAT⟩ : ∃ x, a0 + sm (teln l k) (k + j) = x := ⟨_, rfl⟩
            rw [eAT] at bS ⊢
            by_cases hlt2 : j < p
            · have ij : (j : Int) < (p : Int) := by omega
              obtain ⟨P8, e8⟩ : ∃ x, 8 * k = x := ⟨_, rfl⟩
              obtain ⟨P4, e4⟩ : ∃ x, 4 * j = x := ⟨_, rfl⟩
              obtain ⟨I0, eI⟩ : ∃ x, P8 + P4 = x := ⟨_, rfl⟩
              obtain ⟨I4, eI4⟩ : ∃ x, I0 + 4 = x := ⟨_, rfl⟩
              have q1 : 8 * (k : Int) = (P8 : Int) := by omega
              have q2 : 4 * (j : Int) = (P4 : Int) := by omega
              have q3 : (P8 : Int) + (P4 : Int) = (I0 : Int) := by omega
              have q4 : (I0 : Int) + 4 = (I4 : Int) := by omega
              have b1 : P8 ≤ 9000000000000000000 := by omega
              have b2 : P4 ≤ 9000000000000000000 := by omega
              have b3 : I0 ≤ 9000000000000000000 := by omega
              have b4 : I4 ≤ 9000000000000000000 := by omega
              obtain ⟨y, ey⟩ : ∃ x, nb l I0 4 = x := ⟨_, rfl⟩
              have RD : ∀ u, Kept [] wr u → Reads u (some ⟨g, off, none⟩) l := fun u hu => HR.out.keep (HJ.out.2.2.trans hu)
              obtain ⟨sa, fa, HA⟩ : ∃ sa : Value, (∀ u, Sem.run Tryz.prog (Instr.slice 28 (.slice (some ⟨g, off, none⟩) m cap) (some (.int .i64 (I0 : Int))) (some (.int .i64 (I4 : Int))) none) u = .ok sa u) ∧ Hid (∀ u, Kept [] wr u → Calls Tryz.prog 35 #[sa] u fun e w' => e = .returned (.int .i64 (y : Int)) ∧ w' = u) :=
                ⟨_, fun u => slice_cutz g off m cap I0 I4 (by omega) (by have := HC.out; have := HT.out; omega) u, Hid.mk (fun u hu => by rw [← ey, show I4 - I0 = 4 by omega]; exact rsmall_any _ 4 _ _ u (reads_cut (RD u hu) I0 4 (by have := HC.out; have := HT.out; omega)) (byts_cut HBY.out I0 4) (by have := HC.out; have := HT.out; simp; omega) (by decide))⟩
              have lt2 : y < 4294967296 := by
                rw [← ey]
                have h9 := nb_lt HBY.out (a := I0) (k := 4) (by have := HC.out; have := HT.out; omega)
                have p4 : (256 : Nat) ^ 4 = 4294967296 := by decide
                omega
              have u32 : IntKind.u32.wrap (y : Int) = (y : Int) := by unfold IntKind.wrap; simp [IntKind.bits, IntKind.signed]; omega
              have v1 : wrap64 (8 * (k : Int)) = (P8 : Int) := w64n q1 b1
              have v2 : IntKind.i64.wrap (8 * (k : Int)) = (P8 : Int) := win q1 b1
              have v3 : wrap64 (4 * (j : Int)) = (P4 : Int) := w64n q2 b2
              have v4 : IntKind.i64.wrap (4 * (j : Int)) = (P4 : Int) := win q2 b2
              have v5 : wrap64 ((P8 : Int) + (P4 : Int)) = (I0 : Int) := w64n q3 b3
              have v6 : IntKind.i64.wrap ((P8 : Int) + (P4 : Int)) = (I0 : Int) := win q3 b3
              have v7 : wrap64 ((I0 : Int) + 4) = (I4 : Int) := w64n q4 b4
              have v8 : IntKind.i64.wrap ((I0 : Int) + 4) = (I4 : Int) := win q4 b4
              obtain ⟨A2, eA2⟩ : ∃ x, AT + FM = x := ⟨_, rfl⟩
              have q9 : (AT : Int) + (FM : Int) = (A2 : Int) := by omega
              have bA : A2 ≤ 9000000000000000000 := by have := HFM.out.1; omega
              have v9 : wrap64 ((AT : Int) + (FM : Int)) = (A2 : Int) := w64n q9 bA
              have v10 : IntKind.i64.wrap ((AT : Int) + (FM : Int)) = (A2 : Int) := win q9 bA
              have HSM : Hid (a0 + sm (teln l k) (k + (j + 1)) = A2) := Hid.mk (by rw [← Nat.add_assoc, sm, HFM.out.2.1]; omega)
              have HEN : Hid (enL a0 (teln l k) (tesu l k) (k + (j + 1)) = enL a0 (teln l k) (tesu l k) (k + j) ++ [.int .i64 (AT : Int), .int .i64 (FM : Int), .int .u32 (y : Int)]) := Hid.mk (by rw [← Nat.add_assoc, enL, HFM.out.2.1, HFM.out.2.2, eAT, e8, e4, eI, ey])
              have H16 : Hid (∀ v ∈ ([.int .i64 (AT : Int), .int .i64 (FM : Int), .int .u32 (y : Int)] : List Value), v.oneCell' = true) := Hid.mk (by simp [Value.oneCell'])
              obtain ⟨w6, e6⟩ : ∃ x, wr.alloc (.cells #[.int .i64 (AT : Int), .int .i64 (FM : Int), .int .u32 (y : Int)] 87 (0, 0)) = x := ⟨_, rfl⟩
              have k6 : Kept [] wr w6 := by rw [← e6]; exact (Kept.refl [] wr).alloc _
              have HT6 := Hid.mk (show w6.heap[wr.heap.size]? = some (.cells #[.int .i64 (AT : Int), .int .i64 (FM : Int), .int .u32 (y : Int)] 87 (0, 0)) by rw [← e6]; exact heap_alloc_new _ _)
              have K6 := Hid.mk (HJ.out.2.2.trans k6)
              have O6 := Hid.mk (k6.row HJ.out.1 (by simp))
              have B6 := Hid.mk (k6.heap HJ.out.2.1 (by simp))
              have HAu := Hid.mk (HA.out wr (Kept.refl _ _))
              clear e8 e4 eI eI4 q1 q2 q3 q4 b1 b2 b3 b4 ey RD lt2 eA2 q9 bA k6 bS eAT HA
              go_wp2_with (first | (go_at_call_of 35 sa; refine HAu.out.mono ?_; intro e ws hws; obtain ⟨he, hws⟩ := hws; rw [he, hws]; clear he hws) | (at_builtin; first | refine wpList_en w.heap.size _ rfl _ _ rfl _ (k + j) _ rfl O6.out wr.heap.size _ _ _ rfl HT6.out H16.out (by omega) K6.out.size ?_ | refine wpList_en w.heap.size _ rfl _ _ rfl _ (k + j) _ rfl (by rw [e6]; exact O6.out) wr.heap.size _ _ _ rfl (by rw [e6]; exact HT6.out) H16.out (by omega) (by rw [e6]; exact K6.out.size) ?_))
              intro g7 c7 w7 ho7 hk7
              try rw [e6] at hk7
              have far7 := own_far3 O6.out B6.out (by decide)
              have B7 := Hid.mk (hk7.heap B6.out (fun hm => (far7 _ hm).2 rfl))
              have K7 := Hid.mk (K6.out.step hk7 (fun x hx => .inr (far7 x hx).1))
              have O7 := Hid.mk ho7
              clear ho7 hk7 far7 e6 fa v1 v2 v3 v4 v5 v6 v7 v8 u32 h10 h11 h12
              go_wp2
              go_roundw
              case rel => exact ⟨j + 1, by omega, by go_num, by rw [HSM.out], Hid.mk ⟨by rw [HEN.out]; exact O7.out, B7.out, K7.out⟩⟩
              case measure => simp [intOf]; omega
            · obtain rfl : j = p := by omega
              have HRC : Hid (rcl (fun k => nb l (8 * k) 4) k j = AT) := Hid.mk (by
                have h9 := EA.out.1
                unfold rcl
                rw [← eAT, sm_teln]
                omega)
              have EAT := Hid.mk eAT
              clear eAT
              by_cases hL : (AT : Int) = ln
              · have HOK : Hid (tbok l k j ln = true) := Hid.mk (by
                  have h1 := HT.out
                  have h2 := HXY.out
                  have h3 := HC.out
                  unfold tbok
                  rw [HFE.out, HRC.out, h1.1, h2.1, h2.2, decide_eq_true (by omega : s0 + 4 ≤ l.length), decide_eq_true rfl, decide_eq_true HFM.out.1, decide_eq_true hL]; rfl)
                have d7 : ((AT : Int) != ln) = false := by simp [hL]
                have d8 : decide ((AT : Int) = ln) = true := by simp [hL]
                clear hL
                go_wp2
                go_ret2
                exact ⟨_, by unfold tbE; rw [HOK.out]; rfl, by unfold tbN tbX; rw [HOK.out, EA.out.1]; exact HJ.out.1, HJ.out.2.2⟩
              · have d7 : ((AT : Int) != ln) = true := by simp [hL]
                have d8 : decide ((AT : Int) = ln) = false := by simp [hL]
                have HNO : Hid (tbok l k j ln = false) := Hid.mk (by unfold tbok; rw [HRC.out, decide_eq_false hL]; simp)
                clear hL
                go_wp2
                go_ret2
                exact NO.out HNO.out _ _ rfl HJ.out.2.2
    · have d5 : ((y : Int) != (x : Int)) = true := by simp; omega
      have d4 : ((y : Int) == (x : Int)) = false := by simp; omega
      have d4n : (y == x) = false := by simp [hxy]
      have d5n : (y != x) = true := by simp [hxy]
      have HNO : Hid (tbok l N p ln = false) := Hid.mk (by have h1 := HT.out; have h2 := HXY.out; unfold tbok; rw [h1.1, h2.1, h2.2, decide_eq_false (show ¬ x = y from fun h => hxy h.symm)]; simp)
      go_wp2_with (fail)
      refine wp_region_kept (by kernel_rfl) (by kernel_rfl) ?_
      repeat (go_big_quiet_step ((first | (go_at_call 35; exact QS.out _ _ _ (by first | rfl | simp [Addr.add] | (unfold Addr.add; split <;> simp_all))) | (go_at_call 36; exact QU.out _))))
      refine wpQuiet_nil ?_
      rintro _ ⟨z, rfl⟩
      have KZ := Hid.mk (K3.out.trans z.h)
      generalize z.u = wz at *
      clear NE z QS QU
      go_wp2
      go_ret2
      exact NO.out HNO.out _ _ rfl KZ.out

set_option maxHeartbeats 8000000 in
set_option maxRecDepth 1000000 in
theorem rtable_no (W H D : Int) (A : Bool) (sw sh : Int) (r : Nat → Int) (N p ln : Int) (ao : Option Addr) (m cap : Nat) (w : World) (hR : rgt W H D A sw sh r N p ln = false) :
    Calls Tryz.prog 9 #[hvv W H D A sw sh r N p ln, .slice ao m cap] w fun e w' => e = .returned (.tuple #[.slice none 0 0, .int .i64 123]) ∧ Kept [] w w' := by
  have C1 := Hid.mk (fun u => rRight_any W H D A sw sh r N p ln u)
  rw [hR] at C1
  obtain ⟨r0, er0⟩ : ∃ x, r 0 = x := ⟨_, rfl⟩
  obtain ⟨r1, er1⟩ : ∃ x, r 1 = x := ⟨_, rfl⟩
  obtain ⟨r2, er2⟩ : ∃ x, r 2 = x := ⟨_, rfl⟩
  obtain ⟨r3, er3⟩ : ∃ x, r 3 = x := ⟨_, rfl⟩
  have e9 : hvv W H D A sw sh r N p ln = .agg #[.int .i64 W, .int .i64 H, .int .i64 D, .bool A, .int .i64 sw, .int .i64 sh, .int .i64 r0, .int .i64 r1, .int .i64 r2, .int .i64 r3, .int .i64 N, .int .i64 p, .int .i64 ln] := by unfold hvv; rw [er0, er1, er2, er3]
  rw [e9] at C1 ⊢
  obtain ⟨w1, e1⟩ : ∃ w1, w.alloc (.cells #[.int .i64 W, .int .i64 H, .int .i64 D, .bool A, .int .i64 sw, .int .i64 sh, .int .i64 r0, .int .i64 r1, .int .i64 r2, .int .i64 r3, .int .i64 N, .int .i64 p, .int .i64 ln] 27 (0, 0)) = w1 := ⟨_, rfl⟩
  obtain ⟨B, eB⟩ : ∃ B, w.heap.size = B := ⟨_, rfl⟩
  have K1 : Hid (Kept [] w w1) := Hid.mk (by rw [← e1]; exact (Kept.refl [] w).alloc _)
  have HB1 := Hid.mk (show w1.heap[B]? = some (.cells #[.int .i64 W, .int .i64 H, .int .i64 D, .bool A, .int .i64 sw, .int .i64 sh, .int .i64 r0, .int .i64 r1, .int .i64 r2, .int .i64 r3, .int .i64 N, .int .i64 p, .int .i64 ln] 27 (0, 0)) by rw [← e1, ← eB]; exact heap_alloc_new _ _)
  obtain ⟨h0, h1, h2, h3, h4, h5, h6, h7, h8, h9, h10, h11, h12⟩ := cel13 HB1.out
  clear hR er0 er1 er2 er3 e9 HB1
  go_enter Tryz.func9, Tryz.ntmps9
  go_wp2_with (fail)
  clear e1 eB
  refine (C1.out _).mono ?_
  rintro e w2 ⟨rfl, k2⟩
  have K2 := Hid.mk (K1.out.trans k2)
  clear h0 h1 h2 h3 h4 h5 h6 h7 h8 h9 h10 h11 h12 C1 k2
  go_wp2
  go_ret2
  exact ⟨rfl, K2.out⟩
/-- The document's Table of any head and bytes. -/
theorem rtable_any (W H D : Int) (A : Bool) (sw sh : Int) (r : Nat → Int) (N p ln : Int) (ao : Option Addr) (m cap : Nat) (l : List Nat) (w : World) (hr : Reads w ao l) (hb : Byts l) (hm : l.length = m) (hc : m ≤ cap) (hcap : cap ≤ 9223372036854775807) :
    Calls Tryz.prog 9 #[hvv W H D A sw sh r N p ln, .slice ao m cap] w fun e w' => ∃ V, e = .returned (.tuple #[V, .int .i64 (tbE (rgt W H D A sw sh r N p ln) l N.toNat p.toNat ln)]) ∧ w'.ownsRow w.heap.size 87 3 V (tbN (rgt W H D A sw sh r N p ln) l N.toNat p.toNat ln) (tbX (rgt W H D A sw sh r N p ln) l N.toNat p.toNat ln) ∧ Kept [] w w' := by
  cases hR : rgt W H D A sw sh r N p ln with
  | false => exact (rtable_no W H D A sw sh r N p ln ao m cap w hR).mono (fun e w' h => ⟨.slice none 0 0, h.1, own_none3 _ _, h.2⟩)
  | true =>
    obtain ⟨n, q, rfl, rfl, h1, h2, h3, _⟩ := rgt_nm hR
    exact rtable_yes W H D A sw sh r n q ln ao m cap l w hr hb hm hc hcap hR h1 h2 h3
end Go.Proofs.YthhegomjipbdbaaGreatDoor.Pc
