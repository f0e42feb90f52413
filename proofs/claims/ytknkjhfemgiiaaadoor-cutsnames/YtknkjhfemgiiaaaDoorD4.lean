import Derived.Test.YtknkjhfemgiiaaaDoorD3
namespace Go.Proofs.YtknkjhfemgiiaaaDoor
open Go.RowKit Go.Lib

/-- What a text's number is: the number, the place and the number of what is wrong. -/
def NR (r : Int) (s : ByteArray) (x at' E : Int) : Prop :=
  ((r < 1 ∨ 7 < r) ∧ x = 0 ∧ at' = 0 ∧ E = 181) ∨
  (Rt r ∧ ∃ k : Nat, Bd (rl r) s k ∧ x = 0 ∧ at' = k ∧ E = 182) ∨
  (Rt r ∧ Gd (rl r) s ∧ ckE (rc r) (fv s 11 0) (fv s 11 1) (fv s 11 2) (fv s 11 3) (rl r) ≠ 0 ∧ x = 0 ∧ at' = ckA (rc r) (fv s 11 0) (fv s 11 1) (fv s 11 2) (fv s 11 3) (rl r) ∧ E = ckE (rc r) (fv s 11 0) (fv s 11 1) (fv s 11 2) (fv s 11 3) (rl r)) ∨
  (Rt r ∧ Gd (rl r) s ∧ ckE (rc r) (fv s 11 0) (fv s 11 1) (fv s 11 2) (fv s 11 3) (rl r) = 0 ∧ x = nmb (rc r) (rl r) (fv s 11 0) (fv s 11 1) (fv s 11 2) (fv s 11 3) ∧ at' = 0 ∧ E = 0)

/-- An error that tells a place and a number; none. -/
def Er (w : World) (v : Value) (A E : Int) : Prop := (E = 0 ∧ A = 0 ∧ v = .nilIface) ∨ (E ≠ 0 ∧ ∃ Q, v = .iface 45 (.pointer (some ⟨Q, 0, none⟩)) ∧ w.heap[Q]? = some (.cells #[.int .i64 A, .int .i64 E] 48 (0, 0)))
theorem Er.keep {w w' : World} {v : Value} {A E : Int} (h : Er w v A E) (hk : Kept [] w w') : Er w' v A E := by
  rcases h with h | ⟨h, Q, h1, h2⟩
  · exact .inl h
  · exact .inr ⟨h, Q, h1, hk.heap h2 (by simp)⟩
/-- What Number leaves. -/
def NmP (r : Int) (s : ByteArray) (w : World) (e : Ending) (w' : World) : Prop := ∃ x A E v, NR r s x A E ∧ e = .returned (.tuple #[.int .i64 x, v]) ∧ Er w' v A E ∧ Kept [] w w'

set_option maxHeartbeats 2000000 in
theorem Number_no (r : Int) (s : ByteArray) (w : World) (h : r < 1 ∨ 7 < r) : Calls Tryd.prog 50 #[.int .i64 r, .string s] w fun e w' => NmP r s w e w' := by
  have C1 := Hid.mk (fun u => paceOf_no r u h)
  have HN : Hid (NR r s 0 0 181) := Hid.mk (.inl ⟨h, rfl, rfl, rfl⟩)
  clear h
  go_enter Tryd.func50, Tryd.ntmps50
  go_wp2_with (go_at_call 57; refine (C1.out _).mono ?_; rintro e w1 ⟨rfl, k1⟩)
  go_ret2
  refine ⟨0, 0, 181, _, HN.out, rfl, .inr ⟨by decide, w1.heap.size + 1, rfl, ?_⟩, (k1.alloc _).alloc _⟩
  have := blk_new (w1.alloc (.cells #[.int .i64 0, .int .i64 0, .int .i64 0, .int .i64 0] 116 (0, 0))) #[.int .i64 0, .int .i64 181] 48
  simpa using this

set_option maxHeartbeats 8000000 in
set_option maxRecDepth 1000000 in
theorem Number_rt (r : Int) (s : ByteArray) (w : World) (h : Rt r) (hT : Tb w) (hs : s.size ≤ maxLen) : Calls Tryd.prog 50 #[.int .i64 r, .string s] w fun e w' => NmP r s w e w' := by
  have hb := h.pb
  have C1 := Hid.mk (fun u x => paceOf_yes r u h x)
  have C2 := Hid.mk (fun u => read_any (rc r) (ra r) (rb r) (rl r) s u hs)
  have C3 := Hid.mk (fun (h m x f : Int) u (m0 : 0 ≤ m) => check_any (rc r) (ra r) (rb r) (rl r) h m x f u m0)
  have C4 := Hid.mk (fun (h m x f : Int) u => number_any (rc r) (ra r) (rb r) (rl r) h m x f u hb)
  have HT := Hid.mk hT
  have N1 : Hid (∀ k : Nat, Bd (rl r) s k → NR r s 0 k 182) := Hid.mk fun k hk => .inr (.inl ⟨h, k, hk, rfl, rfl, rfl⟩)
  have N2 : Hid (Gd (rl r) s → ckE (rc r) (fv s 11 0) (fv s 11 1) (fv s 11 2) (fv s 11 3) (rl r) ≠ 0 → NR r s 0 (ckA (rc r) (fv s 11 0) (fv s 11 1) (fv s 11 2) (fv s 11 3) (rl r)) (ckE (rc r) (fv s 11 0) (fv s 11 1) (fv s 11 2) (fv s 11 3) (rl r))) := Hid.mk fun g n => .inr (.inr (.inl ⟨h, g, n, rfl, rfl, rfl⟩))
  have N3 : Hid (Gd (rl r) s → ckE (rc r) (fv s 11 0) (fv s 11 1) (fv s 11 2) (fv s 11 3) (rl r) = 0 → NR r s (nmb (rc r) (rl r) (fv s 11 0) (fv s 11 1) (fv s 11 2) (fv s 11 3)) 0 0) := Hid.mk fun g n => .inr (.inr (.inr ⟨h, g, n, rfl, rfl, rfl⟩))
  have FB : Hid (Gd (rl r) s → ∀ j, 0 ≤ fv s 11 j ∧ fv s 11 j ≤ 99) := Hid.mk fun g j => ⟨(fv_bd g.2 j).1, (fv_bd g.2 j).2.1⟩
  clear h hT hb hs
  generalize rc r = c at *
  generalize ra r = a at *
  generalize rb r = b at *
  generalize rl r = l at *
  go_enter Tryd.func50, Tryd.ntmps50
  go_wp2_with (go_at_call 57; refine (C1.out _ HT.out).mono ?_; rintro e w1 ⟨rfl, k1⟩)
  obtain ⟨w2, e2⟩ : ∃ w2, w1.alloc (.cells #[.int .i64 c, .int .i64 a, .int .i64 b, .int .i64 l] 116 (0, 0)) = w2 := ⟨_, rfl⟩
  have F := four_new w1 c a b l 116
  have K2 : Kept [] w w2 := by rw [← e2]; exact k1.alloc _
  rw [e2] at F ⊢
  clear e2 k1
  refine (C2.out w2).mono ?_
  rintro e w3 ⟨hP, k3⟩
  have F3 := F.keep k3 (by simp)
  have HK3 := Hid.mk (K2.trans k3)
  clear F K2 k3
  rcases hP with ⟨hg, rfl⟩ | ⟨k, hbd, rfl⟩
  · have fb := FB.out hg
    have N2 := Hid.mk (N2.out hg)
    have N3 := Hid.mk (N3.out hg)
    obtain ⟨f00, f01⟩ := fb 0
    obtain ⟨f10, f11⟩ := fb 1
    obtain ⟨f20, f21⟩ := fb 2
    obtain ⟨f30, f31⟩ := fb 3
    clear fb FB hg N1
    generalize fv s 11 0 = y0 at *
    generalize fv s 11 1 = y1 at *
    generalize fv s 11 2 = y2 at *
    generalize fv s 11 3 = y3 at *
    have C3 := Hid.mk (fun u => C3.out y0 y1 y2 y3 u f10)
    have C4 := Hid.mk (fun u => C4.out y0 y1 y2 y3 u f00 f01 f10 f11 f20 f21 f30 f31)
    generalize nmb c l y0 y1 y2 y3 = X at *
    generalize ckA c y0 y1 y2 y3 l = A at *
    generalize ckE c y0 y1 y2 y3 l = E at *
    obtain ⟨w4, e4⟩ : ∃ w4, w3.alloc (.cells #[.int .i64 y0, .int .i64 y1, .int .i64 y2, .int .i64 y3] 122 (0, 0)) = w4 := ⟨_, rfl⟩
    have K4 : Kept [] w3 w4 := by rw [← e4]; exact alloc_kept _ _
    have G := four_new w3 y0 y1 y2 y3 122
    rw [e4] at G
    have F4' := F3.keep K4 (by simp)
    have HF := Hid.mk F4'
    have HG := Hid.mk G
    have HK4 := Hid.mk (HK3.out.trans K4)
    obtain ⟨p0, p1, p2, p3⟩ := F4'
    obtain ⟨q0, q1, q2, q3⟩ := G
    clear F3 HK3 K4
    by_cases hE : E = 0
    · have M3 := Hid.mk (N3.out hE)
      clear N3
      subst hE
      clear N2
      go_wp2_with (first | (go_at_call 67; refine (C3.out _).mono ?_; rintro e w5 ⟨rfl, k5⟩; obtain ⟨x0, x1, x2, x3⟩ := HF.out.keep k5 (by simp); obtain ⟨z0, z1, z2, z3⟩ := HG.out.keep k5 (by simp); have HK5 := Hid.mk (HK4.out.trans k5); clear k5) | (go_at_call 68; refine (C4.out _).mono ?_; rintro e w6 ⟨rfl, k6⟩))
      go_ret2
      exact ⟨X, 0, 0, _, M3.out, rfl, .inl ⟨rfl, rfl, rfl⟩, HK5.out.trans k6⟩
    · have N2 := Hid.mk (N2.out hE)
      have t1 : (E == 0) = false := by simpa using hE
      have t2 : (E != 0) = true := by simpa using hE
      clear N3
      go_wp2_with (first | (go_at_call 67; refine (C3.out _).mono ?_; rintro e w5 ⟨rfl, k5⟩; obtain ⟨x0, x1, x2, x3⟩ := HF.out.keep k5 (by simp); obtain ⟨z0, z1, z2, z3⟩ := HG.out.keep k5 (by simp); have HK5 := Hid.mk (HK4.out.trans k5); clear k5) | (go_at_call 68; refine (C4.out _).mono ?_; rintro e w6 ⟨rfl, k6⟩))
      go_ret2
      exact ⟨0, A, E, _, N2.out, rfl, .inr ⟨hE, w5.heap.size, rfl, blk_new _ _ _⟩, HK5.out.alloc _⟩
  · have N1 := Hid.mk (N1.out k hbd)
    obtain ⟨q, hq⟩ : ∃ q : Int, (k : Int) = q := ⟨_, rfl⟩
    rw [hq] at N1
    simp only [hq]
    clear N2 N3 FB C3 C4 hbd hq
    obtain ⟨p0, p1, p2, p3⟩ := F3
    go_wp2
    go_ret2
    refine ⟨0, q, 182, _, N1.out, rfl, .inr ⟨by decide, w3.heap.size + 1, rfl, ?_⟩, (HK3.out.alloc _).alloc _⟩
    have := blk_new (w3.alloc (.cells #[.int .i64 0, .int .i64 0, .int .i64 0, .int .i64 0] 122 (0, 0))) #[.int .i64 q, .int .i64 182] 48
    simpa using this
theorem Number_any (r : Int) (s : ByteArray) (w : World) (hT : Tb w) (hs : s.size ≤ maxLen) : Calls Tryd.prog 50 #[.int .i64 r, .string s] w fun e w' => NmP r s w e w' := by
  by_cases h : 1 ≤ r ∧ r ≤ 7
  · exact Number_rt r s w h hT hs
  · exact Number_no r s w (by omega)
end Go.Proofs.YtknkjhfemgiiaaaDoor
