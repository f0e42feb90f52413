import Derived.Test.YtahoeodpjdbdkaaDoorV02
namespace Go.Proofs.YtahoeodpjdbdkaaDoor
open Go.RowKit

/-- The rate behind i stretches. -/
def ri (r i : Nat) : Nat := min (r + i) 22

/-- What Get of a run comes to. -/
def RunRes (l : List Nat) (t r room : Nat) (X E : Int) (t' r' : Nat) : Prop :=
  ∃ i, (∀ a, a < i → nextN l (t + a) 1 = 1) ∧ S r i ≤ room ∧ t + i ≤ 8 * l.length ∧
    ((S r i = room ∧ X = (room : Int) ∧ E = 0 ∧ t' = t + i ∧ r' = ri r i) ∨
     (S r i < room ∧ t + i < 8 * l.length ∧ nextN l (t + i) 1 = 1 ∧ room < S r (i + 1) ∧ X = (room : Int) ∧ E = 0 ∧ t' = t + i + 1 ∧ r' = ri r i) ∨
     (S r i < room ∧ t + i < 8 * l.length ∧ nextN l (t + i) 1 = 0 ∧ t + i + 1 + J (ri r i) ≤ 8 * l.length ∧ S r i + nextN l (t + i + 1) (J (ri r i)) < room ∧
       X = ((S r i + nextN l (t + i + 1) (J (ri r i)) : Nat) : Int) ∧ E = 0 ∧ t' = t + i + 1 + J (ri r i) ∧ r' = ri r i - 1) ∨
     (S r i < room ∧ X = 0 ∧ t' = t ∧ r' = r ∧ E = 23 ∧ (t + i = 8 * l.length ∨ (t + i < 8 * l.length ∧ nextN l (t + i) 1 = 0 ∧ 8 * l.length < t + i + 1 + J (ri r i)))) ∨
     (S r i < room ∧ t + i < 8 * l.length ∧ X = 0 ∧ t' = t ∧ r' = r ∧ E = 24 ∧ nextN l (t + i) 1 = 0 ∧ t + i + 1 + J (ri r i) ≤ 8 * l.length ∧ room ≤ S r i + nextN l (t + i + 1) (J (ri r i))))

theorem rm_ri (r n : Nat) : rm r n = ri r (cnt r n) := rfl
theorem ri_le (r i : Nat) : ri r i ≤ 22 := by unfold ri; omega
theorem S_succ (r i : Nat) : S r (i + 1) = S r i + 2 ^ J (ri r i) := rfl

theorem run_short {r n room : Nat} (h : n < room) : rw_ r n room = cnt r n + 1 + J (ri r (cnt r n)) ∧ rf r n room = (2 ^ cnt r n - 1) * 2 ^ (1 + J (ri r (cnt r n))) + (n - S r (cnt r n)) ∧ rr r n room = ri r (cnt r n) - 1 := by
  unfold rw_ rf rr; rw [if_pos h, if_pos h, if_pos h]; exact ⟨rfl, rfl, rfl⟩
theorem run_full {r room : Nat} (h : S r (cnt r room) = room) : rw_ r room room = cnt r room ∧ rf r room room = 2 ^ cnt r room - 1 ∧ rr r room room = ri r (cnt r room) := by
  have h0 : ¬ room < room := by omega
  have h1 : rw_ r room room = cnt r room := by unfold rw_; rw [if_neg h0, if_neg (by omega)]
  unfold rf rr
  rw [if_neg h0, if_neg h0, h1]; exact ⟨rfl, rfl, rfl⟩
theorem run_over {r room : Nat} (h : S r (cnt r room) < room) : rw_ r room room = cnt r room + 1 ∧ rf r room room = 2 ^ (cnt r room + 1) - 1 ∧ rr r room room = ri r (cnt r room) := by
  have h0 : ¬ room < room := by omega
  have h1 : rw_ r room room = cnt r room + 1 := by unfold rw_; rw [if_neg h0, if_pos h]
  unfold rf rr
  rw [if_neg h0, if_neg h0, h1]; exact ⟨rfl, rfl, rfl⟩

/-- A run's bits that end in a nought and a number. -/
theorem next_run (l : List Nat) (t i j : Nat) (h : t + i + 1 + j ≤ 8 * l.length) (ho : ∀ a, a < i → nextN l (t + a) 1 = 1) (hz : nextN l (t + i) 1 = 0) :
    nextN l t (i + 1 + j) = (2 ^ i - 1) * 2 ^ (1 + j) + nextN l (t + i + 1) j := by
  have e1 := nextN_join l t (i + 1) j (by omega)
  have e2 := nextN_join l t i 1 (by omega)
  rw [ones_next l t i (by omega) ho, hz] at e2
  rw [e1, e2, show t + (i + 1) = t + i + 1 by omega, Nat.pow_add, Nat.add_zero, Nat.mul_assoc]

theorem run_next (l : List Nat) (t i j low : Nat) (h : t + i + 1 + j ≤ 8 * l.length) (hl : low < 2 ^ j) (hn : nextN l t (i + 1 + j) = (2 ^ i - 1) * 2 ^ (1 + j) + low) :
    (∀ a, a < i → nextN l (t + a) 1 = 1) ∧ nextN l (t + i) 1 = 0 ∧ nextN l (t + i + 1) j = low := by
  have e1 := nextN_join l t (i + 1) j (by omega)
  have e2 := nextN_join l t i 1 (by omega)
  rw [show t + (i + 1) = t + i + 1 by omega] at e1
  have b1 := nextN_lt l (t + i + 1) j
  have b2 := bit_lt l (t + i)
  rw [hn] at e1
  have h3 : nextN l t (i + 1) = (2 ^ i - 1) * 2 := by
    have d1 := two_parts ((2 ^ i - 1) * 2) j low hl
    have d2 := two_parts (nextN l t (i + 1)) j _ b1
    rw [← e1, Nat.pow_add, Nat.pow_one, ← Nat.mul_assoc] at d2
    rw [← d2.1, d1.1]
  have h5 : nextN l (t + i + 1) j = low := by
    rw [h3, Nat.pow_add, Nat.pow_one, ← Nat.mul_assoc] at e1
    omega
  rw [h3] at e2
  exact ⟨next_ones l t i (by omega) (by omega), by omega, h5⟩

theorem runs_same {l : List Nat} {t i j : Nat} (hz : nextN l (t + i) 1 = 0) (hj : ∀ a, a < j → nextN l (t + a) 1 = 1) : j ≤ i := by
  rcases Nat.lt_or_ge i j with h | h
  · have := hj i h; omega
  · exact h

/-- Where the next bits are a run's, that run is read. -/
theorem runRes_form {l : List Nat} {t r room n : Nat} {X E : Int} {t' r' : Nat} (h : RunRes l t r room X E t' r') (hn : n ≤ room) (hl : t + rw_ r n room ≤ 8 * l.length) (hb : nextN l t (rw_ r n room) = rf r n room) :
    X = (n : Int) ∧ E = 0 ∧ t' = t + rw_ r n room ∧ r' = rr r n room := by
  have c1 := cnt_lo r n
  have c2 := cnt_hi r n
  have c3 := left_lt r n
  obtain ⟨i, ho, hS, hti, hc⟩ := h
  by_cases hlt : n < room
  · obtain ⟨e1, e2, e3⟩ := run_short (r := r) hlt
    rw [e1, e2] at hb
    rw [e1] at hl ⊢
    rw [e3]
    rw [rm_ri] at c3
    obtain ⟨o, z, nx⟩ := run_next l t _ _ _ (by omega) c3 hb
    have hle := runs_same z ho
    have hSi := S_mono r (i + 1) (cnt r n)
    have hi : i < cnt r n → S r (i + 1) ≤ n ∧ nextN l (t + i) 1 = 1 := fun h => ⟨by have := hSi h; omega, o i h⟩
    rcases Nat.lt_or_ge i (cnt r n) with hic | hic
    · obtain ⟨g1, g2⟩ := hi hic
      have g3 := S_succ r i
      have g4 := Nat.two_pow_pos (J (ri r i))
      rcases hc with ⟨h1, _⟩ | ⟨_, _, _, h1, _⟩ | ⟨_, _, h1, _⟩ | ⟨_, _, _, _, _, h1 | ⟨_, h1, _⟩⟩ | ⟨_, _, _, _, _, _, h1, _⟩ <;> omega
    · obtain rfl : i = cnt r n := by omega
      rcases hc with ⟨h1, _⟩ | ⟨_, _, h1, _⟩ | ⟨_, _, _, _, _, rfl, rfl, rfl, rfl⟩ | ⟨_, _, _, _, _, h1 | ⟨_, h1, h2⟩⟩ | ⟨_, _, _, _, _, _, h1, _, h2⟩
      · omega
      · omega
      · rw [nx]
        exact ⟨by omega, rfl, by omega, rfl⟩
      · omega
      · omega
      · rw [nx] at h2; omega
  · obtain rfl : n = room := by omega
    rcases Nat.lt_or_ge (S r (cnt r n)) n with hs | hs
    · obtain ⟨e1, e2, e3⟩ := run_over hs
      rw [e1, e2] at hb
      rw [e1] at hl ⊢
      rw [e3]
      have o := next_ones l t _ (by omega) hb
      have hic : i ≤ cnt r n := by
        rcases Nat.lt_or_ge (cnt r n) i with h | h
        · have := S_mono r (cnt r n + 1) i h; omega
        · exact h
      have oi := o i (by omega)
      rcases Nat.lt_or_ge i (cnt r n) with hlt2 | hge
      · have := S_mono r (i + 1) (cnt r n) hlt2
        have g3 := S_succ r i
        have g4 := Nat.two_pow_pos (J (ri r i))
        rcases hc with ⟨h1, _⟩ | ⟨_, _, _, h1, _⟩ | ⟨_, _, h1, _⟩ | ⟨_, _, _, _, _, h1 | ⟨_, h1, _⟩⟩ | ⟨_, _, _, _, _, _, h1, _⟩ <;> omega
      · obtain rfl : i = cnt r n := by omega
        rcases hc with ⟨h1, _⟩ | ⟨_, _, _, _, rfl, rfl, rfl, rfl⟩ | ⟨_, _, h1, _⟩ | ⟨_, _, _, _, _, h1 | ⟨_, h1, _⟩⟩ | ⟨_, _, _, _, _, _, h1, _⟩
        · omega
        · exact ⟨rfl, rfl, by omega, rfl⟩
        · omega
        · omega
        · omega
        · omega
    · have hs2 : S r (cnt r n) = n := by omega
      obtain ⟨e1, e2, e3⟩ := run_full hs2
      rw [e1, e2] at hb
      rw [e1] at hl ⊢
      rw [e3]
      have o := next_ones l t _ (by omega) hb
      have hic : i ≤ cnt r n := by
        rcases Nat.lt_or_ge (cnt r n) i with h | h
        · have := S_mono r (cnt r n + 1) i h; omega
        · exact h
      rcases Nat.lt_or_ge i (cnt r n) with hlt2 | hge
      · have oi := o i (by omega)
        have := S_mono r (i + 1) (cnt r n) hlt2
        have g3 := S_succ r i
        have g4 := Nat.two_pow_pos (J (ri r i))
        rcases hc with ⟨h1, _⟩ | ⟨_, _, _, h1, _⟩ | ⟨_, _, h1, _⟩ | ⟨_, _, _, _, _, h1 | ⟨_, h1, _⟩⟩ | ⟨_, _, _, _, _, _, h1, _⟩ <;> omega
      · obtain rfl : i = cnt r n := by omega
        rcases hc with ⟨h1, rfl, rfl, rfl, rfl⟩ | ⟨h1, _⟩ | ⟨h1, _⟩ | ⟨h1, _⟩ | ⟨h1, _⟩
        · exact ⟨rfl, rfl, rfl, rfl⟩
        · omega
        · omega
        · omega
        · omega

/-- What is read is a run whose bits are just those that are taken. -/
theorem runRes_ok {l : List Nat} {t r room : Nat} {X E : Int} {t' r' : Nat} (h : RunRes l t r room X E t' r') :
    (E = 0 ∧ ∃ n : Nat, X = (n : Int) ∧ n ≤ room ∧ t' = t + rw_ r n room ∧ t' ≤ 8 * l.length ∧ r' = rr r n room ∧ nextN l t (rw_ r n room) = rf r n room) ∨ ((E = 23 ∨ E = 24) ∧ t' = t ∧ r' = r) := by
  obtain ⟨i, ho, hS, hti, hc⟩ := h
  rcases hc with ⟨h1, rfl, rfl, rfl, rfl⟩ | ⟨h1, h2, h3, h4, rfl, rfl, rfl, rfl⟩ | ⟨h1, h2, h3, h4, h5, rfl, rfl, rfl, rfl⟩ | ⟨_, _, h1, h2, h3, _⟩ | ⟨_, _, _, h1, h2, h3, _⟩
  · have hm : cnt r room = i := cnt_eq r room i hS (by have := S_succ r i; have := Nat.two_pow_pos (J (ri r i)); omega)
    obtain ⟨e1, e2, e3⟩ := run_full (r := r) (room := room) (by rw [hm]; exact h1)
    rw [hm] at e1 e2 e3
    refine .inl ⟨rfl, room, rfl, Nat.le_refl _, by rw [e1], hti, by rw [e3], ?_⟩
    rw [e1, e2]
    exact ones_next l t i hti ho
  · have hm : cnt r room = i := cnt_eq r room i hS h4
    obtain ⟨e1, e2, e3⟩ := run_over (r := r) (room := room) (by rw [hm]; exact h1)
    rw [hm] at e1 e2 e3
    refine .inl ⟨rfl, room, rfl, Nat.le_refl _, by rw [e1]; omega, by omega, by rw [e3], ?_⟩
    rw [e1, e2]
    refine ones_next l t (i + 1) (by omega) (fun a ha => ?_)
    by_cases e : a = i
    · subst e; exact h3
    · exact ho a (by omega)
  · have hlow := nextN_lt l (t + i + 1) (J (ri r i))
    have hm : cnt r (S r i + nextN l (t + i + 1) (J (ri r i))) = i := cnt_eq r _ i (by omega) (by rw [S_succ]; omega)
    obtain ⟨e1, e2, e3⟩ := run_short (r := r) h5
    rw [hm] at e1 e2 e3
    refine .inl ⟨rfl, _, rfl, by omega, by rw [e1]; omega, h4, by rw [e3], ?_⟩
    rw [e1, e2, next_run l t i (J (ri r i)) h4 ho h3]
    omega
  · exact .inr ⟨.inl h3, h1, h2⟩
  · exact .inr ⟨.inr h3, h1, h2⟩

/-- A row that is a run rises the rate by as many as it has bits, but one. -/
theorem row_bits (r n : Nat) (hr : r ≤ 22) (h1 : 1 ≤ n) (hn : n ≤ 4096) : rw_ r n n + r ≤ rr r n n + 1 := by
  have c1 := cnt_lo r n
  have c2 := cnt_hi r n
  by_cases h22 : r + cnt r n ≤ 22
  · have hri : ri r (cnt r n) = r + cnt r n := by unfold ri; omega
    rcases Nat.lt_or_ge (S r (cnt r n)) n with hs | hs
    · obtain ⟨e1, _, e3⟩ := run_over hs
      rw [e1, e3, hri]; omega
    · obtain ⟨e1, _, e3⟩ := run_full (show S r (cnt r n) = n by omega)
      rw [e1, e3, hri]; omega
  · have hj : J 22 = 12 := by decide
    -- the stretch at the rate 22 is the whole room
    have hk : S r (22 - r) + 4096 ≤ S r (cnt r n) := by
      have h := S_mono r (22 - r + 1) (cnt r n) (by omega)
      rw [S_succ, show ri r (22 - r) = 22 by unfold ri; omega, hj] at h
      exact h
    have hg := S_ge r (22 - r)
    have hr22 : r = 22 := by omega
    subst hr22
    have hc1 : cnt 22 n = 1 := by
      have h := S_mono 22 2 (cnt 22 n)
      have h2 : S 22 2 = 8192 := by decide
      rcases Nat.lt_or_ge (cnt 22 n) 2 with h3 | h3
      · omega
      · have := h h3; omega
    have h41 : S 22 1 = 4096 := by decide
    rw [hc1] at c1
    obtain ⟨e1, _, e3⟩ := run_full (r := 22) (room := n) (by rw [hc1]; omega)
    rw [e1, e3, hc1]
    decide
end Go.Proofs.YtahoeodpjdbdkaaDoor

namespace Go.Proofs.YtahoeodpjdbdkaaDoor
open Go.RowKit

set_option maxHeartbeats 400000 in
theorem formed_ok (k wide : Int) (w : World) (k0 : 0 ≤ k) (k1 : k ≤ 15) (w0 : 1 ≤ wide) (w1 : wide ≤ 16) :
    Calls Tryd.prog 82 #[.int .i64 k, .int .i64 wide] w fun e w' => e = .returned (.bool true) ∧ w' = w := by
  go_enter Tryd.func82, Tryd.ntmps82
  go_wp2
  go_ret
  exact ⟨ret_bool (by simp), rfl⟩

set_option maxHeartbeats 400000 in
theorem check_ok (v k wide : Int) (w : World) (k0 : 0 ≤ k) (k1 : k ≤ 15) (w0 : 1 ≤ wide) (w1 : wide ≤ 16) (v0 : 0 ≤ v) (hv : v / 2 ^ wide.toNat = 0) :
    Calls Tryd.prog 89 #[.int .i64 v, .int .i64 k, .int .i64 wide] w fun e w' => e = .returned (.int .i64 0) ∧ w' = w := by
  have v0' : decide (v < 0) = false := by simp; omega
  go_enter Tryd.func89, Tryd.ntmps89
  go_wp2_with (go_at_call 82; refine (formed_ok k wide _ k0 k1 w0 w1).mono ?_; rintro e w' ⟨rfl, rfl⟩)
  go_ret
  exact ⟨rfl, rfl⟩
end Go.Proofs.YtahoeodpjdbdkaaDoor

namespace Go.Proofs.YtahoeodpjdbdkaaDoor
open Go.RowKit

theorem one_lt (n : Nat) (h : 1 ≤ n) : 1 < 2 ^ n := by
  have : 2 ^ 1 ≤ 2 ^ n := Nat.pow_le_pow_right (by decide) h
  omega

theorem keep_two {w w1 w2 : World} {B : Nat} {V V1 : Value} (k1 : Kept (B :: V.ownBlock.toList) w w1) (l1 : Lies w V V1) (k2 : Kept (B :: V1.ownBlock.toList) w1 w2) : Kept (B :: V.ownBlock.toList) w w2 := by
  refine k1.step k2 ?_
  intro x hx
  rcases List.mem_cons.1 hx with h | h
  · left; rw [h]; exact List.mem_cons_self
  · rcases l1.mem x h with h | h
    · left; exact List.mem_cons_of_mem _ h
    · right; exact h

set_option maxHeartbeats 2000000 in
set_option maxRecDepth 1000000 in
theorem gput_short (B : Nat) (V : Value) (N len : Nat) (v k wide u M low : Int) (w : World) (hw : WriterAt w B V N len) (k0 : 0 ≤ k) (k1 : k ≤ 15) (w0 : 1 ≤ wide) (w1 : wide ≤ 16) (v0 : 0 ≤ v) (v1 : v < 65536)
    (hv : v / 2 ^ wide.toNat = 0) (hu : v / 2 ^ k.toNat = u) (u0 : 0 ≤ u) (u1 : u < 24) (hM : u * 2 ^ k.toNat = M) (M0 : 0 ≤ M) (hlow : v - M = low) (l0 : 0 ≤ low) (l1 : low.toNat < 2 ^ k.toNat) (l2 : low < 65536) (hl : len / 8 + 16 ≤ 140737488355328) :
    Calls Tryd.prog 68 #[.pointer (some ⟨B, 0, none⟩), .int .i64 v, .int .i64 k, .int .i64 wide] w fun e w' => e = .returned (.int .i64 0) ∧
      ∃ V', WriterAt w' B V' ((N * 2 ^ (u + 1).toNat + 1) * 2 ^ k.toNat + low.toNat) (len + (u + 1).toNat + k.toNat) ∧ Kept (B :: V.ownBlock.toList) w w' ∧ Lies w V V' := by
  have HW := Hid.mk hw
  have HC := Hid.mk (fun w => check_ok v k wide w k0 k1 w0 w1 v0 hv)
  have Hl1 := Hid.mk l1
  have hM1 : M ≤ v := by omega
  clear hw l1 hv
  go_enter Tryd.func68, Tryd.ntmps68
  go_wp2_with (go_at_call 89; refine (HC.out _).mono ?_; rintro e w' ⟨rfl, rfl⟩)
  refine (put_any B V N len 1 (u + 1) _ HW.out (by omega) (by omega) (by omega) (one_lt _ (by omega)) (by omega)).mono ?_
  rintro e w1 ⟨rfl, V1, hw1, hk1, hl1⟩
  have HW1 := Hid.mk hw1
  clear hw1
  go_wp2_with fail
  refine (put_any B V1 _ _ low k _ HW1.out (by omega) (by omega) (by omega) Hl1.out (by omega)).mono ?_
  rintro e w2 ⟨rfl, V2, hw2, hk2, hl2⟩
  have HW2 := Hid.mk hw2
  clear hw2
  go_wp2_with fail
  go_ret
  exact ⟨rfl, V2, HW2.out, keep_two hk1 hl1 hk2, hl1.trans hl2 hk1.size⟩

set_option maxHeartbeats 2000000 in
set_option maxRecDepth 1000000 in
theorem gput_long (B : Nat) (V : Value) (N len : Nat) (v k wide u : Int) (w : World) (hw : WriterAt w B V N len) (k0 : 0 ≤ k) (k1 : k ≤ 15) (w0 : 1 ≤ wide) (w1 : wide ≤ 16) (v0 : 0 ≤ v) (v1 : v < 65536)
    (hv : v / 2 ^ wide.toNat = 0) (hv2 : v.toNat < 2 ^ wide.toNat) (hu : v / 2 ^ k.toNat = u) (u1 : 24 ≤ u) (hl : len / 8 + 16 ≤ 140737488355328) :
    Calls Tryd.prog 68 #[.pointer (some ⟨B, 0, none⟩), .int .i64 v, .int .i64 k, .int .i64 wide] w fun e w' => e = .returned (.int .i64 0) ∧
      ∃ V', WriterAt w' B V' ((N * 2 ^ (24 : Int).toNat + (0 : Int).toNat) * 2 ^ wide.toNat + v.toNat) (len + (24 : Int).toNat + wide.toNat) ∧ Kept (B :: V.ownBlock.toList) w w' ∧ Lies w V V' := by
  have HW := Hid.mk hw
  have HC := Hid.mk (fun w => check_ok v k wide w k0 k1 w0 w1 v0 hv)
  have Hv2 := Hid.mk hv2
  clear hw hv hv2
  go_enter Tryd.func68, Tryd.ntmps68
  go_wp2_with (go_at_call 89; refine (HC.out _).mono ?_; rintro e w' ⟨rfl, rfl⟩)
  refine (put_any B V N len 0 24 _ HW.out (by omega) (by omega) (by omega) (Nat.two_pow_pos _) (by omega)).mono ?_
  rintro e w1 ⟨rfl, V1, hw1, hk1, hl1⟩
  have HW1 := Hid.mk hw1
  clear hw1
  go_wp2_with fail
  refine (put_any B V1 _ _ v wide _ HW1.out (by omega) (by omega) (by omega) Hv2.out (by omega)).mono ?_
  rintro e w2 ⟨rfl, V2, hw2, hk2, hl2⟩
  have HW2 := Hid.mk hw2
  clear hw2
  go_wp2_with fail
  go_ret
  exact ⟨rfl, V2, HW2.out, keep_two hk1 hl1 hk2, hl1.trans hl2 hk1.size⟩

theorem pow16 (wide : Int) (w1 : wide ≤ 16) : 2 ^ wide.toNat ≤ 65536 := by
  have : 2 ^ wide.toNat ≤ 2 ^ 16 := Nat.pow_le_pow_right (by decide) (by omega)
  exact this

theorem div_zero_of (v wide : Int) (v0 : 0 ≤ v) (hv : v.toNat < 2 ^ wide.toNat) : v / 2 ^ wide.toNat = 0 := by
  rw [pow_two_int]
  exact Int.ediv_eq_zero_of_lt v0 (by omega)

/-- Put of a number lays its form down. -/
theorem gput_any (B : Nat) (V : Value) (N len : Nat) (v k wide : Int) (w : World) (hw : WriterAt w B V N len) (k0 : 0 ≤ k) (k1 : k ≤ 15) (w0 : 1 ≤ wide) (w1 : wide ≤ 16) (v0 : 0 ≤ v) (hv : v.toNat < 2 ^ wide.toNat) (hl : len / 8 + 16 ≤ 140737488355328) :
    Calls Tryd.prog 68 #[.pointer (some ⟨B, 0, none⟩), .int .i64 v, .int .i64 k, .int .i64 wide] w fun e w' => e = .returned (.int .i64 0) ∧
      ∃ V', WriterAt w' B V' (N * 2 ^ gw v.toNat k.toNat wide.toNat + gf v.toNat k.toNat) (len + gw v.toNat k.toNat wide.toNat) ∧ Kept (B :: V.ownBlock.toList) w w' ∧ Lies w V V' := by
  have h16 := pow16 wide w1
  have hv0 := div_zero_of v wide v0 hv
  obtain ⟨x, rfl⟩ := Int.eq_ofNat_of_zero_le v0
  rw [Int.toNat_natCast] at hv ⊢
  have hdiv : (x : Int) / 2 ^ k.toNat = ((x / 2 ^ k.toNat : Nat) : Int) := by rw [pow_two_int, Int.natCast_ediv]
  have hmod := Nat.mod_lt x (Nat.two_pow_pos k.toNat)
  have hdm : x / 2 ^ k.toNat * 2 ^ k.toNat + x % 2 ^ k.toNat = x := by rw [Nat.mul_comm]; exact Nat.div_add_mod x (2 ^ k.toNat)
  by_cases hs : x / 2 ^ k.toNat < 24
  · obtain ⟨e1, e2⟩ := gf_short (wide := wide.toNat) hs
    rw [e1, e2]
    have hM : ((x / 2 ^ k.toNat : Nat) : Int) * 2 ^ k.toNat = ((x / 2 ^ k.toNat * 2 ^ k.toNat : Nat) : Int) := by rw [pow_two_int, Int.natCast_mul]
    have hmul : (N * 2 ^ (x / 2 ^ k.toNat + 1) + 1) * 2 ^ k.toNat + x % 2 ^ k.toNat = N * 2 ^ (x / 2 ^ k.toNat + 1 + k.toNat) + (2 ^ k.toNat + x % 2 ^ k.toNat) := by
      rw [Nat.pow_add _ (x / 2 ^ k.toNat + 1), Nat.add_mul, Nat.one_mul, Nat.mul_assoc, Nat.add_assoc]
    clear e1 e2
    generalize x / 2 ^ k.toNat = q at *
    generalize hr : x % 2 ^ k.toNat = low at *
    have h := gput_short B V N len x k wide (q : Int) ((q * 2 ^ k.toNat : Nat) : Int) (low : Int) w hw k0 k1 w0 w1 v0 (by omega) hv0 hdiv (by omega) (by omega) hM (by omega) (by omega) (by omega) (by rw [Int.toNat_natCast]; exact hmod) (by omega) hl
    rw [Int.toNat_natCast, show ((q : Int) + 1).toNat = q + 1 by omega, hmul, Nat.add_assoc len] at h
    exact h
  · obtain ⟨e1, e2⟩ := gf_long (wide := wide.toNat) hs
    rw [e1, e2]
    have h := gput_long B V N len x k wide ((x / 2 ^ k.toNat : Nat) : Int) w hw k0 k1 w0 w1 v0 (by omega) hv0 (by rw [Int.toNat_natCast]; exact hv) hdiv (by omega) hl
    rw [Int.toNat_natCast, show (24 : Int).toNat = 24 from rfl, show (0 : Int).toNat = 0 from rfl, Nat.add_zero, Nat.mul_assoc, ← Nat.pow_add, Nat.add_assoc len] at h
    exact h

end Go.Proofs.YtahoeodpjdbdkaaDoor

namespace Go.Proofs.YtahoeodpjdbdkaaDoor
open Go.RowKit

/-- The coder whose struct is block X has the rate r. -/
def CoderAt (w : World) (X r : Nat) : Prop := w.heap[X]? = some (.cells #[.int .i64 (r : Int)] 92 (0, 0)) ∧ r ≤ 22

/-- The table of widths lies in block 0. -/
def Tab (w : World) : Prop := ∀ i, i < 23 → w.cell? ⟨0, i, none⟩ = some (.int .i64 (J i : Int))

theorem Tab.pos {w : World} (h : Tab w) : 0 < w.heap.size := World.block_lt_of_cell? w _ (h 0 (by decide))
theorem Tab.kept {w w' : World} {ks : List Nat} (h : Tab w) (hk : Kept ks w w') (h0 : 0 ∉ ks) : Tab w' :=
  fun i hi => (World.cell?_of_block (a := ⟨0, i, none⟩) (hk.block 0 h.pos h0)).trans (h i hi)
theorem Tab.drewN {w : World} (h : Tab w) (q : Nat) : Tab (w.drewN q) := h.kept ((Kept.refl [] w).drewN q) (by simp)
theorem CoderAt.kept {w w' : World} {X r : Nat} {ks : List Nat} (h : CoderAt w X r) (hk : Kept ks w w') (h0 : X ∉ ks) : CoderAt w' X r := ⟨hk.heap h.1 h0, h.2⟩
theorem CoderAt.drewN {w : World} {X r : Nat} (h : CoderAt w X r) (q : Nat) : CoderAt (w.drewN q) X r := h.kept ((Kept.refl [] w).drewN q) (by simp)
theorem WriterAt.kept {w w' : World} {B N len : Nat} {V : Value} {ks : List Nat} (h : WriterAt w B V N len) (hk : Kept ks w w') (h0 : B ∉ ks) (h1 : ∀ g, V.ownBlock = some g → g ∉ ks) : WriterAt w' B V N len := ⟨hk.heap h.1 h0, hk.row h.2 h1⟩

theorem cells_one {w : World} {B : Nat} {a : Value} {t : TypeId} (h : w.heap[B]? = some (.cells #[a] t (0, 0))) : w.cell? ⟨B, 0, none⟩ = some a ∧ w.frozen? ⟨B, 0, none⟩ = false := by
  refine ⟨?_, ?_⟩ <;> simp [World.cell?, World.frozen?, h]

set_option maxHeartbeats 400000 in
theorem newRuns_any (w : World) :
    Calls Tryd.prog 32 #[] w fun e w' => e = .returned (.pointer (some ⟨w.heap.size, 0, none⟩)) ∧ w' = w.alloc (.cells #[.int .i64 0] 92) := by
  go_enter Tryd.func32, Tryd.ntmps32
  go_wp2
  go_ret
  exact ⟨rfl, rfl⟩

theorem newRuns_at (w : World) : CoderAt (w.alloc (.cells #[.int .i64 0] 92)) w.heap.size 0 := ⟨by rw [heap_alloc_new]; simp, by decide⟩

theorem stretch_le (r : Nat) : 2 ^ J r ≤ 4096 := by
  have hp : (2 : Nat) ^ J r ≤ 2 ^ 12 := Nat.pow_le_pow_right (by decide) (J_le r)
  exact hp

theorem wrap_stretch (r : Nat) : wrap64 (2 ^ J r) = ((2 ^ J r : Nat) : Int) := by
  have h := stretch_le r
  rw [pow_two_int]
  generalize 2 ^ J r = q at *
  unfold wrap64
  omega

set_option maxHeartbeats 1000000 in
theorem stretch_any (X r : Nat) (s : Int) (w : World) (hx : CoderAt w X r) (hT : Tab w) (hs : s = ((2 ^ J r : Nat) : Int)) :
    Calls Tryd.prog 85 #[.pointer (some ⟨X, 0, none⟩)] w fun e w' => e = .returned (.int .i64 s) ∧ w' = w := by
  obtain ⟨c0, f0⟩ := cells_one hx.1
  have hr := hx.2
  have hj := hT r (by omega)
  have j12 := J_le r
  have Hs := Hid.mk hs
  clear hT hx hs
  go_enter Tryd.func85, Tryd.ntmps85
  go_wp2
  go_ret
  exact ⟨ret_int (by rw [wrap_stretch, Hs.out]), rfl⟩

set_option maxHeartbeats 1000000 in
theorem rise_any (X r : Nat) (w : World) (hx : CoderAt w X r) :
    Calls Tryd.prog 86 #[.pointer (some ⟨X, 0, none⟩)] w fun e w' => e = .returned (.tuple #[]) ∧ CoderAt w' X (min (r + 1) 22) ∧ Kept [X] w w' := by
  obtain ⟨c0, f0⟩ := cells_one hx.1
  have hr := hx.2
  have HX := Hid.mk hx
  clear hx
  go_enter Tryd.func86, Tryd.ntmps86
  go_wp2
  go_end0
  refine ⟨rfl, ⟨?_, by omega⟩, (Kept.refl _ _).setCell (by simp) _⟩
  rw [heap_setCell_at HX.out.1]
  have e : min ((r : Int) + 1) 22 = ((min (r + 1) 22 : Nat) : Int) := by omega
  rw [e]
  rfl

set_option maxHeartbeats 1000000 in
theorem fall_any (X r : Nat) (w : World) (hx : CoderAt w X r) :
    Calls Tryd.prog 87 #[.pointer (some ⟨X, 0, none⟩)] w fun e w' => e = .returned (.tuple #[]) ∧ CoderAt w' X (r - 1) ∧ Kept [X] w w' := by
  obtain ⟨c0, f0⟩ := cells_one hx.1
  have hr := hx.2
  have HX := Hid.mk hx
  clear hx
  go_enter Tryd.func87, Tryd.ntmps87
  go_wp2
  go_end0
  refine ⟨rfl, ⟨?_, by omega⟩, (Kept.refl _ _).setCell (by simp) _⟩
  rw [heap_setCell_at HX.out.1]
  have e : max ((r : Int) - 1) 0 = ((r - 1 : Nat) : Int) := by omega
  rw [e]
  rfl

set_option maxHeartbeats 400000 in
theorem roomy_ok (room : Int) (w : World) (h0 : 1 ≤ room) (h1 : room ≤ 4096) :
    Calls Tryd.prog 80 #[.int .i64 room] w fun e w' => e = .returned (.bool true) ∧ w' = w := by
  go_enter Tryd.func80, Tryd.ntmps80
  go_wp2
  go_ret
  exact ⟨ret_bool (by simp), rfl⟩
end Go.Proofs.YtahoeodpjdbdkaaDoor

namespace Go.Proofs.YtahoeodpjdbdkaaDoor
open Go.RowKit

/-- Bits and i ones behind them. -/
def ones (N i : Nat) : Nat := N * 2 ^ i + (2 ^ i - 1)
theorem ones_succ (N i : Nat) : ones N i * 2 + 1 = ones N (i + 1) := by
  unfold ones
  have := Nat.two_pow_pos i
  rw [Nat.pow_succ, ← Nat.mul_assoc]
  omega

theorem ones_mul (N i j low : Nat) : (ones N i * 2 + 0) * 2 ^ j + low = N * 2 ^ (i + 1 + j) + ((2 ^ i - 1) * 2 ^ (1 + j) + low) := by
  unfold ones
  rw [Nat.add_zero, Nat.mul_assoc, show (2 : Nat) * 2 ^ j = 2 ^ (1 + j) by rw [Nat.pow_add, Nat.pow_one], Nat.add_mul, Nat.mul_assoc, ← Nat.pow_add, Nat.add_assoc i 1 j, Nat.add_assoc]

/-- The state within Put of a run, behind i stretches. -/
structure PutS (w wr : World) (X B : Nat) (V V1 : Value) (N len r i : Nat) : Prop where
  coder : CoderAt wr X (ri r i)
  writer : WriterAt wr B V1 (ones N i) (len + i)
  tab : Tab wr
  keep : Kept (X :: B :: V.ownBlock.toList) w wr
  lies : Lies w V V1

theorem PutS.ne {w wr : World} {X B : Nat} {V V1 : Value} {N len r i : Nat} (h : PutS w wr X B V V1 N len r i) : X ≠ B ∧ V1.ownBlock ≠ some X ∧ V1.ownBlock ≠ some B := by
  refine ⟨?_, own_ne h.coder.1 (by decide) h.writer.2, own_ne h.writer.1 (by decide) h.writer.2⟩
  rintro rfl
  have h1 := h.coder.1
  rw [h.writer.1] at h1
  simp at h1

theorem keep_cons {w w1 w2 : World} {X B : Nat} {V V1 : Value} (k1 : Kept (X :: B :: V.ownBlock.toList) w w1) (l1 : Lies w V V1) (k2 : Kept (B :: V1.ownBlock.toList) w1 w2) : Kept (X :: B :: V.ownBlock.toList) w w2 := by
  refine k1.step k2 ?_
  intro x hx
  rcases List.mem_cons.1 hx with h | h
  · left; simp [h]
  · rcases l1.mem x h with h | h
    · left; simp only [List.mem_cons]; exact .inr (.inr h)
    · right; exact h

theorem no_zero {w : World} {B : Nat} {V V1 : Value} (hT : Tab w) (hB : B ≠ 0) (hV : V.ownBlock ≠ some 0) (l1 : Lies w V V1) : 0 ∉ B :: V1.ownBlock.toList := by
  intro h
  rcases List.mem_cons.1 h with h | h
  · exact hB h.symm
  · rcases l1.mem 0 h with h | h
    · exact hV (by simpa using h)
    · have := hT.pos; omega

/-- What a Put of bits leaves of the state. -/
theorem PutS.put {w wr w' : World} {X B : Nat} {V V1 V2 : Value} {N len r i N2 l2 : Nat} (h : PutS w wr X B V V1 N len r i) (hT : Tab w) (hB : B ≠ 0) (hV : V.ownBlock ≠ some 0) (hw : WriterAt w' B V2 N2 l2) (hk : Kept (B :: V1.ownBlock.toList) wr w') (hl : Lies wr V1 V2) :
    CoderAt w' X (ri r i) ∧ Tab w' ∧ Kept (X :: B :: V.ownBlock.toList) w w' ∧ Lies w V V2 ∧ X ≠ B ∧ V2.ownBlock ≠ some X := by
  obtain ⟨n1, n2, n3⟩ := h.ne
  have hc : CoderAt w' X (ri r i) := h.coder.kept hk (by simp; exact ⟨n1, n2⟩)
  exact ⟨hc, h.tab.kept hk (no_zero hT hB hV h.lies), keep_cons h.keep h.lies hk, h.lies.trans hl h.keep.size, n1, own_ne hc.1 (by decide) hw.2⟩

set_option maxHeartbeats 2000000 in
set_option maxRecDepth 1000000 in
theorem rput_any (X B : Nat) (V : Value) (N len r : Nat) (n room : Int) (w : World) (hx : CoderAt w X r) (hw : WriterAt w B V N len) (hT : Tab w) (hX : X ≠ 0) (hB : B ≠ 0) (hV : V.ownBlock ≠ some 0)
    (r0 : 1 ≤ room) (r1 : room ≤ 4096) (n0 : 0 ≤ n) (n1 : n ≤ room) (hl : len / 8 + 2000 ≤ 140737488355328) :
    Calls Tryd.prog 65 #[.pointer (some ⟨X, 0, none⟩), .pointer (some ⟨B, 0, none⟩), .int .i64 n, .int .i64 room] w fun e w' => e = .returned (.int .i64 0) ∧
      ∃ V', CoderAt w' X (rr r n.toNat room.toNat) ∧ WriterAt w' B V' (N * 2 ^ rw_ r n.toNat room.toNat + rf r n.toNat room.toNat) (len + rw_ r n.toNat room.toNat) ∧ Kept (X :: B :: V.ownBlock.toList) w w' ∧ Lies w V V' := by
  have hr := hx.2
  have ht : decide (n < 0) = false := by simp; omega
  have ht2 : decide (room < n) = false := by simp; omega
  have HS : Hid (PutS w w X B V V N len r 0) := ⟨by rw [show ri r 0 = r by unfold ri; omega]; exact hx, by simpa [ones] using hw, hT, Kept.refl _ _, Lies.refl _ _⟩
  have HT := Hid.mk hT
  clear hx hw hT
  go_enter Tryd.func65, Tryd.ntmps65
  go_wp2_with (go_at_call 80; refine (roomy_ok room _ r0 r1).mono ?_; rintro e w' ⟨rfl, rfl⟩)
  go_loopw [9] (fun lf wr => ∃ (i : Nat) (V1 : Value), S r i ≤ n.toNat ∧ lf = .int .i64 (n - (S r i : Int)) ∧ PutS w' wr X B V V1 N len r i) (fun lf _ => (intOf lf).toNat)
  case atStart => exact ⟨0, V, Nat.zero_le _, by simp [S], HS.out⟩
  case round =>
    obtain ⟨i, V1, hi, rfl, hS⟩ := hrel
    obtain ⟨s, hs⟩ : ∃ s : Int, s = ((2 ^ J (ri r i) : Nat) : Int) := ⟨_, rfl⟩
    have Hs := Hid.mk hs
    have s0 : 1 ≤ s := by have := Nat.two_pow_pos (J (ri r i)); omega
    have s1 : s ≤ 4096 := by have := stretch_le (ri r i); omega
    have hge := S_ge r i
    have HSi := Hid.mk hS
    clear hS hs
    by_cases hlt : s ≤ n - (S r i : Int)
    · go_wp2_with (go_at_call 85; refine (stretch_any X (ri r i) s _ HSi.out.coder HSi.out.tab Hs.out).mono ?_; rintro e w1 ⟨rfl, rfl⟩)
      refine (put_any B V1 _ _ 1 1 _ HSi.out.writer (by omega) (by omega) (by omega) (by decide) (by omega)).mono ?_
      rintro e w2 ⟨rfl, V2, hw2, hk2, hl2⟩
      obtain ⟨hc2, ht2, hk3, hl3, hne, hne2⟩ := HSi.out.put HT.out hB hV hw2 hk2 hl2
      have HW2 := Hid.mk hw2
      have HC2 := Hid.mk hc2
      have HT2 := Hid.mk ht2
      have HK3 := Hid.mk hk3
      have HL3 := Hid.mk hl3
      have Hne := Hid.mk hne
      have Hne2 := Hid.mk hne2
      clear hw2 hk2 hl2 hc2 ht2 hk3 hl3 hne hne2
      go_wp2_with (first
        | (go_at_call 85; refine (stretch_any X (ri r i) s _ HC2.out HT2.out Hs.out).mono ?_; rintro e w3 ⟨rfl, rfl⟩)
        | (go_at_call 86; refine (rise_any X (ri r i) _ HC2.out).mono ?_; rintro e w4 ⟨rfl, hc4, hk4⟩))
      have HC4 := Hid.mk hc4
      have HK4 := Hid.mk hk4
      clear hc4 hk4
      go_roundw
      case rel =>
        refine ⟨i + 1, V2, ?_, ?_, ?_⟩
        · have := Hs.out; rw [S_succ]; omega
        · have := Hs.out
          rw [S_succ]
          congr 1
          omega
        · refine ⟨?_, ?_, HT2.out.kept HK4.out (by simpa using hX.symm), HK3.out.step HK4.out (by simp), HL3.out⟩
          · have h := HC4.out
            rw [show min (ri r i + 1) 22 = ri r (i + 1) by unfold ri; omega] at h
            exact h
          · have h := HW2.out.kept HK4.out (by simpa using Hne.out.symm) (fun g hg => by simp; rintro rfl; exact Hne2.out hg)
            rw [show (1 : Int).toNat = 1 from rfl, Nat.pow_one, ones_succ, Nat.add_assoc] at h
            exact h
      case measure => simp [intOf]; omega
    · have hm : cnt r n.toNat = i := cnt_eq r _ i hi (by have := Hs.out; rw [S_succ]; omega)
      have hlow : (n - (S r i : Int)).toNat < 2 ^ ((J (ri r i) : Nat) : Int).toNat := by have := Hs.out; rw [Int.toNat_natCast]; omega
      have hj12 := J_le (ri r i)
      have Hlow := Hid.mk hlow
      have l0 : 0 ≤ n - (S r i : Int) := by omega
      have l1 : n - (S r i : Int) ≤ 4096 := by omega
      clear hlow
      by_cases hlt2 : n < room
      · go_wp2_with (go_at_call 85; refine (stretch_any X (ri r i) s _ HSi.out.coder HSi.out.tab Hs.out).mono ?_; rintro e w1 ⟨rfl, rfl⟩)
        refine (put_any B V1 _ _ 0 1 _ HSi.out.writer (by omega) (by omega) (by omega) (by decide) (by omega)).mono ?_
        rintro e w2 ⟨rfl, V2, hw2, hk2, hl2⟩
        obtain ⟨hc2, ht2, hk3, hl3, hne, hne2⟩ := HSi.out.put HT.out hB hV hw2 hk2 hl2
        obtain ⟨c0, f0⟩ := cells_one hc2.1
        have hr2 := hc2.2
        have hj2 := ht2 (ri r i) (by omega)
        have HW2 := Hid.mk hw2
        have HC2 := Hid.mk hc2
        have HT2 := Hid.mk ht2
        have HK3 := Hid.mk hk3
        have HL3 := Hid.mk hl3
        have Hne := Hid.mk hne
        have Hne2 := Hid.mk hne2
        clear hw2 hk2 hl2 hc2 ht2 hk3 hl3 hne hne2
        go_wp2_with fail
        refine (put_any B V2 _ _ (n - (S r i : Int)) (J (ri r i) : Int) _ HW2.out (by omega) (by omega) (by omega) Hlow.out (by omega)).mono ?_
        rintro e w3 ⟨rfl, V3, hw3, hk3', hl3'⟩
        have hc3 : CoderAt w3 X (ri r i) := HC2.out.kept hk3' (by simp; exact ⟨Hne.out, Hne2.out⟩)
        have hn3 := own_ne hc3.1 (by decide) hw3.2
        have HW3 := Hid.mk hw3
        have HC3 := Hid.mk hc3
        have HK := Hid.mk (keep_cons HK3.out HL3.out hk3')
        have HL := Hid.mk (HL3.out.trans hl3' HK3.out.size)
        have Hn3 := Hid.mk hn3
        clear hw3 hk3' hl3' hc3 hn3 c0 f0 hj2
        go_wp2_with (go_at_call 87; refine (fall_any X (ri r i) _ HC3.out).mono ?_; rintro e w4 ⟨rfl, hc4, hk4⟩)
        go_ret
        obtain ⟨e1, e2, e3⟩ := run_short (r := r) (n := n.toNat) (room := room.toNat) (by omega)
        rw [hm] at e1 e2 e3
        refine ⟨rfl, V3, by rw [e3]; exact hc4, ?_, HK.out.step hk4 (by simp), HL.out⟩
        have h := HW3.out.kept hk4 (by simpa using Hne.out.symm) (fun g hg => by simp; rintro rfl; exact Hn3.out hg)
        rw [show (1 : Int).toNat = 1 from rfl, Nat.pow_one, show (0 : Int).toNat = 0 from rfl, Int.toNat_natCast, ones_mul, show len + i + 1 + J (ri r i) = len + (i + 1 + J (ri r i)) by omega, show (n - (S r i : Int)).toNat = n.toNat - S r i by omega, ← e1, ← e2] at h
        exact h
      · obtain rfl : n = room := by omega
        by_cases hle : 0 < n - (S r i : Int)
        · go_wp2_with (go_at_call 85; refine (stretch_any X (ri r i) s _ HSi.out.coder HSi.out.tab Hs.out).mono ?_; rintro e w1 ⟨rfl, rfl⟩)
          refine (put_any B V1 _ _ 1 1 _ HSi.out.writer (by omega) (by omega) (by omega) (by decide) (by omega)).mono ?_
          rintro e w2 ⟨rfl, V2, hw2, hk2, hl2⟩
          obtain ⟨hc2, ht2, hk3, hl3, hne, hne2⟩ := HSi.out.put HT.out hB hV hw2 hk2 hl2
          have HW2 := Hid.mk hw2
          clear hw2
          go_wp2_with fail
          go_ret
          obtain ⟨e1, e2, e3⟩ := run_over (r := r) (room := n.toNat) (by rw [hm]; omega)
          rw [hm] at e1 e2 e3
          refine ⟨rfl, V2, by rw [e3]; exact hc2, ?_, hk3, hl3⟩
          have h := HW2.out
          rw [show (1 : Int).toNat = 1 from rfl, Nat.pow_one, ones_succ, Nat.add_assoc] at h
          rw [e1, e2]
          exact h
        · go_wp2_with (go_at_call 85; refine (stretch_any X (ri r i) s _ HSi.out.coder HSi.out.tab Hs.out).mono ?_; rintro e w1 ⟨rfl, rfl⟩)
          go_ret
          obtain ⟨e1, e2, e3⟩ := run_full (r := r) (room := n.toNat) (by rw [hm]; omega)
          rw [hm] at e1 e2 e3
          refine ⟨rfl, V1, by rw [e3]; exact HSi.out.coder, ?_, HSi.out.keep, HSi.out.lies⟩
          rw [e1, e2]
          exact HSi.out.writer
end Go.Proofs.YtahoeodpjdbdkaaDoor

namespace Go.Proofs.YtahoeodpjdbdkaaDoor
open Go.RowKit

theorem shr_nat (a : Nat) (k : Int) : (a : Int) / 2 ^ k.toNat = ((a / 2 ^ k.toNat : Nat) : Int) := by rw [pow_two_int, Int.natCast_ediv]
theorem shl_nat (a : Nat) (k : Int) : (a : Int) * 2 ^ k.toNat = ((a * 2 ^ k.toNat : Nat) : Int) := by rw [pow_two_int, Int.natCast_mul]

theorem pos_shr (x wide : Int) (h : ((2 ^ wide.toNat : Nat) : Int) ≤ x) : 0 < x / 2 ^ wide.toNat := by
  rw [pow_two_int]
  have hp : (0 : Int) < ((2 ^ wide.toNat : Nat) : Int) := by have := Nat.two_pow_pos wide.toNat; omega
  have := Int.le_ediv_of_mul_le hp (show 1 * ((2 ^ wide.toNat : Nat) : Int) ≤ x by omega)
  omega

set_option maxHeartbeats 1000000 in
set_option maxRecDepth 100000 in
/-- What stands behind the noughts of a long form. -/
theorem long_any (B g : Nat) (l : List Nat) (t : Nat) (k wide : Int) (w : World) (hw : ReaderAt w B g l t) (k0 : 0 ≤ k) (k1 : k ≤ 15) (w0 : 1 ≤ wide) (w1 : wide ≤ 16) :
    Calls Tryd.prog 95 #[.pointer (some ⟨B, 0, none⟩), .int .i64 k, .int .i64 wide] w fun e w' => ∃ (X E : Int) (t' : Nat), e = .returned (.tuple #[.int .i64 X, .int .i64 E]) ∧ ReaderAt w' B g l t' ∧ Kept [B] w w' ∧
      ((t + wide.toNat ≤ 8 * l.length ∧ 24 ≤ nextN l t wide.toNat / 2 ^ k.toNat ∧ X = (nextN l t wide.toNat : Int) ∧ E = 0 ∧ t' = t + wide.toNat) ∨
       (t + wide.toNat ≤ 8 * l.length ∧ nextN l t wide.toNat / 2 ^ k.toNat < 24 ∧ X = 0 ∧ E = 24) ∨ (8 * l.length < t + wide.toNat ∧ X = 0 ∧ E = 23)) := by
  obtain ⟨Y, E, t', hg⟩ := getRes_ex l t wide.toNat
  have HG := Hid.mk (fun w hw => get_res B g l t wide Y E t' w hw (by omega) (by omega) hg)
  have HW := Hid.mk hw
  clear hw
  rcases hg with ⟨h2, rfl, rfl, rfl⟩ | ⟨h2, rfl, rfl, rfl⟩
  · have hu := next_u32 l t wide.toNat (by omega)
    by_cases hq : nextN l t wide.toNat / 2 ^ k.toNat < 24
    · have hq' : (nextN l t wide.toNat : Int) / 2 ^ k.toNat < 24 := by rw [shr_nat]; omega
      have Hq := Hid.mk hq
      clear hq
      go_enter Tryd.func95, Tryd.ntmps95
      go_wp2_with (go_at_call 35; refine (HG.out _ HW.out).mono ?_; rintro e w1 ⟨rfl, hr1, hk1⟩)
      go_ret2
      exact ⟨_, _, _, rfl, hr1, hk1, .inr (.inl ⟨h2, Hq.out, rfl, rfl⟩)⟩
    · have hq' : ¬ (nextN l t wide.toNat : Int) / 2 ^ k.toNat < 24 := by rw [shr_nat]; omega
      have Hq := Hid.mk hq
      clear hq
      go_enter Tryd.func95, Tryd.ntmps95
      go_wp2_with (go_at_call 35; refine (HG.out _ HW.out).mono ?_; rintro e w1 ⟨rfl, hr1, hk1⟩)
      go_ret2
      exact ⟨_, _, _, rfl, hr1, hk1, .inl ⟨h2, by have := Hq.out; omega, rfl, rfl, rfl⟩⟩
  · go_enter Tryd.func95, Tryd.ntmps95
    go_wp2_with (go_at_call 35; refine (HG.out _ HW.out).mono ?_; rintro e w1 ⟨rfl, hr1, hk1⟩)
    go_ret2
    exact ⟨_, _, _, rfl, hr1, hk1, .inr (.inr ⟨h2, rfl, rfl⟩)⟩

theorem zeros_cases {l : List Nat} {t : Nat} {Z E : Int} {t' : Nat} (h : ZerosRes l t 24 Z E t') :
    (∃ u : Nat, u < 24 ∧ t + u < 8 * l.length ∧ (∀ i, i < u → nextN l (t + i) 1 = 0) ∧ nextN l (t + u) 1 = 1 ∧ Z = (u : Int) ∧ E = 0 ∧ t' = t + u + 1) ∨
    (t + 24 ≤ 8 * l.length ∧ (∀ i, i < 24 → nextN l (t + i) 1 = 0) ∧ Z = 24 ∧ E = 0 ∧ t' = t + 24) ∨
    (8 * l.length < t + 24 ∧ (∀ i, t + i < 8 * l.length → nextN l (t + i) 1 = 0) ∧ Z = 0 ∧ E = 13 ∧ t' = t) := h

set_option maxHeartbeats 2000000 in
set_option maxRecDepth 100000 in
theorem form_any (B g : Nat) (l : List Nat) (t : Nat) (k wide : Int) (w : World) (hw : ReaderAt w B g l t) (k0 : 0 ≤ k) (k1 : k ≤ 15) (w0 : 1 ≤ wide) (w1 : wide ≤ 16) :
    Calls Tryd.prog 83 #[.pointer (some ⟨B, 0, none⟩), .int .i64 k, .int .i64 wide] w fun e w' => ∃ (X E : Int) (t' t2 : Nat), e = .returned (.tuple #[.int .i64 X, .int .i64 E]) ∧ ReaderAt w' B g l t' ∧ Kept [B] w w' ∧
      NumRes l t k.toNat wide.toNat X E t2 ∧ (E = 0 → t2 = t') := by
  obtain ⟨Z, E, t', hzr, HC⟩ := zeros_res l t 24 hw.2.2.2.1 (by decide) (by decide)
  rcases zeros_cases hzr with ⟨u, hu, hul, hz, ho, rfl, rfl, rfl⟩ | ⟨hl, hz, rfl, rfl, rfl⟩ | ⟨hl, hz, rfl, rfl, rfl⟩
  · obtain ⟨Y, E, t', hg⟩ := getRes_ex l (t + u + 1) k.toNat
    have HG := Hid.mk (fun w hw => get_res B g l (t + u + 1) k Y E t' w hw (by omega) (by omega) hg)
    have HC := Hid.mk HC
    have HW := Hid.mk hw
    have Hz := Hid.mk hz
    have Ho := Hid.mk ho
    clear hw hz ho
    have hne : ¬ ((u : Int) = 24) := by omega
    rcases hg with ⟨h2, rfl, rfl, rfl⟩ | ⟨h2, rfl, rfl, rfl⟩
    · have hlow := nextN_lt l (t + u + 1) k.toNat
      have hpk : 2 ^ k.toNat ≤ 32768 := by
        have : 2 ^ k.toNat ≤ 2 ^ 15 := Nat.pow_le_pow_right (by decide) (by omega)
        exact this
      have hum : u * 2 ^ k.toNat ≤ 24 * 32768 := Nat.mul_le_mul (by omega) hpk
      obtain ⟨M, hM⟩ : ∃ M : Int, (u : Int) * 2 ^ k.toNat = M := ⟨_, rfl⟩
      have hM2 : M = ((u * 2 ^ k.toNat : Nat) : Int) := by rw [← hM, shl_nat]
      have M0 : 0 ≤ M := by omega
      have M1 : M ≤ 786432 := by omega
      have y1 : (nextN l (t + u + 1) k.toNat : Int) ≤ 32768 := by omega
      by_cases hv : u * 2 ^ k.toNat + nextN l (t + u + 1) k.toNat < 2 ^ wide.toNat
      · have hv' : (M + (nextN l (t + u + 1) k.toNat : Int)) / 2 ^ wide.toNat = 0 := by
          rw [pow_two_int]; exact Int.ediv_eq_zero_of_lt (by omega) (by omega)
        have Hv := Hid.mk hv
        have HM := Hid.mk hM2
        clear hv hlow hpk hum hM2
        go_enter Tryd.func83, Tryd.ntmps83
        go_wp2_with (first
          | (go_at_call 94; refine (HC.out B g _ HW.out).mono ?_; rintro e w1 ⟨rfl, hr1, hk1⟩)
          | (go_at_call 35; refine (HG.out _ hr1).mono ?_; rintro e w2 ⟨rfl, hr2, hk2⟩))
        go_ret2
        refine ⟨_, _, _, _, rfl, hr2, hk1.trans hk2, .inl ⟨u, hu, Hz.out, Ho.out, by omega, Hv.out, ?_, rfl, rfl⟩, fun _ => rfl⟩
        rw [HM.out]; omega
      · have hv' : 0 < (M + (nextN l (t + u + 1) k.toNat : Int)) / 2 ^ wide.toNat := pos_shr _ _ (by omega)
        have Hv := Hid.mk hv
        clear hv hlow hpk hum hM2
        go_enter Tryd.func83, Tryd.ntmps83
        go_wp2_with (first
          | (go_at_call 94; refine (HC.out B g _ HW.out).mono ?_; rintro e w1 ⟨rfl, hr1, hk1⟩)
          | (go_at_call 35; refine (HG.out _ hr1).mono ?_; rintro e w2 ⟨rfl, hr2, hk2⟩))
        go_ret2
        exact ⟨_, _, _, _, rfl, hr2, hk1.trans hk2, .inr (.inr (.inr ⟨rfl, rfl, rfl, .inl ⟨u, hu, Hz.out, Ho.out, by omega, by have := Hv.out; omega⟩⟩)), fun h => by cases h⟩
    · go_enter Tryd.func83, Tryd.ntmps83
      go_wp2_with (first
        | (go_at_call 94; refine (HC.out B g _ HW.out).mono ?_; rintro e w1 ⟨rfl, hr1, hk1⟩)
        | (go_at_call 35; refine (HG.out _ hr1).mono ?_; rintro e w2 ⟨rfl, hr2, hk2⟩))
      go_ret2
      exact ⟨_, _, _, _, rfl, hr2, hk1.trans hk2, .inr (.inr (.inl ⟨rfl, rfl, rfl, .inl ⟨u, hu, Hz.out, Ho.out, by omega, by omega⟩⟩)), fun h => by cases h⟩
  · have HC := Hid.mk HC
    have HW := Hid.mk hw
    have Hz := Hid.mk hz
    have HL := Hid.mk (fun w hw => long_any B g l (t + 24) k wide w hw k0 k1 w0 w1)
    clear hw hz
    go_enter Tryd.func83, Tryd.ntmps83
    go_wp2_with (go_at_call 94; refine (HC.out B g _ HW.out).mono ?_; rintro e w1 ⟨rfl, hr1, hk1⟩)
    refine (HL.out _ hr1).mono ?_
    rintro e w2 ⟨X, E, t', rfl, hr2, hk2, hres⟩
    go_wp2_with fail
    go_ret2
    rcases hres with ⟨h1, h2, rfl, rfl, rfl⟩ | ⟨h1, h2, rfl, rfl⟩ | ⟨h1, rfl, rfl⟩
    · exact ⟨_, _, _, _, rfl, hr2, hk1.trans hk2, .inr (.inl ⟨Hz.out, by omega, h2, rfl, rfl, rfl⟩), fun _ => rfl⟩
    · exact ⟨_, _, _, _, rfl, hr2, hk1.trans hk2, .inr (.inr (.inr ⟨rfl, rfl, rfl, .inr ⟨Hz.out, by omega, h2⟩⟩)), fun h => by cases h⟩
    · exact ⟨_, _, _, _, rfl, hr2, hk1.trans hk2, .inr (.inr (.inl ⟨rfl, rfl, rfl, .inr (.inl ⟨Hz.out, by omega, by omega⟩)⟩)), fun h => by cases h⟩
  · have HC := Hid.mk HC
    have HW := Hid.mk hw
    have Hz := Hid.mk hz
    clear hw hz
    go_enter Tryd.func83, Tryd.ntmps83
    go_wp2_with (go_at_call 94; refine (HC.out B g _ HW.out).mono ?_; rintro e w1 ⟨rfl, hr1, hk1⟩)
    go_ret2
    exact ⟨_, _, _, _, rfl, hr1, hk1, .inr (.inr (.inl ⟨rfl, rfl, rfl, .inr (.inr ⟨by omega, Hz.out⟩)⟩)), fun h => by cases h⟩

theorem numRes_err {l : List Nat} {t k wide : Nat} {X E : Int} {t' : Nat} (h : NumRes l t k wide X E t') (hE : E ≠ 0) : X = 0 ∧ t' = t := by
  rcases h with ⟨_, _, _, _, _, _, _, h, _⟩ | ⟨_, _, _, _, h, _⟩ | ⟨h1, h2, _⟩ | ⟨h1, h2, _⟩
  · exact absurd h hE
  · exact absurd h hE
  · exact ⟨h1, h2⟩
  · exact ⟨h1, h2⟩

/-- What the copy of a reader is. -/
theorem reader_at {w : World} {B A g : Nat} {l : List Nat} {t : Nat} (h : ReaderAt w B g l t) (h2 : w.heap[A]? = some (.cells #[.slice (some ⟨g, 0, none⟩) l.length l.length, .int .i64 (t : Int)] 90 (0, 0))) : ReaderAt w A g l t := ⟨h2, h.2⟩

set_option maxHeartbeats 2000000 in
set_option maxRecDepth 100000 in
theorem gget_any (B g : Nat) (l : List Nat) (t : Nat) (k wide : Int) (w : World) (hw : ReaderAt w B g l t) (k0 : 0 ≤ k) (k1 : k ≤ 15) (w0 : 1 ≤ wide) (w1 : wide ≤ 16) :
    Calls Tryd.prog 56 #[.pointer (some ⟨B, 0, none⟩), .int .i64 k, .int .i64 wide] w fun e w' => ∃ (X E : Int) (t' : Nat), e = .returned (.tuple #[.int .i64 X, .int .i64 E]) ∧ ReaderAt w' B g l t' ∧ Kept [B] w w' ∧
      NumRes l t k.toNat wide.toNat X E t' := by
  obtain ⟨c0, c1, fz⟩ := cells_two hw.1
  have f0 := fz 0
  have f1 := fz 1
  have HW := Hid.mk hw
  have hBl := lt_of_block hw.1
  clear hw fz
  go_enter Tryd.func56, Tryd.ntmps56
  go_wp2_with (go_at_call 82; refine (formed_ok k wide _ k0 k1 w0 w1).mono ?_; rintro e w' ⟨rfl, rfl⟩)
  have hra : ReaderAt (w'.alloc (.cells #[.slice (some ⟨g, 0, none⟩) l.length l.length, .int .i64 (t : Int)] 90)) w'.heap.size g l t := ⟨by rw [heap_alloc_new], by rw [Below.heap_alloc _ _ _ (lt_of_block HW.out.2.1)]; exact HW.out.2.1, HW.out.2.2⟩
  refine (form_any w'.heap.size g l t k wide _ hra k0 k1 w0 w1).mono ?_
  rintro e w2 ⟨X, E, t', t2, rfl, hr2, hk2, hres, hE⟩
  have hK : Kept [] w' w2 := ((Kept.refl _ _).alloc _).step hk2 (by simp)
  have hB2 := hK.heap HW.out.1 (by simp)
  obtain ⟨a0, a1, _⟩ := cells_two hr2.1
  obtain ⟨d0, d1, fz⟩ := cells_two hB2
  have g0 := fz 0
  have g1 := fz 1
  have HR2 := Hid.mk hr2
  have HK := Hid.mk hK
  have HB2 := Hid.mk hB2
  have HE := Hid.mk hE
  have Hres := Hid.mk hres
  have hne : w'.heap.size ≠ B := by omega
  clear hr2 hk2 hK hB2 fz hra hE hres c0 c1 f0 f1
  by_cases hE0 : E = 0
  · subst hE0
    go_wp2_with fail
    go_ret2
    obtain rfl := HE.out (by simp)
    refine ⟨_, _, _, rfl, ⟨?_, ?_, HR2.out.2.2⟩, ((HK.out.mono (l2 := [B]) (by simp)).setCell (by simp) _).setCell (by simp) _, Hres.out⟩
    · rw [heap_setCell_at (heap_setCell_at HB2.out)]; simp
    · have hgb : g ≠ B := by
        rintro rfl
        have h1 := HW.out.2.1
        rw [HW.out.1] at h1
        simp at h1
      rw [Below.heap_setCell _ _ _ _ hgb, Below.heap_setCell _ _ _ _ hgb]
      exact HR2.out.2.1
  · go_wp2_with fail
    go_ret2
    obtain ⟨rfl, rfl⟩ := numRes_err Hres.out hE0
    exact ⟨_, _, _, rfl, reader_kept HW.out HK.out (by simp) (by simp), HK.out.mono (by simp), Hres.out⟩
end Go.Proofs.YtahoeodpjdbdkaaDoor
