import Derived.Test.YtahoeodpjdbdkaaDoorG2
namespace Go.Proofs.YtahoeodpjdbdkaaDoor
open Go.RowKit

/-- The rate behind i stretches. -/
def ri (r i : Nat) : Nat := min (r + i) 22

/-- What Get of a run comes to. -/
def RunRes (l : List Nat) (t r room : Nat) (X E : Int) (t' r' : Nat) : Prop :=
  ∃ i, (∀ a, a < i → nextN l (t + a) 1 = 1) ∧ S r i ≤ room ∧ t + i ≤ 8 * l.length ∧
    ((S r i = room ∧ X = (room : Int) ∧ E = 0 ∧ t' = t + i ∧ r' = ri r i) ∨
     (S r i < room ∧ t + i < 8 * l.length ∧ nextN l (t + i) 1 = 1 ∧ room < S r (i + 1) ∧ X = (room : Int) ∧ E = 0 ∧ t' = t + i + 1 ∧ r' = ri r i) ∨
     (S r i < room ∧ t + i < 8 * l.length ∧ nextN l (t + i) 1 = 0 ∧ t + i + 1 + J (ri r i) ≤ 8 * l.length ∧ S r i + nextN l (t + i + 1) (J (ri r i)) < room ∧
       X = ((S r i + nextN l (t + i + 1) (J (ri r i)) : Nat) : Int) ∧ E = 0 ∧ t' = t + i + 1 + J (ri r i) ∧ r' = ri r i - 1) ∨
     (S r i < room ∧ X = 0 ∧ t' = t ∧ r' = r ∧ E = 23 ∧ (t + i = 8 * l.length ∨ (t + i < 8 * l.length ∧ nextN l (t + i) 1 = 0 ∧ 8 * l.length < t + i + 1 + J (ri r i)))) ∨
     (S r i < room ∧ t + i < 8 * l.length ∧ X = 0 ∧ t' = t ∧ r' = r ∧ E = 24 ∧ nextN l (t + i) 1 = 0 ∧ t + i + 1 + J (ri r i) ≤ 8 * l.length ∧ room ≤ S r i + nextN l (t + i + 1) (J (ri r i))))

theorem rm_ri (r n : Nat) : rm r n = ri r (cnt r n) := rfl
theorem ri_le (r i : Nat) : ri r i ≤ 22 := by unfold ri; omega
theorem S_succ (r i : Nat) : S r (i + 1) = S r i + 2 ^ J (ri r i) := rfl

theorem run_short {r n room : Nat} (h : n < room) : rw_ r n room = cnt r n + 1 + J (ri r (cnt r n)) ∧ rf r n room = (2 ^ cnt r n - 1) * 2 ^ (1 + J (ri r (cnt r n))) + (n - S r (cnt r n)) ∧ rr r n room = ri r (cnt r n) - 1 := by
  unfold rw_ rf rr; rw [if_pos h, if_pos h, if_pos h]; exact ⟨rfl, rfl, rfl⟩
theorem run_full {r room : Nat} (h : S r (cnt r room) = room) : rw_ r room room = cnt r room ∧ rf r room room = 2 ^ cnt r room - 1 ∧ rr r room room = ri r (cnt r room) := by
  have h0 : ¬ room < room := by omega
  have h1 : rw_ r room room = cnt r room := by unfold rw_; rw [if_neg h0, if_neg (by omega)]
  unfold rf rr
  rw [if_neg h0, if_neg h0, h1]; exact ⟨rfl, rfl, rfl⟩
theorem run_over {r room : Nat} (h : S r (cnt r room) < room) : rw_ r room room = cnt r room + 1 ∧ rf r room room = 2 ^ (cnt r room + 1) - 1 ∧ rr r room room = ri r (cnt r room) := by
  have h0 : ¬ room < room := by omega
  have h1 : rw_ r room room = cnt r room + 1 := by unfold rw_; rw [if_neg h0, if_pos h]
  unfold rf rr
  rw [if_neg h0, if_neg h0, h1]; exact ⟨rfl, rfl, rfl⟩

/-- A run's bits that end in a nought and a number. -/
theorem next_run (l : List Nat) (t i j : Nat) (h : t + i + 1 + j ≤ 8 * l.length) (ho : ∀ a, a < i → nextN l (t + a) 1 = 1) (hz : nextN l (t + i) 1 = 0) :
    nextN l t (i + 1 + j) = (2 ^ i - 1) * 2 ^ (1 + j) + nextN l (t + i + 1) j := by
  have e1 := nextN_join l t (i + 1) j (by omega)
  have e2 := nextN_join l t i 1 (by omega)
  rw [ones_next l t i (by omega) ho, hz] at e2
  rw [e1, e2, show t + (i + 1) = t + i + 1 by omega, Nat.pow_add, Nat.add_zero, Nat.mul_assoc]

theorem run_next (l : List Nat) (t i j low : Nat) (h : t + i + 1 + j ≤ 8 * l.length) (hl : low < 2 ^ j) (hn : nextN l t (i + 1 + j) = (2 ^ i - 1) * 2 ^ (1 + j) + low) :
    (∀ a, a < i → nextN l (t + a) 1 = 1) ∧ nextN l (t + i) 1 = 0 ∧ nextN l (t + i + 1) j = low := by
  have e1 := nextN_join l t (i + 1) j (by omega)
  have e2 := nextN_join l t i 1 (by omega)
  rw [show t + (i + 1) = t + i + 1 by omega] at e1
  have b1 := nextN_lt l (t + i + 1) j
  have b2 := bit_lt l (t + i)
  rw [hn] at e1
  have h3 : nextN l t (i + 1) = (2 ^ i - 1) * 2 := by
    have d1 := two_parts ((2 ^ i - 1) * 2) j low hl
    have d2 := two_parts (nextN l t (i + 1)) j _ b1
    rw [← e1, Nat.pow_add, Nat.pow_one, ← Nat.mul_assoc] at d2
    rw [← d2.1, d1.1]
  have h5 : nextN l (t + i + 1) j = low := by
    rw [h3, Nat.pow_add, Nat.pow_one, ← Nat.mul_assoc] at e1
    omega
  rw [h3] at e2
  exact ⟨next_ones l t i (by omega) (by omega), by omega, h5⟩

theorem runs_same {l : List Nat} {t i j : Nat} (hz : nextN l (t + i) 1 = 0) (hj : ∀ a, a < j → nextN l (t + a) 1 = 1) : j ≤ i := by
  rcases Nat.lt_or_ge i j with h | h
  · have := hj i h; omega
  · exact h

/-- Where the next bits are a run's, that run is read. -/
theorem runRes_form {l : List Nat} {t r room n : Nat} {X E : Int} {t' r' : Nat} (h : RunRes l t r room X E t' r') (hn : n ≤ room) (hl : t + rw_ r n room ≤ 8 * l.length) (hb : nextN l t (rw_ r n room) = rf r n room) :
    X = (n : Int) ∧ E = 0 ∧ t' = t + rw_ r n room ∧ r' = rr r n room := by
  have c1 := cnt_lo r n
  have c2 := cnt_hi r n
  have c3 := left_lt r n
  obtain ⟨i, ho, hS, hti, hc⟩ := h
  by_cases hlt : n < room
  · obtain ⟨e1, e2, e3⟩ := run_short (r := r) hlt
    rw [e1, e2] at hb
    rw [e1] at hl ⊢
    rw [e3]
    rw [rm_ri] at c3
    obtain ⟨o, z, nx⟩ := run_next l t _ _ _ (by omega) c3 hb
    have hle := runs_same z ho
    have hSi := S_mono r (i + 1) (cnt r n)
    have hi : i < cnt r n → S r (i + 1) ≤ n ∧ nextN l (t + i) 1 = 1 := fun h => ⟨by have := hSi h; omega, o i h⟩
    rcases Nat.lt_or_ge i (cnt r n) with hic | hic
    · obtain ⟨g1, g2⟩ := hi hic
      have g3 := S_succ r i
      have g4 := Nat.two_pow_pos (J (ri r i))
      rcases hc with ⟨h1, _⟩ | ⟨_, _, _, h1, _⟩ | ⟨_, _, h1, _⟩ | ⟨_, _, _, _, _, h1 | ⟨_, h1, _⟩⟩ | ⟨_, _, _, _, _, _, h1, _⟩ <;> omega
    · obtain rfl : i = cnt r n := by omega
      rcases hc with ⟨h1, _⟩ | ⟨_, _, h1, _⟩ | ⟨_, _, _, _, _, rfl, rfl, rfl, rfl⟩ | ⟨_, _, _, _, _, h1 | ⟨_, h1, h2⟩⟩ | ⟨_, _, _, _, _, _, h1, _, h2⟩
      · omega
      · omega
      · rw [nx]
        exact ⟨by omega, rfl, by omega, rfl⟩
      · omega
      · omega
      · rw [nx] at h2; omega
  · obtain rfl : n = room := by omega
    rcases Nat.lt_or_ge (S r (cnt r n)) n with hs | hs
    · obtain ⟨e1, e2, e3⟩ := run_over hs
      rw [e1, e2] at hb
      rw [e1] at hl ⊢
      rw [e3]
      have o := next_ones l t _ (by omega) hb
      have hic : i ≤ cnt r n := by
        rcases Nat.lt_or_ge (cnt r n) i with h | h
        · have := S_mono r (cnt r n + 1) i h; omega
        · exact h
      have oi := o i (by omega)
      rcases Nat.lt_or_ge i (cnt r n) with hlt2 | hge
      · have := S_mono r (i + 1) (cnt r n) hlt2
        have g3 := S_succ r i
        have g4 := Nat.two_pow_pos (J (ri r i))
        rcases hc with ⟨h1, _⟩ | ⟨_, _, _, h1, _⟩ | ⟨_, _, h1, _⟩ | ⟨_, _, _, _, _, h1 | ⟨_, h1, _⟩⟩ | ⟨_, _, _, _, _, _, h1, _⟩ <;> omega
      · obtain rfl : i = cnt r n := by omega
        rcases hc with ⟨h1, _⟩ | ⟨_, _, _, _, rfl, rfl, rfl, rfl⟩ | ⟨_, _, h1, _⟩ | ⟨_, _, _, _, _, h1 | ⟨_, h1, _⟩⟩ | ⟨_, _, _, _, _, _, h1, _⟩
        · omega
        · exact ⟨rfl, rfl, by omega, rfl⟩
        · omega
        · omega
        · omega
        · omega
    · have hs2 : S r (cnt r n) = n := by omega
      obtain ⟨e1, e2, e3⟩ := run_full hs2
      rw [e1, e2] at hb
      rw [e1] at hl ⊢
      rw [e3]
      have o := next_ones l t _ (by omega) hb
      have hic : i ≤ cnt r n := by
        rcases Nat.lt_or_ge (cnt r n) i with h | h
        · have := S_mono r (cnt r n + 1) i h; omega
        · exact h
      rcases Nat.lt_or_ge i (cnt r n) with hlt2 | hge
      · have oi := o i (by omega)
        have := S_mono r (i + 1) (cnt r n) hlt2
        have g3 := S_succ r i
        have g4 := Nat.two_pow_pos (J (ri r i))
        rcases hc with ⟨h1, _⟩ | ⟨_, _, _, h1, _⟩ | ⟨_, _, h1, _⟩ | ⟨_, _, _, _, _, h1 | ⟨_, h1, _⟩⟩ | ⟨_, _, _, _, _, _, h1, _⟩ <;> omega
      · obtain rfl : i = cnt r n := by omega
        rcases hc with ⟨h1, rfl, rfl, rfl, rfl⟩ | ⟨h1, _⟩ | ⟨h1, _⟩ | ⟨h1, _⟩ | ⟨h1, _⟩
        · exact ⟨rfl, rfl, rfl, rfl⟩
        · omega
        · omega
        · omega
        · omega

/-- What is read is a run whose bits are just those that are taken. -/
theorem runRes_ok {l : List Nat} {t r room : Nat} {X E : Int} {t' r' : Nat} (h : RunRes l t r room X E t' r') :
    (E = 0 ∧ ∃ n : Nat, X = (n : Int) ∧ n ≤ room ∧ t' = t + rw_ r n room ∧ t' ≤ 8 * l.length ∧ r' = rr r n room ∧ nextN l t (rw_ r n room) = rf r n room) ∨ ((E = 23 ∨ E = 24) ∧ t' = t ∧ r' = r) := by
  obtain ⟨i, ho, hS, hti, hc⟩ := h
  rcases hc with ⟨h1, rfl, rfl, rfl, rfl⟩ | ⟨h1, h2, h3, h4, rfl, rfl, rfl, rfl⟩ | ⟨h1, h2, h3, h4, h5, rfl, rfl, rfl, rfl⟩ | ⟨_, _, h1, h2, h3, _⟩ | ⟨_, _, _, h1, h2, h3, _⟩
  · have hm : cnt r room = i := cnt_eq r room i hS (by have := S_succ r i; have := Nat.two_pow_pos (J (ri r i)); omega)
    obtain ⟨e1, e2, e3⟩ := run_full (r := r) (room := room) (by rw [hm]; exact h1)
    rw [hm] at e1 e2 e3
    refine .inl ⟨rfl, room, rfl, Nat.le_refl _, by rw [e1], hti, by rw [e3], ?_⟩
    rw [e1, e2]
    exact ones_next l t i hti ho
  · have hm : cnt r room = i := cnt_eq r room i hS h4
    obtain ⟨e1, e2, e3⟩ := run_over (r := r) (room := room) (by rw [hm]; exact h1)
    rw [hm] at e1 e2 e3
    refine .inl ⟨rfl, room, rfl, Nat.le_refl _, by rw [e1]; omega, by omega, by rw [e3], ?_⟩
    rw [e1, e2]
    refine ones_next l t (i + 1) (by omega) (fun a ha => ?_)
    by_cases e : a = i
    · subst e; exact h3
    · exact ho a (by omega)
  · have hlow := nextN_lt l (t + i + 1) (J (ri r i))
    have hm : cnt r (S r i + nextN l (t + i + 1) (J (ri r i))) = i := cnt_eq r _ i (by omega) (by rw [S_succ]; omega)
    obtain ⟨e1, e2, e3⟩ := run_short (r := r) h5
    rw [hm] at e1 e2 e3
    refine .inl ⟨rfl, _, rfl, by omega, by rw [e1]; omega, h4, by rw [e3], ?_⟩
    rw [e1, e2, next_run l t i (J (ri r i)) h4 ho h3]
    omega
  · exact .inr ⟨.inl h3, h1, h2⟩
  · exact .inr ⟨.inr h3, h1, h2⟩

/-- A row that is a run rises the rate by as many as it has bits, but one. -/
theorem row_bits (r n : Nat) (hr : r ≤ 22) (h1 : 1 ≤ n) (hn : n ≤ 4096) : rw_ r n n + r ≤ rr r n n + 1 := by
  have c1 := cnt_lo r n
  have c2 := cnt_hi r n
  by_cases h22 : r + cnt r n ≤ 22
  · have hri : ri r (cnt r n) = r + cnt r n := by unfold ri; omega
    rcases Nat.lt_or_ge (S r (cnt r n)) n with hs | hs
    · obtain ⟨e1, _, e3⟩ := run_over hs
      rw [e1, e3, hri]; omega
    · obtain ⟨e1, _, e3⟩ := run_full (show S r (cnt r n) = n by omega)
      rw [e1, e3, hri]; omega
  · have hj : J 22 = 12 := by decide
    -- the stretch at the rate 22 is the whole room
    have hk : S r (22 - r) + 4096 ≤ S r (cnt r n) := by
      have h := S_mono r (22 - r + 1) (cnt r n) (by omega)
      rw [S_succ, show ri r (22 - r) = 22 by unfold ri; omega, hj] at h
      exact h
    have hg := S_ge r (22 - r)
    have hr22 : r = 22 := by omega
    subst hr22
    have hc1 : cnt 22 n = 1 := by
      have h := S_mono 22 2 (cnt 22 n)
      have h2 : S 22 2 = 8192 := by decide
      rcases Nat.lt_or_ge (cnt 22 n) 2 with h3 | h3
      · omega
      · have := h h3; omega
    have h41 : S 22 1 = 4096 := by decide
    rw [hc1] at c1
    obtain ⟨e1, _, e3⟩ := run_full (r := 22) (room := n) (by rw [hc1]; omega)
    rw [e1, e3, hc1]
    decide
end Go.Proofs.YtahoeodpjdbdkaaDoor
