import Derived.Test.YtoghkbajdljheaaD
namespace Go.Proofs.Ytoghkbajdljheaa
open Go.RowKit

/-- A list of bytes that fills its row, or nil. -/
def Lst (w : World) (v : Value) (l : List Nat) : Prop :=
  (v = .slice none 0 0 ∧ l = []) ∨ ∃ g, v = .slice (some ⟨g, 0, none⟩) l.length l.length ∧ w.heap[g]? = some (.cells (l.map byt).toArray 5 (0, 0))

theorem Lst.reads {w : World} {v : Value} {l : List Nat} (h : Lst w v l) : ∃ ao, v = .slice ao l.length l.length ∧ Reads w ao l := by
  rcases h with ⟨rfl, rfl⟩ | ⟨g, rfl, hg⟩
  · exact ⟨none, rfl, .inl rfl⟩
  · refine ⟨_, rfl, .inr ⟨g, 0, rfl, fun i hi => ?_⟩⟩
    simp [World.cell?, hg, hi]

theorem Lst.kept {w w' : World} {v : Value} {l : List Nat} {ks : List Nat} (h : Lst w v l) (hk : Kept ks w w') (hn : ∀ g, v.ownBlock = some g → g ∉ ks) : Lst w' v l := by
  rcases h with h | ⟨g, rfl, hg⟩
  · exact .inl h
  · exact .inr ⟨g, rfl, hk.heap hg (hn g rfl)⟩
theorem Lst.keep {w w' : World} {v : Value} {l : List Nat} (h : Lst w v l) (hk : Kept [] w w') : Lst w' v l := h.kept hk (by simp)

theorem Lst.str {w : World} {v : Value} {l : List Nat} (h : Lst w v l) : Sem.run Try.prog (convert 43 9 v) w = .ok (.string (bstr l)) w := by
  obtain ⟨ao, rfl, hr⟩ := h.reads
  exact reads_str hr _

set_option maxHeartbeats 1000000 in
set_option maxRecDepth 1000000 in
theorem appendBig_fit (g n cap : Nat) (xs : List Value) (X k : Int) (w : World) (hown : w.ownsRow 0 5 1 (.slice (some ⟨g, 0, none⟩) n cap) n xs) (k0 : 0 ≤ k) (k1 : k ≤ 8) (X0 : 0 ≤ X) (hn : n + k.toNat ≤ cap) :
    Calls Try.prog 41 #[.slice (some ⟨g, 0, none⟩) n cap, .int .u64 X, .int .i64 k] w fun e w' => e = .returned (.slice (some ⟨g, 0, none⟩) (n + k.toNat) cap) ∧
      w'.ownsRow 0 5 1 (.slice (some ⟨g, 0, none⟩) (n + k.toNat) cap) (n + k.toNat) (xs ++ (big k.toNat X.toNat).map byt) ∧ Kept [g] w w' := by
  obtain ⟨i0, hi, hz0, hz1, hz2⟩ := info_parts Try.info5
  have hcm : cap ≤ 9223372036854775807 := by
    rcases hown.2 with ⟨h, _⟩ | ⟨g', cap', cur, h, _, _, _, hc, _⟩
    · simp at h
    · simp at h; obtain ⟨_, rfl⟩ := h; unfold maxLen at hc; exact hc
  go_enter Try.func41, Try.ntmps41
  go_wp2
  go_loopw [0, 9] (fun v1 i wr => ∃ j : Nat, (j : Int) ≤ k ∧ i = .int .i64 j ∧ v1 = .slice (some ⟨g, 0, none⟩) (n + j) cap ∧ wr.ownsRow 0 5 1 (.slice (some ⟨g, 0, none⟩) (n + j) cap) (n + j) (xs ++ (big j (X.toNat / 256 ^ (k.toNat - j))).map byt) ∧ Kept [g] w wr)
    (fun _ i _ => k.toNat - (intOf i).toNat)
  case atStart => exact ⟨0, by omega, rfl, rfl, by simpa [big] using hown, Kept.refl _ _⟩
  case round =>
    obtain ⟨j, hj, rfl, rfl, hor, hkr⟩ := hrel
    by_cases hlt : (j : Int) < k
    · go_wp2_with (at_builtin; refine wpList_append_fits _ rfl _ _ 43 rfl 0 5 i0 1 Try.underlying43 hi hz1 g (n + j) cap _ rfl (hor.alloc _) ⟨wr.heap.size, 0, none⟩ 1 1 [.int .u8 (X / 2 ^ (8 * (k - 1 - (j : Int))).toNat % 256)] rfl rfl ?c1 ?c2 ?c3 ?_)
      case c1 =>
        intro i u hu
        match i, hu with
        | 0, hu => simp at hu; subst hu; simp [Addr.add]
      case c2 => intro u hu; simp at hu; subst hu; rfl
      case c3 => omega
      intro w1 hown' hgrow
      have hk' : Kept [g] w w1 := (hkr.alloc _).step (Kept.of_grown hgrow) (by simp)
      have ho' : w1.ownsRow 0 5 1 (.slice (some ⟨g, 0, none⟩) (n + (j + 1)) cap) (n + (j + 1)) (xs ++ (big (j + 1) (X.toNat / 256 ^ (k.toNat - (j + 1)))).map byt) := by
        have e1 : X.toNat / 256 ^ (k.toNat - (j + 1)) / 256 = X.toNat / 256 ^ (k.toNat - j) := by
          rw [Nat.div_div_eq_div_mul, ← Nat.pow_succ, show (k.toNat - (j + 1)).succ = k.toNat - j by omega]
        rw [big, e1, List.map_append, ← List.append_assoc, List.map_singleton, byt, ← byte_eq X k j k1 X0 hlt]
        simpa [Nat.add_assoc] using hown'
      clear hown' hgrow hor hkr
      go_wp2
      go_roundw
      case rel => exact ⟨j + 1, by omega, by go_num, rfl, ho', hk'⟩
      case measure => simp [intOf]; omega
    · go_wp2
      go_ret
      obtain rfl : k = (j : Int) := by omega
      exact ⟨by simp, by simpa using hor, hkr⟩

/-- What Big comes to. -/
def BigRes (n b E : Int) (l : List Nat) : Prop :=
  ((b < 1 ∨ 8 < b) ∧ E = 11 ∧ l = []) ∨ (1 ≤ b ∧ b ≤ 8 ∧ (n / 2 ^ (8 * b).toNat == 0) = false ∧ E = 12 ∧ l = []) ∨ (1 ≤ b ∧ b ≤ 8 ∧ (n / 2 ^ (8 * b).toNat == 0) = true ∧ E = 0 ∧ l = big b.toNat n.toNat)

theorem bigRes_ex (n b : Int) : ∃ E l, BigRes n b E l := by
  by_cases h1 : b < 1 ∨ 8 < b
  · exact ⟨_, _, .inl ⟨h1, rfl, rfl⟩⟩
  · cases h2 : (n / 2 ^ (8 * b).toNat == 0)
    · exact ⟨_, _, .inr (.inl ⟨by omega, by omega, h2, rfl, rfl⟩)⟩
    · exact ⟨_, _, .inr (.inr ⟨by omega, by omega, h2, rfl, rfl⟩)⟩

theorem bigRes_byts {n b E : Int} {l : List Nat} (h : BigRes n b E l) : Byts l ∧ l.length ≤ 8 := by
  rcases h with ⟨_, _, rfl⟩ | ⟨_, _, _, _, rfl⟩ | ⟨_, h8, _, _, rfl⟩
  · exact ⟨by simp [Byts], by simp⟩
  · exact ⟨by simp [Byts], by simp⟩
  · exact ⟨big_lt _ _, by rw [big_length]; omega⟩

set_option maxHeartbeats 1000000 in
set_option maxRecDepth 1000000 in
theorem big_fit (n b : Int) (w : World) (h1 : 1 ≤ b) (h2 : b ≤ 8) (n0 : 0 ≤ n) (hv : (n / 2 ^ (8 * b).toNat == 0) = true) :
    Calls Try.prog 15 #[.int .u64 n, .int .i64 b] w fun e w' => e = .returned (.tuple #[.slice (some ⟨w.heap.size, 0, none⟩) b.toNat b.toNat, .int .i64 0]) ∧
      w'.heap[w.heap.size]? = some (.cells ((big b.toNat n.toNat).map byt).toArray 5 (0, 0)) ∧ Kept [] w w' := by
  have t1 : decide (b < 1) = false := by simp; omega
  obtain ⟨i0, hi, hz0, hz1, hz2⟩ := info_parts Try.info5
  go_enter Try.func15, Try.ntmps15
  go_wp2_with (first
    | (go_at_call 40; refine (fits64_any _ _ _ (by omega) (by omega)).mono ?_; rintro e w' ⟨rfl, rfl⟩)
    | (at_make; refine wpList_make_own _ rfl _ _ 43 rfl 0 5 i0 (.int .u8 0) 1 Try.underlying43 hi hz0 hz1 _ _ _ b.toNat rfl rfl (by omega) ?b2 ?b3 (by omega) ?_))
  case b2 => rw [hz2]; omega
  case b3 => unfold maxLen; omega
  intro w1 ho1 hg1
  go_wp2_with (go_at_call 41; refine (appendBig_fit _ 0 _ [] _ _ _ ho1 (by omega) (by omega) (by omega) (by omega)).mono ?_; rintro e w2 ⟨rfl, ho2, hk2⟩)
  go_ret2
  simp only [Nat.zero_add, List.nil_append] at ho2
  exact ⟨by simp, row_heap ho2 rfl, (Kept.of_grown hg1).step hk2 (by simp)⟩

/-- The program's Big. -/
theorem big_res (n b E : Int) (l : List Nat) (w : World) (n0 : 0 ≤ n) (h : BigRes n b E l) :
    Calls Try.prog 15 #[.int .u64 n, .int .i64 b] w fun e w' => ∃ v, e = .returned (.tuple #[v, .int .i64 E]) ∧ Lst w' v l ∧ (∀ g, v.ownBlock = some g → w.heap.size ≤ g) ∧ Kept [] w w' := by
  rcases h with ⟨hb, rfl, rfl⟩ | ⟨h1, h2, hv, rfl, rfl⟩ | ⟨h1, h2, hv, rfl, rfl⟩
  · refine (big_width n b w hb).mono ?_
    rintro e w' ⟨rfl, rfl⟩
    exact ⟨_, rfl, .inl ⟨rfl, rfl⟩, by simp [Value.ownBlock], Kept.refl _ _⟩
  · refine (big_value n b w h1 h2 hv).mono ?_
    rintro e w' ⟨rfl, rfl⟩
    exact ⟨_, rfl, .inl ⟨rfl, rfl⟩, by simp [Value.ownBlock], Kept.refl _ _⟩
  · refine (big_fit n b w h1 h2 n0 hv).mono ?_
    rintro e w' ⟨rfl, hg, hk⟩
    exact ⟨_, rfl, .inr ⟨_, by rw [big_length], hg⟩, by simp [Value.ownBlock], hk⟩

end Go.Proofs.Ytoghkbajdljheaa
