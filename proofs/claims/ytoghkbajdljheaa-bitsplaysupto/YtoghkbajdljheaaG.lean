import Derived.Test.YtoghkbajdljheaaF
namespace Go.Proofs.Ytoghkbajdljheaa
open Go.RowKit

theorem big_cons (j N : Nat) : big (j + 1) N = (N / 256 ^ j % 256) :: big j N := by
  have h := big_add 1 j N
  rw [Nat.add_comm 1 j] at h
  rw [h]
  simp [big]

theorem fill_step (b j N : Nat) (hj : j < b) : (((List.replicate (b - j) 0) ++ big j N).map byt).set (b - 1 - j) (byt (N / 256 ^ j % 256)) = ((List.replicate (b - (j + 1)) 0) ++ big (j + 1) N).map byt := by
  have e : b - j = (b - (j + 1)) + 1 := by omega
  rw [e, List.replicate_succ', big_cons, List.append_assoc, List.map_append, List.map_append, List.set_append_right _ _ (by simp; omega)]
  simp
  have e2 : b - 1 - j - (b - (j + 1)) = 0 := by omega
  rw [e2]
  simp

theorem div_chain (N j : Nat) : N / 256 ^ j / 256 = N / 256 ^ (j + 1) := by rw [Nat.div_div_eq_div_mul, Nat.pow_succ]

set_option maxHeartbeats 1000000 in
theorem refBig_width (n b : Int) (w : World) (h : b < 1 ∨ 8 < b) :
    Calls Try.prog 16 #[.int .u64 n, .int .i64 b] w fun e w' => e = .returned (.tuple #[.slice none 0 0, .int .i64 11]) ∧ w' = w := by
  rcases h with h | h
  · go_enter Try.func16, Try.ntmps16
    go_wp2
    go_ret2
    exact ⟨rfl, rfl⟩
  · have h' : ¬ b < 1 := by omega
    go_enter Try.func16, Try.ntmps16
    go_wp2
    go_ret2
    exact ⟨rfl, rfl⟩

set_option maxHeartbeats 1000000 in
set_option maxRecDepth 1000000 in
theorem refBig_some (n b : Int) (w : World) (h1 : 1 ≤ b) (h2 : b ≤ 8) (n0 : 0 ≤ n) (n1 : n < 18446744073709551616) :
    Calls Try.prog 16 #[.int .u64 n, .int .i64 b] w fun e w' => Kept [] w w' ∧
      ((n / 2 ^ (8 * b).toNat == 0) = false → e = .returned (.tuple #[.slice none 0 0, .int .i64 12])) ∧
      ((n / 2 ^ (8 * b).toNat == 0) = true → e = .returned (.tuple #[.slice (some ⟨w.heap.size, 0, none⟩) b.toNat b.toNat, .int .i64 0]) ∧ w'.heap[w.heap.size]? = some (.cells ((big b.toNat n.toNat).map byt).toArray 5 (0, 0))) := by
  have t1 : decide (b < 1) = false := by simp; omega
  obtain ⟨i0, hi, hz0, hz1, hz2⟩ := info_parts Try.info5
  obtain ⟨N, hN⟩ : ∃ N, N = n.toNat := ⟨_, rfl⟩
  have HN := Hid.mk hN
  rw [← hN]
  clear hN
  obtain ⟨m, hm⟩ : ∃ m, m = b.toNat := ⟨_, rfl⟩
  have Hn1 := Hid.mk n1
  have Hm := Hid.mk hm
  rw [← hm]
  clear n1 hm
  go_enter Try.func16, Try.ntmps16
  go_wp2_with (at_make; refine wpList_make_full _ rfl _ _ 43 rfl 0 5 i0 (.int .u8 0) 1 Try.underlying43 hi hz0 hz1 _ _ _ _ m rfl rfl (by have := Hm.out; omega) (by have := Hm.out; omega) ?b2 ?b3 (by omega) ?_)
  case b2 => have := Hm.out; rw [hz2]; omega
  case b3 => have := Hm.out; unfold maxLen; omega
  intro w1 ho1 hg1
  have hr1 := row_heap ho1 rfl
  rw [toList_madeCells_one] at hr1
  have hk1 := Kept.of_grown hg1
  have Hr1 := Hid.mk hr1
  have Hk1 := Hid.mk hk1
  clear ho1 hg1 hr1 hk1
  go_wp2
  go_loopw [0, 7] (fun s i wr => ∃ (j : Nat) (Q c : Int), (j : Int) ≤ b ∧ c = b - 1 - (j : Int) ∧ i = .int .i64 c ∧ s = .int .u64 Q ∧ 0 ≤ Q ∧ Q = ((N / 256 ^ j : Nat) : Int) ∧ wr.heap[w.heap.size]? = some (.cells (((List.replicate (m - j) 0) ++ big j N).map byt).toArray 5 (0, 0)) ∧ Kept [] w wr)
    (fun _ i _ => (intOf i + 1).toNat)
  case atStart => exact ⟨0, n, b - 1, by omega, by simp, rfl, rfl, n0, by have := HN.out; simp; omega, by rw [Hr1.out]; simp [big, byt], Hk1.out⟩
  case round =>
    obtain ⟨j, Q, c, hj, hc, rfl, rfl, Q0, hQ, hrow, hkr⟩ := hrel
    have hm := Hm.out
    have HQ := Hid.mk hQ
    have Hc := Hid.mk hc
    by_cases hlt : (0 : Int) ≤ c
    · have hlen : (((List.replicate (m - j) 0) ++ big j N).map byt).length = m := by simp [big_length]; omega
      obtain ⟨u, hu⟩ := row_cell_at hrow (j := c.toNat) (by rw [hlen]; omega)
      have hfz : wr.frozen? ⟨w.heap.size, c.toNat, none⟩ = false := by simp [World.frozen?, hrow]
      have i1 : c < (m : Int) := by omega
      have hcb : c ≤ 8 := by omega
      have Hrow := Hid.mk hrow
      have Hstep := Hid.mk (fill_step m j N (by omega))
      have Hdiv := Hid.mk (div_chain N j)
      have hq2 : IntKind.u64.wrap (Q.tdiv 256) = Q / 256 := by
        have h3 := Nat.div_le_self N (256 ^ j)
        have h4 := HN.out
        have h5 := Hn1.out
        rw [Int.tdiv_eq_ediv_of_nonneg Q0, IntKind.wrap_u64]
        omega
      clear hrow hQ hlen hm hc
      go_wp2
      go_roundw
      case rel =>
        refine ⟨j + 1, Q / 256, c - 1, by have := Hc.out; omega, by have := Hc.out; omega, by go_num, by go_num, by omega, by rw [HQ.out, ← Hdiv.out]; generalize N / 256 ^ j = Y; omega, ?_, ?_⟩
        · rw [heap_setCell_at Hrow.out, List.setIfInBounds_toArray, ← Hstep.out, show c.toNat = m - 1 - j by have := Hc.out; have := Hm.out; omega]
          have e : Value.int IntKind.u8 (Q % 256) = byt (N / 256 ^ j % 256) := by rw [HQ.out, byt]; congr 1
          rw [e]
        · exact hkr.setCell (p := ⟨w.heap.size, c.toNat, none⟩) (by simp) _
      case measure => simp [intOf]; omega
    · have hjm : j = m := by omega
      subst hjm
      rw [Nat.sub_self, List.replicate_zero, List.nil_append] at hrow
      have hfit : (n / 2 ^ (8 * b).toNat == 0) = decide (Q = 0) := by
        have e1 : (8 * b).toNat = 8 * j := by omega
        have e2 : n = (N : Int) := by have := HN.out; omega
        rw [e1, hQ, pow256, e2, pow_two_int, ← Int.natCast_ediv, Bool.eq_iff_iff, beq_iff_eq, decide_eq_true_iff]
      have Hrow := Hid.mk hrow
      have Hfit := Hid.mk hfit
      clear hrow hfit hQ hc hm
      by_cases hz : Q = 0
      · have hz2 : (Q != 0) = false := by simp [hz]
        have Hz := Hid.mk hz
        clear hz
        go_wp2
        go_ret2
        refine ⟨hkr, fun h => ?_, fun _ => ⟨rfl, Hrow.out⟩⟩
        have h2 : (n / 2 ^ (8 * b).toNat == 0) = true := by rw [Hfit.out, Hz.out]; rfl
        exact absurd (by simpa using h2) h
      · have hz2 : (Q != 0) = true := by simp [hz]
        have Hz := Hid.mk hz
        clear hz
        go_wp2
        go_ret2
        refine ⟨hkr, fun _ => rfl, fun h => ?_⟩
        have h2 : (n / 2 ^ (8 * b).toNat == 0) = false := by rw [Hfit.out, decide_eq_false_iff_not]; exact Hz.out
        exact absurd h (by simpa using h2)

/-- The document's Big. -/
theorem refBig_res (n b E : Int) (l : List Nat) (w : World) (n0 : 0 ≤ n) (n1 : n < 18446744073709551616) (h : BigRes n b E l) :
    Calls Try.prog 16 #[.int .u64 n, .int .i64 b] w fun e w' => ∃ v, e = .returned (.tuple #[v, .int .i64 E]) ∧ Lst w' v l ∧ Kept [] w w' := by
  rcases h with ⟨hb, rfl, rfl⟩ | ⟨h1, h2, hv, rfl, rfl⟩ | ⟨h1, h2, hv, rfl, rfl⟩
  · refine (refBig_width n b w hb).mono ?_
    rintro e w' ⟨rfl, rfl⟩
    exact ⟨_, rfl, .inl ⟨rfl, rfl⟩, Kept.refl _ _⟩
  · refine (refBig_some n b w h1 h2 n0 n1).mono ?_
    rintro e w' ⟨hk, h3, _⟩
    exact ⟨_, h3 hv, .inl ⟨rfl, rfl⟩, hk⟩
  · refine (refBig_some n b w h1 h2 n0 n1).mono ?_
    rintro e w' ⟨hk, _, h3⟩
    exact ⟨_, (h3 hv).1, .inr ⟨_, by rw [big_length], (h3 hv).2⟩, hk⟩

/-- What Number comes to. -/
def NumRes (m : Nat) (l : List Nat) (X E : Int) : Prop := ((m < 1 ∨ 8 < m) ∧ X = 0 ∧ E = 11) ∨ (1 ≤ m ∧ m ≤ 8 ∧ X = (num l : Int) ∧ E = 0)
theorem numRes_ex (m : Nat) (l : List Nat) : ∃ X E, NumRes m l X E := by
  by_cases h1 : m < 1 ∨ 8 < m
  · exact ⟨_, _, .inl ⟨h1, rfl, rfl⟩⟩
  · exact ⟨_, _, .inr ⟨by omega, by omega, rfl, rfl⟩⟩

theorem number_res (ao : Option Addr) (cap m : Nat) (l : List Nat) (X E : Int) (w : World) (hr : Reads w ao l) (hb : Byts l) (hm : l.length = m) (hmx : m ≤ 9223372036854775807) (h : NumRes m l X E) :
    Calls Try.prog 19 #[.slice ao m cap] w fun e w' => e = .returned (.tuple #[.int .u64 X, .int .i64 E]) ∧ w' = w := by
  rcases h with ⟨h1, rfl, rfl⟩ | ⟨h1, h2, rfl, rfl⟩
  · exact number_width ao cap m w h1 hmx
  · exact number_at ao cap m l _ w hr hb hm rfl h1 h2

set_option maxHeartbeats 400000 in
theorem refNumber_width (ao : Option Addr) (cap n : Nat) (w : World) (h : n < 1 ∨ 8 < n) (hn : n ≤ 9223372036854775807) :
    Calls Try.prog 20 #[.slice ao n cap] w fun e w' => e = .returned (.tuple #[.int .u64 0, .int .i64 11]) ∧ w' = w := by
  rcases h with h | h
  · have t1 : (n : Int) < 1 := by omega
    go_enter Try.func20, Try.ntmps20
    go_wp2
    go_ret2
    exact ⟨rfl, rfl⟩
  · have t1 : decide ((n : Int) < 1) = false := by simp; omega
    have t2 : (8 : Int) < (n : Int) := by omega
    go_enter Try.func20, Try.ntmps20
    go_wp2
    go_ret2
    exact ⟨rfl, rfl⟩

set_option maxHeartbeats 1000000 in
set_option maxRecDepth 1000000 in
theorem refNumber_some (ao : Option Addr) (cap : Nat) (l : List Nat) (w : World) (hr : Reads w ao l) (hb : Byts l) (h1 : 1 ≤ l.length) (hl : l.length ≤ 8) :
    Calls Try.prog 20 #[.slice ao l.length cap] w fun e w' => e = .returned (.tuple #[.int .u64 (num l : Int), .int .i64 0]) ∧ w' = w := by
  rcases hr with rfl | ⟨g, off, rfl, hc⟩
  · simp at h1
  have t1 : decide ((l.length : Int) < 1) = false := by simp; omega
  have t2 : ¬ (8 : Int) < (l.length : Int) := by omega
  go_enter Try.func20, Try.ntmps20
  go_wp2
  go_loop [4, 5] (fun v i => ∃ (k : Nat) (X : Int), k ≤ l.length ∧ i = .int .i64 k ∧ v = .int .u64 X ∧ X = (num (l.take k) : Int)) (fun _ i => l.length - (intOf i).toNat)
  case atStart => exact ⟨0, 0, Nat.zero_le _, rfl, rfl, by simp [num]⟩
  case round =>
    obtain ⟨k, X, hk, rfl, rfl, hX⟩ := hrel
    have HX := Hid.mk hX
    by_cases hlt : k < l.length
    · have hbk := getD_lt l k hb
      obtain ⟨y, hy⟩ : ∃ y : Int, y = ((l.getD k 0 : Nat) : Int) := ⟨_, rfl⟩
      have hcell : w.cell? ⟨g, off + k, none⟩ = some (.int .u8 y) := by rw [hc k hlt, hy]; rfl
      have hs := num_take_succ l k hlt
      have ht := num_take_lt l (k + 1) (by omega) hb
      have y0 : 0 ≤ y := by omega
      have y1 : y < 256 := by omega
      have X0 : 0 ≤ X := by omega
      have X1 : 256 * X + y < 18446744073709551616 := by rw [hs] at ht; omega
      have hfin : (256 * X + y : Int) = (num (l.take (k + 1)) : Int) := by rw [hs]; omega
      have Hfin := Hid.mk hfin
      clear hs ht hy hX hfin hc hbk
      go_wp2
      go_round
      case rel => exact ⟨k + 1, 256 * X + y, by omega, by go_num, by go_num, Hfin.out⟩
      case measure => simp [intOf]; omega
    · clear hX
      go_wp2
      go_ret2
      obtain rfl : k = l.length := by omega
      have h := HX.out
      rw [List.take_length] at h
      subst h
      exact ⟨rfl, rfl⟩

theorem refNumber_res (ao : Option Addr) (cap m : Nat) (l : List Nat) (X E : Int) (w : World) (hr : Reads w ao l) (hb : Byts l) (hm : l.length = m) (hmx : m ≤ 9223372036854775807) (h : NumRes m l X E) :
    Calls Try.prog 20 #[.slice ao m cap] w fun e w' => e = .returned (.tuple #[.int .u64 X, .int .i64 E]) ∧ w' = w := by
  rcases h with ⟨h1, rfl, rfl⟩ | ⟨h1, h2, rfl, rfl⟩
  · exact refNumber_width ao cap m w h1 hmx
  · subst hm
    exact refNumber_some ao cap l w hr hb h1 h2
end Go.Proofs.Ytoghkbajdljheaa
