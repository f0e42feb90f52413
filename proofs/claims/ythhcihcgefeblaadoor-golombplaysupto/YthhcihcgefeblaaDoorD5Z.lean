import Derived.Test.YthhcihcgefeblaaDoorD3Z
namespace Go.Proofs.YthhcihcgefeblaaDoor
open Go.RowKit

/-- Parameters and widths that may be. -/
def Okp (k wide : Int) : Prop := 0 ≤ k ∧ k ≤ 15 ∧ 1 ≤ wide ∧ wide ≤ 16

theorem okp_no {k wide : Int} (h : ¬ Okp k wide) : k < 0 ∨ (0 ≤ k ∧ 15 < k) ∨ (0 ≤ k ∧ k ≤ 15 ∧ wide < 1) ∨ (0 ≤ k ∧ k ≤ 15 ∧ 1 ≤ wide ∧ 16 < wide) := by
  unfold Okp at h
  omega

set_option maxHeartbeats 1000000 in
theorem formed_no (k wide : Int) (w : World) (h : ¬ Okp k wide) :
    Calls Tryd.prog 54 #[.int .i64 k, .int .i64 wide] w fun e w' => e = .returned (.bool false) ∧ w' = w := by
  rcases okp_no h with h1 | ⟨h1, h2⟩ | ⟨h1, h2, h3⟩ | ⟨h1, h2, h3, h4⟩
  all_goals
    clear h
    go_enter Tryd.func54, Tryd.ntmps54
    go_wp2
    go_ret
    exact ⟨ret_bool (by first | (simp; done) | (simp; omega)), rfl⟩

set_option maxHeartbeats 1000000 in
theorem params_no (k wide : Int) (w : World) (h : ¬ Okp k wide) :
    Calls Tryd.prog 62 #[.int .i64 k, .int .i64 wide] w fun e w' => e = .returned (.bool false) ∧ w' = w := by
  rcases okp_no h with h1 | ⟨h1, h2⟩ | ⟨h1, h2, h3⟩ | ⟨h1, h2, h3, h4⟩
  all_goals
    clear h
    go_enter Tryd.func62, Tryd.ntmps62
    go_wp2
    go_ret
    exact ⟨ret_bool (by first | (simp; done) | (simp; omega)), rfl⟩

set_option maxHeartbeats 1000000 in
theorem check_param (v k wide : Int) (w : World) (h : ¬ Okp k wide) :
    Calls Tryd.prog 52 #[.int .i64 v, .int .i64 k, .int .i64 wide] w fun e w' => e = .returned (.int .i64 21) ∧ w' = w := by
  go_enter Tryd.func52, Tryd.ntmps52
  go_wp2_with (go_at_call 54; refine (formed_no k wide _ h).mono ?_; rintro e w' ⟨rfl, rfl⟩)
  go_ret
  exact ⟨rfl, rfl⟩

set_option maxHeartbeats 1000000 in
theorem check_value (v k wide : Int) (w : World) (h : Okp k wide) (hv : v < 0 ∨ (0 ≤ v ∧ ((2 ^ wide.toNat : Nat) : Int) ≤ v)) :
    Calls Tryd.prog 52 #[.int .i64 v, .int .i64 k, .int .i64 wide] w fun e w' => e = .returned (.int .i64 22) ∧ w' = w := by
  obtain ⟨k0, k1, w0, w1⟩ := h
  rcases hv with hv | ⟨hv0, hv⟩
  · go_enter Tryd.func52, Tryd.ntmps52
    go_wp2_with (go_at_call 54; refine (formed_ok k wide _ k0 k1 w0 w1).mono ?_; rintro e w' ⟨rfl, rfl⟩)
    go_ret
    exact ⟨rfl, rfl⟩
  · have hp := pos_shr v wide hv
    have t1 : decide (v < 0) = false := by simp; omega
    go_enter Tryd.func52, Tryd.ntmps52
    go_wp2_with (go_at_call 54; refine (formed_ok k wide _ k0 k1 w0 w1).mono ?_; rintro e w' ⟨rfl, rfl⟩)
    go_ret
    exact ⟨rfl, rfl⟩

set_option maxHeartbeats 1000000 in
theorem gput_err (B : Nat) (v k wide E : Int) (w : World) (hE : E ≠ 0) (hc : ∀ w, Calls Tryd.prog 52 #[.int .i64 v, .int .i64 k, .int .i64 wide] w fun e w' => e = .returned (.int .i64 E) ∧ w' = w) :
    Calls Tryd.prog 21 #[.pointer (some ⟨B, 0, none⟩), .int .i64 v, .int .i64 k, .int .i64 wide] w fun e w' => e = .returned (.int .i64 E) ∧ w' = w := by
  have HC := Hid.mk hc
  clear hc
  go_enter Tryd.func21, Tryd.ntmps21
  go_wp2_with (go_at_call 52; refine (HC.out _).mono ?_; rintro e w' ⟨rfl, rfl⟩)
  go_ret
  exact ⟨rfl, rfl⟩

set_option maxHeartbeats 1000000 in
theorem cost_err (v k wide E : Int) (w : World) (hE : E ≠ 0) (hc : ∀ w, Calls Tryd.prog 52 #[.int .i64 v, .int .i64 k, .int .i64 wide] w fun e w' => e = .returned (.int .i64 E) ∧ w' = w) :
    Calls Tryd.prog 20 #[.int .i64 v, .int .i64 k, .int .i64 wide] w fun e w' => e = .returned (.tuple #[.int .i64 0, .int .i64 E]) ∧ w' = w := by
  have HC := Hid.mk hc
  clear hc
  go_enter Tryd.func20, Tryd.ntmps20
  go_wp2_with (go_at_call 52; refine (HC.out _).mono ?_; rintro e w' ⟨rfl, rfl⟩)
  go_ret2
  exact ⟨rfl, rfl⟩

set_option maxHeartbeats 1000000 in
theorem putD_param (B : Nat) (v k wide : Int) (w : World) (h : ¬ Okp k wide) :
    Calls Tryd.prog 39 #[.pointer (some ⟨B, 0, none⟩), .int .i64 v, .int .i64 k, .int .i64 wide] w fun e w' => e = .returned (.int .i64 21) ∧ w' = w := by
  go_enter Tryd.func39, Tryd.ntmps39
  go_wp2_with (go_at_call 62; refine (params_no k wide _ h).mono ?_; rintro e w' ⟨rfl, rfl⟩)
  go_ret
  exact ⟨rfl, rfl⟩

set_option maxHeartbeats 1000000 in
theorem putD_value (B : Nat) (v k wide : Int) (w : World) (h : Okp k wide) (hv : v < 0 ∨ (0 ≤ v ∧ ((2 ^ wide.toNat : Nat) : Int) ≤ v)) :
    Calls Tryd.prog 39 #[.pointer (some ⟨B, 0, none⟩), .int .i64 v, .int .i64 k, .int .i64 wide] w fun e w' => e = .returned (.int .i64 22) ∧ w' = w := by
  obtain ⟨k0, k1, w0, w1⟩ := h
  obtain ⟨X, hX⟩ : ∃ X : Int, X = ((2 ^ wide.toNat : Nat) : Int) := ⟨_, rfl⟩
  have Hp := Hid.mk (fun w => power_any wide X w (by omega) (by omega) hX)
  rw [← hX] at hv
  clear hX
  rcases hv with hv | ⟨hv0, hv⟩
  · go_enter Tryd.func39, Tryd.ntmps39
    go_wp2_with (first
      | (go_at_call 62; refine (params_ok k wide _ k0 k1 w0 w1).mono ?_; rintro e w' ⟨rfl, rfl⟩)
      | (go_at_call 63; refine (Hp.out _).mono ?_; rintro e w3 ⟨rfl, rfl⟩))
    go_ret
    exact ⟨rfl, rfl⟩
  · have t1 : decide (v < 0) = false := by simp; omega
    go_enter Tryd.func39, Tryd.ntmps39
    go_wp2_with (first
      | (go_at_call 62; refine (params_ok k wide _ k0 k1 w0 w1).mono ?_; rintro e w' ⟨rfl, rfl⟩)
      | (go_at_call 63; refine (Hp.out _).mono ?_; rintro e w3 ⟨rfl, rfl⟩))
    go_ret
    exact ⟨rfl, rfl⟩

set_option maxHeartbeats 1000000 in
theorem costD_param (v k wide : Int) (w : World) (h : ¬ Okp k wide) :
    Calls Tryd.prog 38 #[.int .i64 v, .int .i64 k, .int .i64 wide] w fun e w' => e = .returned (.tuple #[.int .i64 0, .int .i64 21]) ∧ w' = w := by
  go_enter Tryd.func38, Tryd.ntmps38
  go_wp2_with (go_at_call 62; refine (params_no k wide _ h).mono ?_; rintro e w' ⟨rfl, rfl⟩)
  go_ret2
  exact ⟨rfl, rfl⟩

set_option maxHeartbeats 1000000 in
theorem costD_value (v k wide : Int) (w : World) (h : Okp k wide) (hv : v < 0 ∨ (0 ≤ v ∧ ((2 ^ wide.toNat : Nat) : Int) ≤ v)) :
    Calls Tryd.prog 38 #[.int .i64 v, .int .i64 k, .int .i64 wide] w fun e w' => e = .returned (.tuple #[.int .i64 0, .int .i64 22]) ∧ w' = w := by
  obtain ⟨k0, k1, w0, w1⟩ := h
  obtain ⟨X, hX⟩ : ∃ X : Int, X = ((2 ^ wide.toNat : Nat) : Int) := ⟨_, rfl⟩
  have Hp := Hid.mk (fun w => power_any wide X w (by omega) (by omega) hX)
  rw [← hX] at hv
  clear hX
  rcases hv with hv | ⟨hv0, hv⟩
  · go_enter Tryd.func38, Tryd.ntmps38
    go_wp2_with (first
      | (go_at_call 62; refine (params_ok k wide _ k0 k1 w0 w1).mono ?_; rintro e w' ⟨rfl, rfl⟩)
      | (go_at_call 63; refine (Hp.out _).mono ?_; rintro e w3 ⟨rfl, rfl⟩))
    go_ret2
    exact ⟨rfl, rfl⟩
  · have t1 : decide (v < 0) = false := by simp; omega
    go_enter Tryd.func38, Tryd.ntmps38
    go_wp2_with (first
      | (go_at_call 62; refine (params_ok k wide _ k0 k1 w0 w1).mono ?_; rintro e w' ⟨rfl, rfl⟩)
      | (go_at_call 63; refine (Hp.out _).mono ?_; rintro e w3 ⟨rfl, rfl⟩))
    go_ret2
    exact ⟨rfl, rfl⟩

set_option maxHeartbeats 1000000 in
theorem costD_any (v k wide c : Int) (w : World) (h : Okp k wide) (v0 : 0 ≤ v) (hv : v.toNat < 2 ^ wide.toNat) (hc : c = (gw v.toNat k.toNat wide.toNat : Int)) :
    Calls Tryd.prog 38 #[.int .i64 v, .int .i64 k, .int .i64 wide] w fun e w' => e = .returned (.tuple #[.int .i64 c, .int .i64 0]) ∧ Kept [] w w' := by
  obtain ⟨k0, k1, w0, w1⟩ := h
  obtain ⟨X, hX⟩ : ∃ X : Int, X = ((2 ^ wide.toNat : Nat) : Int) := ⟨_, rfl⟩
  have hX2 : v < X := by omega
  have Hp := Hid.mk (fun w => power_any wide X w (by omega) (by omega) hX)
  have Hf := Hid.mk (fun w => formD_any v k wide w k0 k1 w0 w1 v0 hv)
  have v0' : decide (v < 0) = false := by simp; omega
  have Hc := Hid.mk hc
  have hcl := gw_le v.toNat k.toNat wide.toNat (by omega) (by omega)
  have c0 : 0 ≤ c := by omega
  have c1 : c ≤ 40 := by omega
  clear hX hv hc hcl
  go_enter Tryd.func38, Tryd.ntmps38
  go_wp2_with (first
    | (go_at_call 62; refine (params_ok k wide _ k0 k1 w0 w1).mono ?_; rintro e w' ⟨rfl, rfl⟩)
    | (go_at_call 63; refine (Hp.out _).mono ?_; rintro e w3 ⟨rfl, rfl⟩)
    | (go_at_call 64; refine (Hf.out _).mono ?_; rintro e w4 ⟨U, rfl, ho4, hk4, hl4⟩; obtain ⟨ao, cp, rfl⟩ := row_form ho4))
  go_ret2
  exact ⟨by rw [Hc.out]; rfl, hk4⟩
end Go.Proofs.YthhcihcgefeblaaDoor

namespace Go.Proofs.YthhcihcgefeblaaDoor
open Go.RowKit

/-- The number that bits are, the highest first. -/
def num2 (l : List Nat) : Nat := l.foldl (fun a b => 2 * a + b) 0
theorem num2_snoc (l : List Nat) (b : Nat) : num2 (l ++ [b]) = 2 * num2 l + b := by simp [num2]
theorem num2_take (l : List Nat) (k : Nat) (h : k < l.length) : num2 (l.take (k + 1)) = 2 * num2 (l.take k) + l.getD k 0 := by
  rw [List.take_succ_eq_append_getElem h, num2_snoc]; simp [h]
theorem num2_lt (l : List Nat) (h : ∀ b ∈ l, b < 2) : num2 l < 2 ^ l.length := by
  induction hn : l.length generalizing l with
  | zero => rw [List.eq_nil_of_length_eq_zero hn]; simp [num2]
  | succ n ih =>
    have hne : l ≠ [] := by intro e; subst e; simp at hn
    obtain ⟨a, b, rfl⟩ : ∃ a b, l = a ++ [b] := ⟨l.dropLast, l.getLast hne, (List.dropLast_concat_getLast hne).symm⟩
    have hb := h b (by simp)
    have hl : a.length = n := by simp at hn; exact hn
    have := ih a (fun x hx => h x (by simp [hx])) hl
    rw [num2_snoc, Nat.pow_succ]
    omega

/-- Bits of l from t on. -/
def bitsAt (l : List Nat) (t n : Nat) : List Nat := (List.range n).map fun i => nextN l (t + i) 1
theorem bitsAt_length (l : List Nat) (t n : Nat) : (bitsAt l t n).length = n := by simp [bitsAt]
theorem bitsAt_getD (l : List Nat) (t n i : Nat) (h : i < n) : (bitsAt l t n).getD i 0 = nextN l (t + i) 1 := by simp [bitsAt, h]
theorem bitsAt_lt (l : List Nat) (t n : Nat) : ∀ b ∈ bitsAt l t n, b < 2 := by
  intro b hb
  simp only [bitsAt, List.mem_map] at hb
  obtain ⟨i, _, rfl⟩ := hb
  exact bit_lt _ _
theorem num2_bits (l : List Nat) (t n : Nat) (h : t + n ≤ 8 * l.length) : num2 (bitsAt l t n) = nextN l t n := by
  induction n with
  | zero => unfold nextN; rw [Nat.pow_zero, Nat.mod_one]; rfl
  | succ n ih =>
    have e : bitsAt l t (n + 1) = bitsAt l t n ++ [nextN l (t + n) 1] := by simp [bitsAt, List.range_succ]
    rw [e, num2_snoc, ih (by omega), nextN_join l t n 1 (by omega)]
    omega

set_option maxHeartbeats 1000000 in
set_option maxRecDepth 1000000 in
/-- The document's number. -/
theorem numberD_any (ao : Option Addr) (cap m : Nat) (bs : List Nat) (w : World) (hr : Reads w ao bs) (hb : ∀ b ∈ bs, b < 2) (hm : bs.length = m) (hl : m ≤ 40) :
    Calls Tryd.prog 65 #[.slice ao m cap] w fun e w' => e = .returned (.int .i64 (num2 bs : Int)) ∧ w' = w := by
  subst hm
  rcases hr with rfl | ⟨g, off, rfl, hc⟩
  · go_enter Tryd.func65, Tryd.ntmps65
    go_wp2
    refine wp_loop_rounds 1 ?_
    rw [rounds_succ]
    go_wp2
    go_ret
    exact ⟨ret_int (by simp [num2]), rfl⟩
  · go_enter Tryd.func65, Tryd.ntmps65
    go_wp2
    go_loop [3, 4] (fun v i => ∃ (k : Nat) (x : Int), k ≤ bs.length ∧ i = .int .i64 k ∧ v = .int .i64 x ∧ x = (num2 (bs.take k) : Int)) (fun _ i => bs.length - (intOf i).toNat)
    case atStart => exact ⟨0, 0, Nat.zero_le _, rfl, rfl, by simp [num2]⟩
    case round =>
      obtain ⟨k, x, hk, rfl, rfl, hx⟩ := hrel
      by_cases hlt : k < bs.length
      · have hcell := hc k hlt
        unfold byt at hcell
        have hbk : bs.getD k 0 < 2 := by
          rw [List.getD_eq_getElem?_getD, List.getElem?_eq_getElem hlt, Option.getD_some]
          exact hb _ (List.getElem_mem hlt)
        have hs := num2_take bs k hlt
        have ht := num2_lt (bs.take (k + 1)) (fun b hbb => hb b (List.mem_of_mem_take hbb))
        have hp : 2 ^ (bs.take (k + 1)).length ≤ 2 ^ 40 := Nat.pow_le_pow_right (by decide) (by simp; omega)
        have hp2 : (2 : Nat) ^ 40 = 1099511627776 := by decide
        obtain ⟨y, hy⟩ : ∃ y, y = bs.getD k 0 := ⟨_, rfl⟩
        rw [← hy] at hcell hbk hs
        have hx1 : 0 ≤ x := by omega
        have hx2 : 2 * x + (y : Int) < 1099511627776 := by omega
        have HS : Hid (2 * x + (y : Int) = (num2 (bs.take (k + 1)) : Int)) := by rw [hs, hx]; exact Hid.mk (by omega)
        clear hs ht hp hp2 hx hy hc
        go_wp2
        go_round
        case rel => exact ⟨k + 1, 2 * x + (y : Int), by omega, by go_num, by go_num, HS.out⟩
        case measure => simp [intOf]; omega
      · have Hx := Hid.mk hx
        clear hx
        go_wp2
        go_ret
        obtain rfl : k = bs.length := by omega
        refine ⟨ret_int ?_, rfl⟩
        rw [Hx.out, List.take_length]
end Go.Proofs.YthhcihcgefeblaaDoor
