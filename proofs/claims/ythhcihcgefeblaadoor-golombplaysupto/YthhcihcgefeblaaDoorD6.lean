import Derived.Test.YthhcihcgefeblaaDoorD5
namespace Go.Proofs.YthhcihcgefeblaaDoor
open Go.RowKit

/-- The number that bits are, the highest first. -/
def num2 (l : List Nat) : Nat := l.foldl (fun a b => 2 * a + b) 0
theorem num2_snoc (l : List Nat) (b : Nat) : num2 (l ++ [b]) = 2 * num2 l + b := by simp [num2]
theorem num2_take (l : List Nat) (k : Nat) (h : k < l.length) : num2 (l.take (k + 1)) = 2 * num2 (l.take k) + l.getD k 0 := by
  rw [List.take_succ_eq_append_getElem h, num2_snoc]; simp [h]
theorem num2_lt (l : List Nat) (h : ∀ b ∈ l, b < 2) : num2 l < 2 ^ l.length := by
  induction hn : l.length generalizing l with
  | zero => rw [List.eq_nil_of_length_eq_zero hn]; simp [num2]
  | succ n ih =>
    have hne : l ≠ [] := by intro e; subst e; simp at hn
    obtain ⟨a, b, rfl⟩ : ∃ a b, l = a ++ [b] := ⟨l.dropLast, l.getLast hne, (List.dropLast_concat_getLast hne).symm⟩
    have hb := h b (by simp)
    have hl : a.length = n := by simp at hn; exact hn
    have := ih a (fun x hx => h x (by simp [hx])) hl
    rw [num2_snoc, Nat.pow_succ]
    omega

/-- Bits of l from t on. -/
def bitsAt (l : List Nat) (t n : Nat) : List Nat := (List.range n).map fun i => nextN l (t + i) 1
theorem bitsAt_length (l : List Nat) (t n : Nat) : (bitsAt l t n).length = n := by simp [bitsAt]
theorem bitsAt_getD (l : List Nat) (t n i : Nat) (h : i < n) : (bitsAt l t n).getD i 0 = nextN l (t + i) 1 := by simp [bitsAt, h]
theorem bitsAt_lt (l : List Nat) (t n : Nat) : ∀ b ∈ bitsAt l t n, b < 2 := by
  intro b hb
  simp only [bitsAt, List.mem_map] at hb
  obtain ⟨i, _, rfl⟩ := hb
  exact bit_lt _ _
theorem num2_bits (l : List Nat) (t n : Nat) (h : t + n ≤ 8 * l.length) : num2 (bitsAt l t n) = nextN l t n := by
  induction n with
  | zero => unfold nextN; rw [Nat.pow_zero, Nat.mod_one]; rfl
  | succ n ih =>
    have e : bitsAt l t (n + 1) = bitsAt l t n ++ [nextN l (t + n) 1] := by simp [bitsAt, List.range_succ]
    rw [e, num2_snoc, ih (by omega), nextN_join l t n 1 (by omega)]
    omega

set_option maxHeartbeats 1000000 in
set_option maxRecDepth 1000000 in
/-- The document's number. -/
theorem numberD_any (ao : Option Addr) (cap m : Nat) (bs : List Nat) (w : World) (hr : Reads w ao bs) (hb : ∀ b ∈ bs, b < 2) (hm : bs.length = m) (hl : m ≤ 40) :
    Calls Tryd.prog 65 #[.slice ao m cap] w fun e w' => e = .returned (.int .i64 (num2 bs : Int)) ∧ w' = w := by
  subst hm
  rcases hr with rfl | ⟨g, off, rfl, hc⟩
  · go_enter Tryd.func65, Tryd.ntmps65
    go_wp2
    refine wp_loop_rounds 1 ?_
    rw [rounds_succ]
    go_wp2
    go_ret
    exact ⟨ret_int (by simp [num2]), rfl⟩
  · go_enter Tryd.func65, Tryd.ntmps65
    go_wp2
    go_loop [3, 4] (fun v i => ∃ (k : Nat) (x : Int), k ≤ bs.length ∧ i = .int .i64 k ∧ v = .int .i64 x ∧ x = (num2 (bs.take k) : Int)) (fun _ i => bs.length - (intOf i).toNat)
    case atStart => exact ⟨0, 0, Nat.zero_le _, rfl, rfl, by simp [num2]⟩
    case round =>
      obtain ⟨k, x, hk, rfl, rfl, hx⟩ := hrel
      by_cases hlt : k < bs.length
      · have hcell := hc k hlt
        unfold byt at hcell
        have hbk : bs.getD k 0 < 2 := by
          rw [List.getD_eq_getElem?_getD, List.getElem?_eq_getElem hlt, Option.getD_some]
          exact hb _ (List.getElem_mem hlt)
        have hs := num2_take bs k hlt
        have ht := num2_lt (bs.take (k + 1)) (fun b hbb => hb b (List.mem_of_mem_take hbb))
        have hp : 2 ^ (bs.take (k + 1)).length ≤ 2 ^ 40 := Nat.pow_le_pow_right (by decide) (by simp; omega)
        have hp2 : (2 : Nat) ^ 40 = 1099511627776 := by decide
        obtain ⟨y, hy⟩ : ∃ y, y = bs.getD k 0 := ⟨_, rfl⟩
        rw [← hy] at hcell hbk hs
        have hx1 : 0 ≤ x := by omega
        have hx2 : 2 * x + (y : Int) < 1099511627776 := by omega
        have HS : Hid (2 * x + (y : Int) = (num2 (bs.take (k + 1)) : Int)) := by rw [hs, hx]; exact Hid.mk (by omega)
        clear hs ht hp hp2 hx hy hc
        go_wp2
        go_round
        case rel => exact ⟨k + 1, 2 * x + (y : Int), by omega, by go_num, by go_num, HS.out⟩
        case measure => simp [intOf]; omega
      · have Hx := Hid.mk hx
        clear hx
        go_wp2
        go_ret
        obtain rfl : k = bs.length := by omega
        refine ⟨ret_int ?_, rfl⟩
        rw [Hx.out, List.take_length]
end Go.Proofs.YthhcihcgefeblaaDoor
