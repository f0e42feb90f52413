import Derived.Test.YtodlkpcbkilglaaDoorbN
namespace Go.Proofs.YtodlkpcbkilglaaDoor.Bt
open Go.RowKit

/-- A slice's elements are these bytes. -/
def Reads (w : World) (ao : Option Addr) (l : List Nat) : Prop :=
  l = [] ∨ ∃ g off, ao = some ⟨g, off, none⟩ ∧ ∀ i, i < l.length → w.cell? ⟨g, off + i, none⟩ = some (byt (l.getD i 0))

def Byts (l : List Nat) : Prop := ∀ b ∈ l, b < 256

theorem num_take_succ (l : List Nat) (k : Nat) (h : k < l.length) : num (l.take (k + 1)) = num (l.take k) * 256 + l.getD k 0 := by
  rw [List.take_succ_eq_append_getElem h, num_snoc]; simp [h]

theorem num_take_lt (l : List Nat) (k : Nat) (hk : k ≤ 8) (hb : Byts l) : num (l.take k) < 18446744073709551616 := by
  have h := num_lt (l.take k) (fun b h => hb b (List.mem_of_mem_take h))
  have h2 : 256 ^ (l.take k).length ≤ 256 ^ 8 := Nat.pow_le_pow_right (by decide) (by simp; omega)
  have h3 : 256 ^ 8 = 18446744073709551616 := by decide
  omega

theorem getD_lt (l : List Nat) (k : Nat) (hb : Byts l) : l.getD k 0 < 256 := by
  rw [List.getD_eq_getElem?_getD]
  rcases h : l[k]? with _ | x
  · simp
  · exact hb x (List.mem_of_getElem? h)

theorem or_byte (a b : Nat) (hb : b < 256) (h : a * 256 + b < 18446744073709551616) :
    bits BinOp.or IntKind.u64 ((a : Int) * 256) (IntKind.u64.wrap (b : Int)) = ((a * 256 + b : Nat) : Int) := by
  have h1 : a * 256 < 18446744073709551616 := Nat.lt_of_le_of_lt (Nat.le_add_right _ _) h
  have h2 : b < 18446744073709551616 := Nat.lt_of_le_of_lt (Nat.le_add_left _ _) h
  have e1 : ((a : Int) * 256) = ((a * 256 : Nat) : Int) := by omega
  have e2 : IntKind.u64.wrap (b : Int) = (b : Int) := by rw [IntKind.wrap_u64]; omega
  have e3 : a * 256 % 2 ^ 8 = 0 := by rw [show (2 : Nat) ^ 8 = 256 from rfl]; omega
  have e4 : b < 2 ^ 8 := by rw [show (2 : Nat) ^ 8 = 256 from rfl]; exact hb
  rw [e1, e2, u64_or_nat (a * 256) b h1 h2, nat_join 8 (a * 256) b e3 e4]

set_option maxHeartbeats 1000000 in
set_option maxRecDepth 1000000 in
theorem joined_any (ao : Option Addr) (cap : Nat) (l : List Nat) (w : World) (hr : Reads w ao l) (hb : Byts l) (hl : l.length ≤ 8) :
    Calls Tryd.prog 107 #[.slice ao l.length cap] w fun e w' => e = .returned (.int .u64 (num l : Int)) ∧ w' = w := by
  rcases hr with rfl | ⟨g, off, rfl, hc⟩
  · go_enter Tryd.func107, Tryd.ntmps107
    go_wp2
    refine wp_loop_rounds 1 ?_
    rw [rounds_succ]
    go_wp2
    go_ret
    exact ⟨ret_int (by simp [num]), rfl⟩
  · go_enter Tryd.func107, Tryd.ntmps107
    go_wp2
    go_loop [3, 8] (fun v i => ∃ k : Nat, k ≤ l.length ∧ i = .int .i64 k ∧ v = .int .u64 (num (l.take k) : Int)) (fun _ i => l.length - (intOf i).toNat)
    case atStart => exact ⟨0, Nat.zero_le _, rfl, by simp [num]⟩
    case round =>
      obtain ⟨k, hk, rfl, rfl⟩ := hrel
      by_cases hlt : k < l.length
      · have hcell := hc k hlt
        unfold byt at hcell
        have hbk := getD_lt l k hb
        have hs := num_take_succ l k hlt
        have ht := num_take_lt l (k + 1) (by omega) hb
        rw [hs] at ht
        have HO := Hid.mk (or_byte _ _ hbk ht)
        have HS := Hid.mk hs
        clear hs
        clear hc
        go_wp2
        go_round
        case rel =>
          refine ⟨k + 1, by omega, by go_num, ?_⟩
          have h := HO.out
          rw [← HS.out] at h
          rw [← h]
          simp [hlt]
        case measure => simp [intOf]; omega
      · go_wp2
        go_ret
        obtain rfl : k = l.length := by omega
        exact ⟨ret_int (by simp), rfl⟩





/-- Which of n things a raw number speaks of. -/
def pick (c : Int) (n : Int) : Int := if c < 0 then (-(c + 1)) % n else c % n
theorem pick_lo (c n : Int) (h : 0 < n) : 0 ≤ pick c n := by
  unfold pick; split <;> exact Int.emod_nonneg _ (by omega)
theorem pick_hi (c n : Int) (h : 0 < n) : pick c n < n := by
  unfold pick; split <;> exact Int.emod_lt_of_pos _ h

theorem row_some {w : World} {base e n : Nat} {v : Value} {xs : List Value} (h : w.ownsRow base e 1 v n xs) (hn : 0 < n) : ∃ g cap, v = .slice (some ⟨g, 0, none⟩) n cap := by
  rcases h.2 with ⟨_, h1⟩ | ⟨g, cap, cur, h1, _⟩
  · omega
  · exact ⟨g, cap, h1⟩


end Go.Proofs.YtodlkpcbkilglaaDoor.Bt
