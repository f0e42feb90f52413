import Derived.Test.YthhegomjipbdbaaGreatDoorRows
import Derived.WalkKit
import Derived.WalkSpells
import Derived.WalkLawsBesides
import Derived.Maps.AppendAt
import Derived.Test.YthhegomjipbdbaaGreatDoorM
namespace Go.Proofs.YthhegomjipbdbaaGreatDoor
open Go.RowKit

/-- A byte as a value. -/
def byt (b : Nat) : Value := .int .u8 (b : Int)

/-- The world w' is w with new blocks and with writes to the blocks of l alone. -/
structure Kept (l : List Nat) (w w' : World) : Prop where
  os : w'.os = w.os
  tape : w'.tape = w.tape
  output : w'.output = w.output
  size : w.heap.size ≤ w'.heap.size
  block : ∀ k, k < w.heap.size → k ∉ l → w'.heap[k]? = w.heap[k]?

theorem Kept.refl (l : List Nat) (w : World) : Kept l w w := ⟨rfl, rfl, rfl, Nat.le_refl _, fun _ _ _ => rfl⟩

theorem Kept.trans {l : List Nat} {a b c : World} (h : Kept l a b) (k : Kept l b c) : Kept l a c :=
  ⟨k.os.trans h.os, k.tape.trans h.tape, k.output.trans h.output, Nat.le_trans h.size k.size,
    fun i hi hl => (k.block i (Nat.lt_of_lt_of_le hi h.size) hl).trans (h.block i hi hl)⟩

/-- What a second step writes must lie in l, or be new to the first world. -/
theorem Kept.step {l l2 : List Nat} {a b c : World} (h : Kept l a b) (k : Kept l2 b c) (hs : ∀ x, x ∈ l2 → x ∈ l ∨ a.heap.size ≤ x) : Kept l a c :=
  ⟨k.os.trans h.os, k.tape.trans h.tape, k.output.trans h.output, Nat.le_trans h.size k.size,
    fun i hi hl => (k.block i (Nat.lt_of_lt_of_le hi h.size) (fun hm => by rcases hs i hm with h1 | h1; exact hl h1; omega)).trans (h.block i hi hl)⟩

theorem Kept.mono {l l2 : List Nat} {a b : World} (h : Kept l a b) (hs : ∀ x, x ∈ l → x ∈ l2 ∨ a.heap.size ≤ x) : Kept l2 a b :=
  ⟨h.os, h.tape, h.output, h.size, fun i hi hl => h.block i hi (fun hm => by rcases hs i hm with h1 | h1; exact hl h1; omega)⟩

theorem Kept.drew {l : List Nat} {a w : World} (h : Kept l a w) : Kept l a w.drew := ⟨h.os, h.tape, h.output, h.size, h.block⟩
theorem Kept.undrew {l : List Nat} {a w : World} (h : Kept l a.drew w) : Kept l a w := ⟨h.os, h.tape, h.output, h.size, h.block⟩
theorem Kept.drewN {l : List Nat} {a w : World} (h : Kept l a w) (n : Nat) : Kept l a (w.drewN n) := by
  induction n with
  | zero => exact h
  | succ n ih => exact ih.drew

theorem Kept.alloc {l : List Nat} {a w : World} (h : Kept l a w) (o : Obj) : Kept l a (w.alloc o) :=
  h.step (l2 := []) ⟨rfl, rfl, rfl, by simp, fun k hk _ => Below.heap_alloc _ _ _ hk⟩ (fun x hx => by simp at hx)

theorem Kept.setCell {l : List Nat} {a w : World} (h : Kept l a w) {p : Addr} (hp : p.block ∈ l ∨ a.heap.size ≤ p.block) (u : Value) : Kept l a (w.setCell p u) :=
  h.step (l2 := [p.block]) ⟨rfl, rfl, rfl, by simp [World.setCell], fun k _ hm => Below.heap_setCell _ _ _ _ (by simpa using hm)⟩ (fun x hx => by simp at hx; subst hx; exact hp)

theorem Kept.of_grown {w w' : World} {row : Option Nat} (h : w.grownBy w' row) : Kept row.toList w w' :=
  ⟨h.os, h.tape, h.output, h.size, fun k hk hl => h.block k hk (fun e => hl (by rw [← e]; simp))⟩

theorem Kept.below {l : List Nat} {w w' : World} {B : Nat} (h : Kept l w w') (hB : B ≤ w.heap.size) (hl : ∀ x ∈ l, B ≤ x) : Below B w w' :=
  ⟨h.os, h.tape, h.output, h.size, fun k hk => h.block k (by omega) (fun hm => by have := hl k hm; omega)⟩

theorem Kept.of_below {w w' : World} (h : Below w.heap.size w w') : Kept [] w w' := ⟨h.os, h.tape, h.output, h.size, fun k hk _ => h.block k hk⟩

theorem Kept.heap {l : List Nat} {w w' : World} (h : Kept l w w') {k : Nat} {o : Obj} (hk : w.heap[k]? = some o) (hl : k ∉ l) : w'.heap[k]? = some o := by
  rw [h.block k (Array.getElem?_eq_some_iff.1 hk).1 hl]; exact hk

theorem Kept.row {l : List Nat} {w w' : World} (h : Kept l w w') {base : Nat} {e : TypeId} {size : Nat} {v : Value} {n : Nat} {xs : List Value}
    (ho : w.ownsRow base e size v n xs) (hne : ∀ g, v.ownBlock = some g → g ∉ l) : w'.ownsRow base e size v n xs := by
  refine ⟨ho.1, ?_⟩
  rcases ho.2 with hn | ⟨g, cap, cur, rfl, hb, hgg, rest⟩
  · exact .inl hn
  · exact .inr ⟨g, cap, cur, rfl, hb, h.heap hgg (hne g rfl), rest⟩

/-- Where a slice that was appended to lies: as before, or in new memory. -/
def Lies (w : World) (v v' : Value) : Prop := v'.ownBlock = v.ownBlock ∨ ∃ g, v'.ownBlock = some g ∧ w.heap.size ≤ g

theorem Lies.refl (w : World) (v : Value) : Lies w v v := .inl rfl
theorem Lies.trans {w w1 : World} {v v1 v2 : Value} (h : Lies w v v1) (h2 : Lies w1 v1 v2) (hs : w.heap.size ≤ w1.heap.size) : Lies w v v2 := by
  rcases h2 with h2 | ⟨g, hg, hl⟩
  · rcases h with h | ⟨g, hg, hl⟩
    · exact .inl (h2.trans h)
    · exact .inr ⟨g, h2.trans hg, hl⟩
  · exact .inr ⟨g, hg, by omega⟩
theorem Lies.mem {w : World} {v v' : Value} (h : Lies w v v') : ∀ x, x ∈ v'.ownBlock.toList → x ∈ v.ownBlock.toList ∨ w.heap.size ≤ x := by
  intro x hx
  rcases h with h | ⟨g, hg, hl⟩
  · rw [h] at hx; exact .inl hx
  · rw [hg] at hx; simp at hx; subst hx; exact .inr hl

theorem Tryz.info5 : (Tryz.prog.info? 5).map (fun i => (i.zero, i.size, i.bytes)) = some (some (.int .u8 0), 1, 1) := by kernel_rfl

end Go.Proofs.YthhegomjipbdbaaGreatDoor

namespace Go.Proofs.YthhegomjipbdbaaGreatDoor
open Go.RowKit

theorem ret_int {k : IntKind} {a b : Int} (h : a = b) : Ending.returned (.int k a) = .returned (.int k b) := by rw [h]
theorem ret_bool {a b : Bool} (h : a = b) : Ending.returned (.bool a) = .returned (.bool b) := by rw [h]

set_option maxHeartbeats 400000 in
theorem fits32_any (v n : Int) (w : World) (h0 : 0 ≤ n) (h1 : n ≤ 32) :
    Calls Tryz.prog 142 #[.int .u32 v, .int .i64 n] w fun e w' => e = .returned (.bool (v / 2 ^ n.toNat == 0)) ∧ w' = w := by
  go_enter Tryz.func142, Tryz.ntmps142
  go_wp2
  go_ret
  exact ⟨rfl, rfl⟩



theorem mask_eq (v n : Int) (h0 : 0 ≤ n) (h1 : n ≤ 63) (v0 : 0 ≤ v) (v1 : v < 18446744073709551616) :
    bits BinOp.and IntKind.u64 v (IntKind.u64.wrap (IntKind.u64.wrap (2 ^ n.toNat) - 1)) = v % 2 ^ n.toNat := by
  have hp : (2 : Nat) ^ n.toNat ≤ 2 ^ 63 := Nat.pow_le_pow_right (by decide) (by omega)
  have hp0 : 0 < (2 : Nat) ^ n.toNat := Nat.two_pow_pos _
  have e1 : ((2 : Int) ^ n.toNat) = (((2 : Nat) ^ n.toNat : Nat) : Int) := by simp
  rw [e1, IntKind.wrap_u64, IntKind.wrap_u64]
  generalize hq : (2 : Nat) ^ n.toNat = q at *
  have e2 : ((((q : Nat) : Int) % 18446744073709551616 - 1) % 18446744073709551616) = ((q - 1 : Nat) : Int) := by omega
  rw [e2, u64_and v _ v0 v1 (by omega) (by omega), Int.toNat_natCast, ← hq, Nat.and_two_pow_sub_one_eq_mod, Int.natCast_emod, Int.toNat_of_nonneg v0]

set_option maxHeartbeats 400000 in
theorem lowest_any (v n : Int) (w : World) (h0 : 0 ≤ n) (h1 : n ≤ 63) (v0 : 0 ≤ v) (v1 : v < 18446744073709551616) :
    Calls Tryz.prog 143 #[.int .u64 v, .int .i64 n] w fun e w' => e = .returned (.int .u64 (v % 2 ^ n.toNat)) ∧ w' = w := by
  have hm := mask_eq v n h0 h1 v0 v1
  go_enter Tryz.func143, Tryz.ntmps143
  go_wp2
  go_ret
  exact ⟨rfl, rfl⟩


theorem byte_eq (X k : Int) (j : Nat) (k1 : k ≤ 8) (X0 : 0 ≤ X) (hj : (j : Int) < k) :
    X / 2 ^ (8 * (k - 1 - (j : Int))).toNat % 256 = ((X.toNat / 256 ^ (k.toNat - (j + 1)) % 256 : Nat) : Int) := by
  obtain ⟨x, rfl⟩ := Int.eq_ofNat_of_zero_le X0
  obtain ⟨q, rfl⟩ := Int.eq_ofNat_of_zero_le (show 0 ≤ k by omega)
  have e : (8 * ((q : Int) - 1 - (j : Int))).toNat = 8 * (q - (j + 1)) := by omega
  have e1 : ((2 : Int) ^ (8 * (q - (j + 1)))) = (((2 : Nat) ^ (8 * (q - (j + 1))) : Nat) : Int) := by simp
  rw [e, pow256, e1, Int.toNat_natCast, Int.toNat_natCast, Int.natCast_emod, Int.natCast_ediv]
  rfl

set_option maxHeartbeats 1000000 in
set_option maxRecDepth 1000000 in
theorem appendBig_any (v : Value) (n : Nat) (xs : List Value) (X k : Int) (w : World) (hown : w.ownsRow 0 5 1 v n xs) (k0 : 0 ≤ k) (k1 : k ≤ 8) (X0 : 0 ≤ X) (hn : n + 8 ≤ 140737488355328) :
    Calls Tryz.prog 116 #[v, .int .u64 X, .int .i64 k] w fun e w' => ∃ v', e = .returned v' ∧ w'.ownsRow 0 5 1 v' (n + k.toNat) (xs ++ (big k.toNat X.toNat).map byt) ∧ Kept v.ownBlock.toList w w' ∧ Lies w v v' := by
  obtain ⟨i0, hi, hz0, hz1, hz2⟩ := info_parts Tryz.info5
  go_enter Tryz.func116, Tryz.ntmps116
  go_wp2
  go_loopw [0, 9] (fun v1 i wr => ∃ j : Nat, (j : Int) ≤ k ∧ i = .int .i64 j ∧ wr.ownsRow 0 5 1 v1 (n + j) (xs ++ (big j (X.toNat / 256 ^ (k.toNat - j))).map byt) ∧ Kept v.ownBlock.toList w wr ∧ Lies w v v1)
    (fun _ i _ => k.toNat - (intOf i).toNat)
  case atStart => exact ⟨0, by omega, rfl, by simpa [big] using hown, Kept.refl _ _, Lies.refl _ _⟩
  case round =>
    obtain ⟨j, hj, rfl, hor, hkr, hlr⟩ := hrel
    by_cases hlt : (j : Int) < k
    · go_wp2_with (at_builtin; refine wpList_append_own_at _ rfl _ _ 28 rfl 0 5 i0 (.int .u8 0) 1 1 Tryz.underlying28 hi hz0 hz1 hz2 rfl (by decide) _ _ _ rfl (hor.alloc _) ⟨wr.heap.size, 0, none⟩ 1 1 [.int .u8 (X / 2 ^ (8 * (k - 1 - (j : Int))).toNat % 256)] rfl rfl ?c1 ?c2 ?c3 ?c4 ?c5 ?_)
      case c1 =>
        intro i u hu
        match i, hu with
        | 0, hu => simp at hu; subst hu; simp [Addr.add]
      case c2 => intro u hu; simp at hu; subst hu; rfl
      case c3 => unfold maxLen; omega
      case c4 => omega
      case c5 => omega
      intro v' w1 hown' hgrow _ hat
      have hk' : Kept v.ownBlock.toList w w1 := (hkr.alloc _).step (Kept.of_grown hgrow) (Lies.mem hlr)
      have hl' : Lies w v v' := by
        refine hlr.trans (w1 := wr) (v1 := u0) ?_ hkr.size
        rcases hat with h | h
        · exact .inl h
        · exact .inr ⟨_, h, by simp⟩
      have ho' : w1.ownsRow 0 5 1 v' (n + (j + 1)) (xs ++ (big (j + 1) (X.toNat / 256 ^ (k.toNat - (j + 1)))).map byt) := by
        have e1 : X.toNat / 256 ^ (k.toNat - (j + 1)) / 256 = X.toNat / 256 ^ (k.toNat - j) := by
          rw [Nat.div_div_eq_div_mul, ← Nat.pow_succ, show (k.toNat - (j + 1)).succ = k.toNat - j by omega]
        rw [big, e1, List.map_append, ← List.append_assoc, List.map_singleton, byt, ← byte_eq X k j k1 X0 hlt]
        simpa [Nat.add_assoc] using hown'
      clear hown' hgrow hat hor hkr hlr
      go_wp2
      go_roundw
      case rel => exact ⟨j + 1, by omega, by go_num, ho', hk', hl'⟩
      case measure => simp [intOf]; omega
    · go_wp2
      go_ret
      obtain rfl : k = (j : Int) := by omega
      exact ⟨_, rfl, by simpa using hor, hkr, hlr⟩
end Go.Proofs.YthhegomjipbdbaaGreatDoor
