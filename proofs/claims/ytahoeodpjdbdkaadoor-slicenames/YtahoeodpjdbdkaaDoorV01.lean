import Derived.Test.YtahoeodpjdbdkaaDoorRows
import Derived.WalkKit
import Derived.WalkSpells
import Derived.WalkLawsBesides
import Derived.Maps.AppendAt
import Derived.Laws.BitsAllLaws
import Derived.Deep.RegionHeld3
import Derived.Deep.RegionWith
import Derived.Deep.DeepCutAuto
import Derived.Deep.QuietTactic
import Derived.BigQuiet
import Derived.Laws.CopyOwn
namespace Go.Proofs.YtahoeodpjdbdkaaDoor
open Go.RowKit

/-- A byte as a value. -/
def byt (b : Nat) : Value := .int .u8 (b : Int)

/-- The world w' is w with new blocks and with writes to the blocks of l alone. -/
structure Kept (l : List Nat) (w w' : World) : Prop where
  os : w'.os = w.os
  tape : w'.tape = w.tape
  output : w'.output = w.output
  size : w.heap.size ≤ w'.heap.size
  block : ∀ k, k < w.heap.size → k ∉ l → w'.heap[k]? = w.heap[k]?

theorem Kept.refl (l : List Nat) (w : World) : Kept l w w := ⟨rfl, rfl, rfl, Nat.le_refl _, fun _ _ _ => rfl⟩

theorem Kept.trans {l : List Nat} {a b c : World} (h : Kept l a b) (k : Kept l b c) : Kept l a c :=
  ⟨k.os.trans h.os, k.tape.trans h.tape, k.output.trans h.output, Nat.le_trans h.size k.size,
    fun i hi hl => (k.block i (Nat.lt_of_lt_of_le hi h.size) hl).trans (h.block i hi hl)⟩

/-- What a second step writes must lie in l, or be new to the first world. -/
theorem Kept.step {l l2 : List Nat} {a b c : World} (h : Kept l a b) (k : Kept l2 b c) (hs : ∀ x, x ∈ l2 → x ∈ l ∨ a.heap.size ≤ x) : Kept l a c :=
  ⟨k.os.trans h.os, k.tape.trans h.tape, k.output.trans h.output, Nat.le_trans h.size k.size,
    fun i hi hl => (k.block i (Nat.lt_of_lt_of_le hi h.size) (fun hm => by rcases hs i hm with h1 | h1; exact hl h1; omega)).trans (h.block i hi hl)⟩

theorem Kept.mono {l l2 : List Nat} {a b : World} (h : Kept l a b) (hs : ∀ x, x ∈ l → x ∈ l2 ∨ a.heap.size ≤ x) : Kept l2 a b :=
  ⟨h.os, h.tape, h.output, h.size, fun i hi hl => h.block i hi (fun hm => by rcases hs i hm with h1 | h1; exact hl h1; omega)⟩

theorem Kept.drew {l : List Nat} {a w : World} (h : Kept l a w) : Kept l a w.drew := ⟨h.os, h.tape, h.output, h.size, h.block⟩
theorem Kept.undrew {l : List Nat} {a w : World} (h : Kept l a.drew w) : Kept l a w := ⟨h.os, h.tape, h.output, h.size, h.block⟩
theorem Kept.drewN {l : List Nat} {a w : World} (h : Kept l a w) (n : Nat) : Kept l a (w.drewN n) := by
  induction n with
  | zero => exact h
  | succ n ih => exact ih.drew

theorem Kept.alloc {l : List Nat} {a w : World} (h : Kept l a w) (o : Obj) : Kept l a (w.alloc o) :=
  h.step (l2 := []) ⟨rfl, rfl, rfl, by simp, fun k hk _ => Below.heap_alloc _ _ _ hk⟩ (fun x hx => by simp at hx)

theorem Kept.setCell {l : List Nat} {a w : World} (h : Kept l a w) {p : Addr} (hp : p.block ∈ l ∨ a.heap.size ≤ p.block) (u : Value) : Kept l a (w.setCell p u) :=
  h.step (l2 := [p.block]) ⟨rfl, rfl, rfl, by simp [World.setCell], fun k _ hm => Below.heap_setCell _ _ _ _ (by simpa using hm)⟩ (fun x hx => by simp at hx; subst hx; exact hp)

theorem Kept.of_grown {w w' : World} {row : Option Nat} (h : w.grownBy w' row) : Kept row.toList w w' :=
  ⟨h.os, h.tape, h.output, h.size, fun k hk hl => h.block k hk (fun e => hl (by rw [← e]; simp))⟩

theorem Kept.below {l : List Nat} {w w' : World} {B : Nat} (h : Kept l w w') (hB : B ≤ w.heap.size) (hl : ∀ x ∈ l, B ≤ x) : Below B w w' :=
  ⟨h.os, h.tape, h.output, h.size, fun k hk => h.block k (by omega) (fun hm => by have := hl k hm; omega)⟩

theorem Kept.of_below {w w' : World} (h : Below w.heap.size w w') : Kept [] w w' := ⟨h.os, h.tape, h.output, h.size, fun k hk _ => h.block k hk⟩

theorem Kept.heap {l : List Nat} {w w' : World} (h : Kept l w w') {k : Nat} {o : Obj} (hk : w.heap[k]? = some o) (hl : k ∉ l) : w'.heap[k]? = some o := by
  rw [h.block k (Array.getElem?_eq_some_iff.1 hk).1 hl]; exact hk

theorem Kept.row {l : List Nat} {w w' : World} (h : Kept l w w') {base : Nat} {e : TypeId} {size : Nat} {v : Value} {n : Nat} {xs : List Value}
    (ho : w.ownsRow base e size v n xs) (hne : ∀ g, v.ownBlock = some g → g ∉ l) : w'.ownsRow base e size v n xs := by
  refine ⟨ho.1, ?_⟩
  rcases ho.2 with hn | ⟨g, cap, cur, rfl, hb, hgg, rest⟩
  · exact .inl hn
  · exact .inr ⟨g, cap, cur, rfl, hb, h.heap hgg (hne g rfl), rest⟩

/-- Where a slice that was appended to lies: as before, or in new memory. -/
def Lies (w : World) (v v' : Value) : Prop := v'.ownBlock = v.ownBlock ∨ ∃ g, v'.ownBlock = some g ∧ w.heap.size ≤ g

theorem Lies.refl (w : World) (v : Value) : Lies w v v := .inl rfl
theorem Lies.trans {w w1 : World} {v v1 v2 : Value} (h : Lies w v v1) (h2 : Lies w1 v1 v2) (hs : w.heap.size ≤ w1.heap.size) : Lies w v v2 := by
  rcases h2 with h2 | ⟨g, hg, hl⟩
  · rcases h with h | ⟨g, hg, hl⟩
    · exact .inl (h2.trans h)
    · exact .inr ⟨g, h2.trans hg, hl⟩
  · exact .inr ⟨g, hg, by omega⟩
theorem Lies.mem {w : World} {v v' : Value} (h : Lies w v v') : ∀ x, x ∈ v'.ownBlock.toList → x ∈ v.ownBlock.toList ∨ w.heap.size ≤ x := by
  intro x hx
  rcases h with h | ⟨g, hg, hl⟩
  · rw [h] at hx; exact .inl hx
  · rw [hg] at hx; simp at hx; subst hx; exact .inr hl

theorem Tryd.info5 : (Tryd.prog.info? 5).map (fun i => (i.zero, i.size, i.bytes)) = some (some (.int .u8 0), 1, 1) := by kernel_rfl

end Go.Proofs.YtahoeodpjdbdkaaDoor

namespace Go.Proofs.YtahoeodpjdbdkaaDoor
open Go Go.RowKit

/-- The lowest n bytes of X, the highest first. -/
def big : Nat → Nat → List Nat
  | 0, _ => []
  | n + 1, X => big n (X / 256) ++ [X % 256]

/-- The number that digits of 256 are, the highest first. -/
def num (l : List Nat) : Nat := l.foldl (fun a b => a * 256 + b) 0

theorem big_length (n X : Nat) : (big n X).length = n := by
  induction n generalizing X with
  | zero => rfl
  | succ n ih => simp [big, ih]

theorem big_lt (n X : Nat) : ∀ b ∈ big n X, b < 256 := by
  induction n generalizing X with
  | zero => intro b h; simp [big] at h
  | succ n ih =>
    intro b h
    simp only [big, List.mem_append, List.mem_singleton] at h
    rcases h with h | h
    · exact ih _ b h
    · subst h; exact Nat.mod_lt _ (by decide)

theorem num_snoc (l : List Nat) (b : Nat) : num (l ++ [b]) = num l * 256 + b := by simp [num]

theorem num_append (l m : List Nat) : num (l ++ m) = num l * 256 ^ m.length + num m := by
  induction m generalizing l with
  | nil => simp [num]
  | cons b m ih =>
    have h1 : l ++ b :: m = (l ++ [b]) ++ m := by simp
    have h2 : b :: m = [b] ++ m := by simp
    rw [h1, ih, h2, ih [b], num_snoc]
    simp only [num, List.length_append, List.length_cons, List.length_nil, List.foldl]
    rw [Nat.add_mul, Nat.pow_add, Nat.zero_mul]
    simp only [Nat.zero_add, Nat.pow_one]
    rw [← Nat.mul_assoc, Nat.add_assoc]

theorem num_lt (l : List Nat) (h : ∀ b ∈ l, b < 256) : num l < 256 ^ l.length := by
  induction l with
  | nil => simp [num]
  | cons b l ih =>
    have h2 : b :: l = [b] ++ l := by simp
    rw [h2, num_append]
    have hb : b < 256 := h b (by simp)
    have hl := ih (fun x hx => h x (by simp [hx]))
    simp only [List.length_append, List.length_cons, List.length_nil, Nat.zero_add, Nat.pow_add, Nat.pow_one]
    have e : num [b] = b := by simp [num]
    rw [e]
    have h3 : (b + 1) * 256 ^ l.length ≤ 256 * 256 ^ l.length := Nat.mul_le_mul_right _ hb
    rw [Nat.add_mul] at h3
    omega

theorem num_big (n X : Nat) : num (big n X) = X % 256 ^ n := by
  induction n generalizing X with
  | zero => simp [big, num, Nat.mod_one]
  | succ n ih =>
    rw [big, num_snoc, ih, Nat.pow_succ, Nat.mul_comm (256 ^ n) 256, Nat.mod_mul]
    omega

theorem big_add (a b X : Nat) : big (a + b) X = big a (X / 256 ^ b) ++ big b X := by
  induction b generalizing X with
  | zero => simp [big]
  | succ b ih =>
    rw [Nat.add_succ, big, ih, big, ← List.append_assoc, Nat.pow_succ, Nat.mul_comm (256 ^ b) 256, ← Nat.div_div_eq_div_mul]

theorem big_mod (b X : Nat) : big b (X % 256 ^ b) = big b X := by
  induction b generalizing X with
  | zero => rfl
  | succ b ih =>
    have e1 : X % 256 ^ (b + 1) / 256 = X / 256 % 256 ^ b := by
      rw [Nat.pow_succ, Nat.mul_comm (256 ^ b) 256, Nat.mod_mul_right_div_self]
    have e2 : X % 256 ^ (b + 1) % 256 = X % 256 := by
      rw [Nat.pow_succ, Nat.mod_mul_left_mod]
    rw [big, e1, e2, ih, big]

theorem big_congr (b X Y : Nat) (h : X % 256 ^ b = Y % 256 ^ b) : big b X = big b Y := by
  rw [← big_mod b X, h, big_mod]

theorem pow256 (n : Nat) : 256 ^ n = 2 ^ (8 * n) := by rw [Nat.pow_mul]

/-- One step of the writer's bytes. -/
theorem put_bytes (N v few k n : Nat) (hv : v < 2 ^ k) :
    big n (N / 2 ^ few) ++ big ((few + k) / 8) ((N % 2 ^ few * 2 ^ k + v) / 2 ^ ((few + k) % 8)) = big (n + (few + k) / 8) ((N * 2 ^ k + v) / 2 ^ ((few + k) % 8)) := by
  rw [big_add]
  have hs : (few + k) % 8 + 8 * ((few + k) / 8) = few + k := Nat.mod_add_div _ _
  generalize hf : (few + k) % 8 = f at *
  generalize hw : (few + k) / 8 = wh at *
  have hN : N * 2 ^ k + v = N / 2 ^ few * 2 ^ (few + k) + (N % 2 ^ few * 2 ^ k + v) := by
    have := Nat.div_add_mod N (2 ^ few)
    rw [Nat.pow_add, ← Nat.mul_assoc, ← Nat.add_assoc, ← Nat.add_mul, Nat.mul_comm (N / 2 ^ few), this]
  have hlt : N % 2 ^ few * 2 ^ k + v < 2 ^ (few + k) := by
    have h1 : N % 2 ^ few < 2 ^ few := Nat.mod_lt _ (Nat.two_pow_pos _)
    have h2 : (N % 2 ^ few + 1) * 2 ^ k ≤ 2 ^ few * 2 ^ k := Nat.mul_le_mul_right _ h1
    rw [Nat.add_mul] at h2
    rw [Nat.pow_add]; omega
  have hd : (N * 2 ^ k + v) / 2 ^ f = N / 2 ^ few * 256 ^ wh + (N % 2 ^ few * 2 ^ k + v) / 2 ^ f := by
    rw [hN, pow256, ← hs, Nat.pow_add, ← Nat.mul_assoc, Nat.mul_right_comm, Nat.add_comm, Nat.add_mul_div_right _ _ (Nat.two_pow_pos _), Nat.add_comm]
  have hq : (N % 2 ^ few * 2 ^ k + v) / 2 ^ f < 256 ^ wh := by
    rw [Nat.div_lt_iff_lt_mul (Nat.two_pow_pos _), pow256, ← Nat.pow_add, Nat.add_comm (8 * wh) f, hs]; exact hlt
  rw [hd]
  congr 1
  · congr 1
    rw [Nat.add_comm, Nat.add_mul_div_right _ _ (Nat.pow_pos (by decide)), Nat.div_eq_of_lt hq, Nat.zero_add]
  · apply big_congr
    rw [Nat.mul_add_mod_self_right]

/-- One step of the writer's last bits. -/
theorem put_held (N v few k : Nat) (_hv : v < 2 ^ k) :
    (N % 2 ^ few * 2 ^ k + v) % 2 ^ ((few + k) % 8) = (N * 2 ^ k + v) % 2 ^ ((few + k) % 8) := by
  have hs : (few + k) % 8 + 8 * ((few + k) / 8) = few + k := Nat.mod_add_div _ _
  generalize (few + k) % 8 = f at *
  generalize (few + k) / 8 = wh at *
  have hN : N * 2 ^ k + v = N / 2 ^ few * 2 ^ (few + k) + (N % 2 ^ few * 2 ^ k + v) := by
    have := Nat.div_add_mod N (2 ^ few)
    rw [Nat.pow_add, ← Nat.mul_assoc, ← Nat.add_assoc, ← Nat.add_mul, Nat.mul_comm (N / 2 ^ few), this]
  rw [hN, ← hs, Nat.pow_add, Nat.mul_comm (2 ^ f), ← Nat.mul_assoc, Nat.mul_add_mod_self_right]

end Go.Proofs.YtahoeodpjdbdkaaDoor

namespace Go.Proofs.YtahoeodpjdbdkaaDoor
open Go.RowKit

theorem ret_int {k : IntKind} {a b : Int} (h : a = b) : Ending.returned (.int k a) = .returned (.int k b) := by rw [h]
theorem ret_bool {a b : Bool} (h : a = b) : Ending.returned (.bool a) = .returned (.bool b) := by rw [h]

set_option maxHeartbeats 400000 in
theorem fits32_any (v n : Int) (w : World) (h0 : 0 ≤ n) (h1 : n ≤ 32) :
    Calls Tryd.prog 61 #[.int .u32 v, .int .i64 n] w fun e w' => e = .returned (.bool (v / 2 ^ n.toNat == 0)) ∧ w' = w := by
  go_enter Tryd.func61, Tryd.ntmps61
  go_wp2
  go_ret
  exact ⟨rfl, rfl⟩



theorem mask_eq (v n : Int) (h0 : 0 ≤ n) (h1 : n ≤ 63) (v0 : 0 ≤ v) (v1 : v < 18446744073709551616) :
    bits BinOp.and IntKind.u64 v (IntKind.u64.wrap (IntKind.u64.wrap (2 ^ n.toNat) - 1)) = v % 2 ^ n.toNat := by
  have hp : (2 : Nat) ^ n.toNat ≤ 2 ^ 63 := Nat.pow_le_pow_right (by decide) (by omega)
  have hp0 : 0 < (2 : Nat) ^ n.toNat := Nat.two_pow_pos _
  have e1 : ((2 : Int) ^ n.toNat) = (((2 : Nat) ^ n.toNat : Nat) : Int) := by simp
  rw [e1, IntKind.wrap_u64, IntKind.wrap_u64]
  generalize hq : (2 : Nat) ^ n.toNat = q at *
  have e2 : ((((q : Nat) : Int) % 18446744073709551616 - 1) % 18446744073709551616) = ((q - 1 : Nat) : Int) := by omega
  rw [e2, u64_and v _ v0 v1 (by omega) (by omega), Int.toNat_natCast, ← hq, Nat.and_two_pow_sub_one_eq_mod, Int.natCast_emod, Int.toNat_of_nonneg v0]

set_option maxHeartbeats 400000 in
theorem lowest_any (v n : Int) (w : World) (h0 : 0 ≤ n) (h1 : n ≤ 63) (v0 : 0 ≤ v) (v1 : v < 18446744073709551616) :
    Calls Tryd.prog 63 #[.int .u64 v, .int .i64 n] w fun e w' => e = .returned (.int .u64 (v % 2 ^ n.toNat)) ∧ w' = w := by
  have hm := mask_eq v n h0 h1 v0 v1
  go_enter Tryd.func63, Tryd.ntmps63
  go_wp2
  go_ret
  exact ⟨rfl, rfl⟩


theorem byte_eq (X k : Int) (j : Nat) (k1 : k ≤ 8) (X0 : 0 ≤ X) (hj : (j : Int) < k) :
    X / 2 ^ (8 * (k - 1 - (j : Int))).toNat % 256 = ((X.toNat / 256 ^ (k.toNat - (j + 1)) % 256 : Nat) : Int) := by
  obtain ⟨x, rfl⟩ := Int.eq_ofNat_of_zero_le X0
  obtain ⟨q, rfl⟩ := Int.eq_ofNat_of_zero_le (show 0 ≤ k by omega)
  have e : (8 * ((q : Int) - 1 - (j : Int))).toNat = 8 * (q - (j + 1)) := by omega
  have e1 : ((2 : Int) ^ (8 * (q - (j + 1)))) = (((2 : Nat) ^ (8 * (q - (j + 1))) : Nat) : Int) := by simp
  rw [e, pow256, e1, Int.toNat_natCast, Int.toNat_natCast, Int.natCast_emod, Int.natCast_ediv]
  rfl

set_option maxHeartbeats 1000000 in
set_option maxRecDepth 1000000 in
theorem appendBig_any (v : Value) (n : Nat) (xs : List Value) (X k : Int) (w : World) (hown : w.ownsRow 0 5 1 v n xs) (k0 : 0 ≤ k) (k1 : k ≤ 8) (X0 : 0 ≤ X) (hn : n + 8 ≤ 140737488355328) :
    Calls Tryd.prog 62 #[v, .int .u64 X, .int .i64 k] w fun e w' => ∃ v', e = .returned v' ∧ w'.ownsRow 0 5 1 v' (n + k.toNat) (xs ++ (big k.toNat X.toNat).map byt) ∧ Kept v.ownBlock.toList w w' ∧ Lies w v v' := by
  obtain ⟨i0, hi, hz0, hz1, hz2⟩ := info_parts Tryd.info5
  go_enter Tryd.func62, Tryd.ntmps62
  go_wp2
  go_loopw [0, 9] (fun v1 i wr => ∃ j : Nat, (j : Int) ≤ k ∧ i = .int .i64 j ∧ wr.ownsRow 0 5 1 v1 (n + j) (xs ++ (big j (X.toNat / 256 ^ (k.toNat - j))).map byt) ∧ Kept v.ownBlock.toList w wr ∧ Lies w v v1)
    (fun _ i _ => k.toNat - (intOf i).toNat)
  case atStart => exact ⟨0, by omega, rfl, by simpa [big] using hown, Kept.refl _ _, Lies.refl _ _⟩
  case round =>
    obtain ⟨j, hj, rfl, hor, hkr, hlr⟩ := hrel
    by_cases hlt : (j : Int) < k
    · go_wp2_with (at_builtin; refine wpList_append_own_at _ rfl _ _ 32 rfl 0 5 i0 (.int .u8 0) 1 1 Tryd.underlying32 hi hz0 hz1 hz2 rfl (by decide) _ _ _ rfl (hor.alloc _) ⟨wr.heap.size, 0, none⟩ 1 1 [.int .u8 (X / 2 ^ (8 * (k - 1 - (j : Int))).toNat % 256)] rfl rfl ?c1 ?c2 ?c3 ?c4 ?c5 ?_)
      case c1 =>
        intro i u hu
        match i, hu with
        | 0, hu => simp at hu; subst hu; simp [Addr.add]
      case c2 => intro u hu; simp at hu; subst hu; rfl
      case c3 => unfold maxLen; omega
      case c4 => omega
      case c5 => omega
      intro v' w1 hown' hgrow _ hat
      have hk' : Kept v.ownBlock.toList w w1 := (hkr.alloc _).step (Kept.of_grown hgrow) (Lies.mem hlr)
      have hl' : Lies w v v' := by
        refine hlr.trans (w1 := wr) (v1 := u0) ?_ hkr.size
        rcases hat with h | h
        · exact .inl h
        · exact .inr ⟨_, h, by simp⟩
      have ho' : w1.ownsRow 0 5 1 v' (n + (j + 1)) (xs ++ (big (j + 1) (X.toNat / 256 ^ (k.toNat - (j + 1)))).map byt) := by
        have e1 : X.toNat / 256 ^ (k.toNat - (j + 1)) / 256 = X.toNat / 256 ^ (k.toNat - j) := by
          rw [Nat.div_div_eq_div_mul, ← Nat.pow_succ, show (k.toNat - (j + 1)).succ = k.toNat - j by omega]
        rw [big, e1, List.map_append, ← List.append_assoc, List.map_singleton, byt, ← byte_eq X k j k1 X0 hlt]
        simpa [Nat.add_assoc] using hown'
      clear hown' hgrow hat hor hkr hlr
      go_wp2
      go_roundw
      case rel => exact ⟨j + 1, by omega, by go_num, ho', hk', hl'⟩
      case measure => simp [intOf]; omega
    · go_wp2
      go_ret
      obtain rfl : k = (j : Int) := by omega
      exact ⟨_, rfl, by simpa using hor, hkr, hlr⟩
end Go.Proofs.YtahoeodpjdbdkaaDoor

namespace Go.Proofs.YtahoeodpjdbdkaaDoor
open Go.RowKit

/-- The writer whose struct is block B: its bits are the number N of len digits; v is the slice of its full bytes. -/
def WriterAt (w : World) (B : Nat) (v : Value) (N len : Nat) : Prop :=
  w.heap[B]? = some (.cells #[v, .int .u64 ((N % 2 ^ (len % 8) : Nat) : Int), .int .i64 ((len % 8 : Nat) : Int)] 107 (0, 0)) ∧
  w.ownsRow 0 5 1 v (len / 8) ((big (len / 8) (N / 2 ^ (len % 8))).map byt)

set_option maxHeartbeats 400000 in
theorem newWriter_any (w : World) :
    Calls Tryd.prog 42 #[] w fun e w' => e = .returned (.pointer (some ⟨w.heap.size, 0, none⟩)) ∧ w' = w.alloc (.cells #[.slice none 0 0, .int .u64 0, .int .i64 0] 107) := by
  go_enter Tryd.func42, Tryd.ntmps42
  go_wp2
  go_ret
  exact ⟨rfl, rfl⟩

set_option maxHeartbeats 400000 in
theorem put_width (B : Nat) (v n : Int) (w : World) (h : n < 0 ∨ 32 < n) :
    Calls Tryd.prog 43 #[.pointer (some ⟨B, 0, none⟩), .int .u32 v, .int .i64 n] w fun e w' => e = .returned (.int .i64 11) ∧ w' = w := by
  rcases h with h | h
  · go_enter Tryd.func43, Tryd.ntmps43
    go_wp2
    go_ret
    exact ⟨rfl, rfl⟩
  · have h' : ¬ n < 0 := by omega
    go_enter Tryd.func43, Tryd.ntmps43
    go_wp2
    go_ret
    exact ⟨rfl, rfl⟩

set_option maxHeartbeats 400000 in
theorem put_value (B : Nat) (v n : Int) (w : World) (h0 : 0 ≤ n) (h1 : n ≤ 32) (hv : (v / 2 ^ n.toNat == 0) = false) :
    Calls Tryd.prog 43 #[.pointer (some ⟨B, 0, none⟩), .int .u32 v, .int .i64 n] w fun e w' => e = .returned (.int .i64 12) ∧ w' = w := by
  go_enter Tryd.func43, Tryd.ntmps43
  go_wp2_with (go_at_call 61; refine (fits32_any _ _ _ (by omega) (by omega)).mono ?_; rintro e w' ⟨rfl, rfl⟩)
  go_ret
  exact ⟨rfl, rfl⟩

theorem cells_three {w : World} {B : Nat} {a b c : Value} {t : TypeId} (h : w.heap[B]? = some (.cells #[a, b, c] t (0, 0))) :
    w.cell? ⟨B, 0, none⟩ = some a ∧ w.cell? ⟨B, 1, none⟩ = some b ∧ w.cell? ⟨B, 2, none⟩ = some c ∧ ∀ i, w.frozen? ⟨B, i, none⟩ = false := by
  refine ⟨?_, ?_, ?_, ?_⟩ <;> simp [World.cell?, World.frozen?, h]


theorem heap_setCell_at {w : World} {B i : Nat} {u : Value} {cs : Array Value} {t : TypeId} (h : w.heap[B]? = some (.cells cs t (0, 0))) :
    (w.setCell ⟨B, i, none⟩ u).heap[B]? = some (.cells (cs.setIfInBounds i u) t (0, 0)) := by
  have hlt := lt_of_block h
  have h' : w.heap[B] = .cells cs t (0, 0) := by simpa [Array.getElem?_eq_getElem hlt] using h
  show (w.heap.modify B _)[B]? = _
  rw [Array.getElem?_eq_getElem (by simpa using hlt), Array.getElem_modify_self, h']
  rfl

theorem own_ne {w : World} {B n : Nat} {V : Value} {xs : List Value} {cs : Array Value} {t : TypeId} (h : w.heap[B]? = some (.cells cs t (0, 0))) (ht : t ≠ 5) (ho : w.ownsRow 0 5 1 V n xs) : V.ownBlock ≠ some B := by
  intro e
  rcases ho.2 with ⟨rfl, _⟩ | ⟨g, cap, cur, rfl, _, hg, _⟩
  · simp [Value.ownBlock] at e
  · simp [Value.ownBlock] at e
    subst e
    rw [hg] at h
    simp at h
    exact ht h.2.symm

/-- appendBig beside a block that is not the row's. -/
theorem appendBig_b (B : Nat) (v : Value) (n : Nat) (xs : List Value) (X k : Int) (w : World) (hown : w.ownsRow 0 5 1 v n xs) (k0 : 0 ≤ k) (k1 : k ≤ 8) (X0 : 0 ≤ X) (hn : n + 8 ≤ 140737488355328)
    (hB : B < w.heap.size) (hne : v.ownBlock ≠ some B) :
    Calls Tryd.prog 62 #[v, .int .u64 X, .int .i64 k] w fun e w' => ∃ v', e = .returned v' ∧ w'.ownsRow 0 5 1 v' (n + k.toNat) (xs ++ (big k.toNat X.toNat).map byt) ∧ Kept v.ownBlock.toList w w' ∧ Lies w v v' ∧
      (∀ i, w'.cell? ⟨B, i, none⟩ = w.cell? ⟨B, i, none⟩) ∧ (∀ i, w'.frozen? ⟨B, i, none⟩ = w.frozen? ⟨B, i, none⟩) := by
  refine (appendBig_any v n xs X k w hown k0 k1 X0 hn).mono ?_
  rintro e w' ⟨v', rfl, ho, hk, hl⟩
  have hb := hk.block B hB (by simpa using hne)
  exact ⟨v', rfl, ho, hk, hl, fun i => World.cell?_of_block (a := ⟨B, i, none⟩) hb, fun i => World.frozen?_of_block (a := ⟨B, i, none⟩) hb⟩

theorem row_form {w : World} {base : Nat} {e : TypeId} {size : Nat} {v : Value} {n : Nat} {xs : List Value} (h : w.ownsRow base e size v n xs) : ∃ ao cap, v = .slice ao n cap := by
  rcases h.2 with ⟨rfl, rfl⟩ | ⟨g, cap, cur, rfl, _⟩
  · exact ⟨_, _, rfl⟩
  · exact ⟨_, _, rfl⟩

theorem wp_gen {P : Program} {c : Code} {Q : Exit → Act → World → Prop} {a : Act} {w0 : World} (R : World → Prop) (h0 : R w0) (h : ∀ W, R W → c.wp P Q a W) : c.wp P Q a w0 := h w0 h0

theorem put_meet {w0 W w1 : World} {B n : Nat} {V V1 h f : Value} {ys : List Value} (hBW : W.heap[B]? = some (.cells #[V, h, f] 107 (0, 0))) (hKW : Kept [B] w0 W) (hne : V.ownBlock ≠ some B)
    (ho : w1.ownsRow 0 5 1 V1 n ys) (hk : Kept V.ownBlock.toList W w1) (hL : Lies W V V1) :
    (w1.setCell ⟨B, 0, none⟩ V1).heap[B]? = some (.cells #[V1, h, f] 107 (0, 0)) ∧ (w1.setCell ⟨B, 0, none⟩ V1).ownsRow 0 5 1 V1 n ys ∧ Kept (B :: V.ownBlock.toList) w0 (w1.setCell ⟨B, 0, none⟩ V1) ∧ Lies w0 V V1 := by
  have h1 := hk.heap hBW (by simpa using hne)
  have hn1 := own_ne h1 (by decide) ho
  refine ⟨by rw [heap_setCell_at h1]; simp, ownsRow_setCell_other ho hn1 _, ?_, ?_⟩
  · exact ((hKW.mono (l2 := B :: V.ownBlock.toList) (by simp)).step hk (fun x hx => .inl (List.mem_cons_of_mem _ hx))).setCell (by simp) _
  · rcases hL with h | ⟨g, hg, hl⟩
    · exact .inl h
    · exact .inr ⟨g, hg, Nat.le_trans hKW.size hl⟩


set_option maxHeartbeats 4000000 in
set_option maxRecDepth 1000000 in
theorem put_low (B : Nat) (V : Value) (m : Nat) (xs : List Value) (H F v n T : Int) (w : World) (hB : w.heap[B]? = some (.cells #[V, .int .u64 H, .int .i64 F] 107 (0, 0))) (hown : w.ownsRow 0 5 1 V m xs)
    (h0 : 0 ≤ n) (h1 : n ≤ 32) (hv : (v / 2 ^ n.toNat == 0) = true) (F0 : 0 ≤ F) (F1 : F < 8) (T0 : 0 ≤ T) (T1 : T < 18446744073709551616)
    (hor : bits BinOp.or IntKind.u64 (IntKind.u64.wrap (H * 2 ^ n.toNat)) (IntKind.u64.wrap v) = T) (hl : m + 8 ≤ 140737488355328) :
    Calls Tryd.prog 43 #[.pointer (some ⟨B, 0, none⟩), .int .u32 v, .int .i64 n] w fun e w' => e = .returned (.int .i64 0) ∧
      ∃ V', w'.heap[B]? = some (.cells #[V', .int .u64 (T % 2 ^ ((F + n) % 8).toNat), .int .i64 ((F + n) % 8)] 107 (0, 0)) ∧
        w'.ownsRow 0 5 1 V' (m + ((F + n) / 8).toNat) (xs ++ (big ((F + n) / 8).toNat (T / 2 ^ ((F + n) % 8).toNat).toNat).map byt) ∧ Kept (B :: V.ownBlock.toList) w w' ∧ Lies w V V' := by
  obtain ⟨c0, c1, c2, fz⟩ := cells_three hB
  have hne := own_ne hB (by decide) hown
  have hBs := lt_of_block hB
  have f1 := fz 1
  have f2 := fz 2
  have f0 := fz 0
  clear fz
  go_enter Tryd.func43, Tryd.ntmps43
  go_wp2_with (go_at_call 61; refine (fits32_any _ _ _ (by omega) (by omega)).mono ?_; rintro e w' ⟨rfl, rfl⟩)
  refine wp_gen (fun W => W.heap[B]? = some (.cells #[V, .int .u64 T, .int .i64 ((F + n) % 8)] 107 (0, 0)) ∧ Kept [B] w' W) ⟨?_, ?_⟩ ?_
  · rw [heap_setCell_at (heap_setCell_at (heap_setCell_at hB))]; simp
  · exact (((Kept.refl _ _).setCell (by simp) _).setCell (by simp) _).setCell (by simp) _
  intro W ⟨hBW, hKW⟩
  have hoW := hKW.row hown (by simpa using fun g hg => fun e => hne (by rw [hg, e]))
  obtain ⟨d0, d1, d2, gz⟩ := cells_three hBW
  have g0 := gz 0
  have g1 := gz 1
  have hBs' := lt_of_block hBW
  clear gz c0 c1 c2 f0 f1 f2
  go_cut [0] (fun s0 w1 => s0 = .pointer (some ⟨B, 0, none⟩) ∧ ∃ V', w1.heap[B]? = some (.cells #[V', .int .u64 T, .int .i64 ((F + n) % 8)] 107 (0, 0)) ∧
        w1.ownsRow 0 5 1 V' (m + ((F + n) / 8).toNat) (xs ++ (big ((F + n) / 8).toNat (T / 2 ^ ((F + n) % 8).toNat).toNat).map byt) ∧ Kept (B :: V.ownBlock.toList) w' w1 ∧ Lies w' V V')
  case first =>
    go_region_with (go_at_call 62; refine (appendBig_b B V m xs _ _ _ ?_ ?_ ?_ ?_ ?_ ?_ ?_).mono ?_; exact hoW; omega; omega; exact Int.ediv_nonneg (by omega) (by exact Int.le_of_lt (Int.pow_pos (by decide))); omega; exact hBs'; exact hne; rintro e w1 ⟨v', rfl, ho, hk, hL, kc, kf⟩; obtain ⟨ao, cp, rfl⟩ := row_form ho; have k0 := (kc 0).trans d0; have k1 := (kc 1).trans d1; have k2 := (kc 2).trans d2; have z0 := (kf 0).trans g0; have z1 := (kf 1).trans g1; clear kc kf)
    all_goals go_wp2
    all_goals go_meet
    all_goals exact ⟨rfl, _, put_meet hBW hKW hne ho hk.undrew hL⟩
  case rest =>
    obtain ⟨rfl, V', e1, e2, e3, e4⟩ := hcut
    obtain ⟨a0, a1, a2, gz⟩ := cells_three e1
    have y1 := gz 1
    clear gz hBW d0 d1 d2 g0 g1 hoW hKW
    go_wp2_with fail
    go_region_with (go_at_call 63; refine (lowest_any _ _ _ (by omega) (by omega) (by omega) (by omega)).mono ?_; rintro e w1 ⟨rfl, rfl⟩)
    all_goals go_wp2
    all_goals go_ret
    all_goals
      refine ⟨rfl, V', ?_, ?_, ?_, e4⟩
      · show (World.setCell _ _ _).heap[B]? = _
        rw [heap_setCell_at e1]; simp
      · exact ownsRow_setCell_other e2 (own_ne e1 (by decide) e2) _
      · exact (e3.setCell (p := ⟨B, 1, none⟩) (by simp) _).drew
end Go.Proofs.YtahoeodpjdbdkaaDoor

namespace Go.Proofs.YtahoeodpjdbdkaaDoor
open Go.RowKit

theorem pow_two_int (n : Nat) : ((2 : Int) ^ n) = (((2 : Nat) ^ n : Nat) : Int) := by simp

/-- The writer's or: the bits held, moved up, and the new ones. -/
theorem or_eq (H : Nat) (v n : Int) (f : Nat) (hH : H < 2 ^ f) (hf : f < 8) (h1 : n ≤ 32) (v0 : 0 ≤ v) (hv : v.toNat < 2 ^ n.toNat) :
    bits BinOp.or IntKind.u64 (IntKind.u64.wrap ((H : Int) * 2 ^ n.toNat)) (IntKind.u64.wrap v) = ((H * 2 ^ n.toNat + v.toNat : Nat) : Int) := by
  obtain ⟨x, rfl⟩ := Int.eq_ofNat_of_zero_le v0
  rw [Int.toNat_natCast] at hv ⊢
  have hn : n.toNat ≤ 32 := by omega
  generalize n.toNat = k at *
  have hk : 2 ^ k ≤ 2 ^ 32 := Nat.pow_le_pow_right (by decide) hn
  have hH2 : H < 2 ^ 8 := Nat.lt_of_lt_of_le hH (Nat.pow_le_pow_right (by decide) (by omega))
  have hHk : H * 2 ^ k < 2 ^ 40 := by
    have h1 : H * 2 ^ k ≤ H * 2 ^ 32 := Nat.mul_le_mul_left _ hk
    have h2 : H * 2 ^ 32 < 2 ^ 8 * 2 ^ 32 := Nat.mul_lt_mul_of_pos_right hH2 (by decide)
    have h3 : 2 ^ 8 * 2 ^ 32 = 2 ^ 40 := by decide
    omega
  rw [IntKind.wrap_u64, IntKind.wrap_u64, pow_two_int]
  have e1 : ((H : Int) * ((2 ^ k : Nat) : Int)) % 18446744073709551616 = ((H * 2 ^ k : Nat) : Int) := by
    rw [← Int.natCast_mul]; omega
  have e2 : ((x : Int)) % 18446744073709551616 = (x : Int) := by omega
  rw [e1, e2, u64_or_nat _ _ (by omega) (by omega), nat_join k _ _ (by simp) hv]

theorem fits_iff (v n : Int) (v0 : 0 ≤ v) : (v / 2 ^ n.toNat == 0) = decide (v.toNat < 2 ^ n.toNat) := by
  obtain ⟨x, rfl⟩ := Int.eq_ofNat_of_zero_le v0
  rw [pow_two_int, Int.toNat_natCast, Bool.eq_iff_iff, beq_iff_eq, decide_eq_true_iff, ← Int.natCast_ediv]
  have := Nat.div_eq_zero_iff (a := x) (b := 2 ^ n.toNat)
  have hp := Nat.two_pow_pos n.toNat
  omega

theorem put_any (B : Nat) (V : Value) (N len : Nat) (v n : Int) (w : World) (hw : WriterAt w B V N len) (h0 : 0 ≤ n) (h1 : n ≤ 32) (v0 : 0 ≤ v) (hv : v.toNat < 2 ^ n.toNat) (hl : len / 8 + 8 ≤ 140737488355328) :
    Calls Tryd.prog 43 #[.pointer (some ⟨B, 0, none⟩), .int .u32 v, .int .i64 n] w fun e w' => e = .returned (.int .i64 0) ∧
      ∃ V', WriterAt w' B V' (N * 2 ^ n.toNat + v.toNat) (len + n.toNat) ∧ Kept (B :: V.ownBlock.toList) w w' ∧ Lies w V V' := by
  obtain ⟨hB, hown⟩ := hw
  have q0 : len % 8 < 8 := Nat.mod_lt _ (by decide)
  have hH : N % 2 ^ (len % 8) < 2 ^ (len % 8) := Nat.mod_lt _ (Nat.two_pow_pos _)
  have hk : 2 ^ n.toNat ≤ 2 ^ 32 := Nat.pow_le_pow_right (by decide) (by omega)
  have hH2 : N % 2 ^ (len % 8) < 2 ^ 8 := Nat.lt_of_lt_of_le hH (Nat.pow_le_pow_right (by decide) (by omega))
  have hT : N % 2 ^ (len % 8) * 2 ^ n.toNat < 2 ^ 40 := by
    have h1 : N % 2 ^ (len % 8) * 2 ^ n.toNat ≤ N % 2 ^ (len % 8) * 2 ^ 32 := Nat.mul_le_mul_left _ hk
    have h2 : N % 2 ^ (len % 8) * 2 ^ 32 < 2 ^ 8 * 2 ^ 32 := Nat.mul_lt_mul_of_pos_right hH2 (by decide)
    have h3 : 2 ^ 8 * 2 ^ 32 = 2 ^ 40 := by decide
    omega
  refine (put_low B V (len / 8) _ _ _ v n ((N % 2 ^ (len % 8) * 2 ^ n.toNat + v.toNat : Nat) : Int) w hB hown h0 h1 (by rw [fits_iff v n v0]; simpa using hv) (by omega) (by omega) (by omega) (by omega)
    (or_eq _ v n _ hH q0 h1 v0 hv) hl).mono ?_
  rintro e w' ⟨rfl, V', e1, e2, e3, e4⟩
  refine ⟨rfl, V', ⟨?_, ?_⟩, e3, e4⟩
  · rw [e1]
    have a1 : (((len % 8 : Nat) : Int) + n) % 8 = (((len % 8 + n.toNat) % 8 : Nat) : Int) := by omega
    have a2 : (len % 8 + n.toNat) % 8 = (len + n.toNat) % 8 := by omega
    rw [a1, Int.toNat_natCast, pow_two_int, ← Int.natCast_emod, put_held _ _ _ _ hv, a2]
  · have a1 : (((len % 8 : Nat) : Int) + n) % 8 = (((len % 8 + n.toNat) % 8 : Nat) : Int) := by omega
    have a2 : (((len % 8 : Nat) : Int) + n) / 8 = (((len % 8 + n.toNat) / 8 : Nat) : Int) := by omega
    have a3 : len / 8 + (len % 8 + n.toNat) / 8 = (len + n.toNat) / 8 := by omega
    have a4 : (len % 8 + n.toNat) % 8 = (len + n.toNat) % 8 := by omega
    rw [a1, a2, Int.toNat_natCast, Int.toNat_natCast, pow_two_int, ← Int.natCast_ediv, Int.toNat_natCast, ← List.map_append, put_bytes _ _ _ _ _ hv, a3, a4] at e2
    exact e2

set_option maxHeartbeats 400000 in
theorem len_any (B : Nat) (V : Value) (N len : Nat) (w : World) (hw : WriterAt w B V N len) (hl : len ≤ 2 ^ 60) :
    Calls Tryd.prog 69 #[.pointer (some ⟨B, 0, none⟩)] w fun e w' => e = .returned (.int .i64 (len : Int)) ∧ ∃ q, w' = w.drewN q := by
  obtain ⟨hB, hown⟩ := hw
  obtain ⟨c0, c1, c2, fz⟩ := cells_three hB
  obtain ⟨ao, cp, rfl⟩ := row_form hown
  have q0 : len % 8 < 8 := Nat.mod_lt _ (by decide)
  have q1 : len / 8 ≤ 1152921504606846976 := by omega
  go_enter Tryd.func69, Tryd.ntmps69
  go_wp2_with fail
  go_quiet (fail)
  go_wp2
  go_ret
  exact ⟨ret_int (by omega), _, rfl⟩

theorem madeBytes (n : Nat) : (madeCells (Value.int .u8 0).cells (n * 1)).toList = List.replicate n (byt 0) := by
  rw [Nat.mul_one]; exact toList_madeCells_one _ _

theorem row_heap {w : World} {base e n cap g : Nat} {xs : List Value} (h : w.ownsRow base e 1 (.slice (some ⟨g, 0, none⟩) n cap) n xs) (hc : cap = n) : w.heap[g]? = some (.cells xs.toArray e (0, 0)) := by
  subst hc
  rcases h.2 with ⟨h1, _⟩ | ⟨g', cap', cur, h1, _, hg, _, _, hs, ht⟩
  · simp at h1
  · simp at h1
    obtain ⟨rfl, rfl⟩ := h1
    rw [hg]
    have : cur.toList.take (cap * 1) = cur.toList := List.take_of_length_le (by simp; omega)
    rw [this] at ht
    rw [← ht]

theorem bytes_one (l : List Nat) : ∀ v ∈ l.map byt, v.oneCell' = true := by
  intro v hv
  simp only [List.mem_map] at hv
  obtain ⟨b, _, rfl⟩ := hv
  rfl

theorem row_src {w : World} {ao : Option Addr} {base e n cap : Nat} {xs : List Value} (h : w.ownsRow base e 1 (.slice ao n cap) n xs) : 0 < n → ∃ ad, ao = some ad ∧ ∀ j u, xs[j]? = some u → w.cell? (ad.add j) = some u := by
  intro hn
  rcases h.2 with ⟨_, h1⟩ | ⟨g, cap', cur, h1, _⟩
  · omega
  · simp at h1
    obtain ⟨rfl, rfl⟩ := h1
    exact ⟨_, rfl, h.cells rfl⟩

theorem Hid.mk {p : Prop} (h : p) : Hid p := h

theorem copy_run (w : World) (g n dcap : Nat) (ao : Option Addr) (m cp : Nat) (cur cs : List Value) (hr : w.heap[g]? = some (.cells cur.toArray 5 (0, 0))) (hcur : cur.length = n) (hm : cs.length = m) (hmn : m ≤ n)
    (hpos : 0 < m → ∃ ad, ao = some ad ∧ ∀ j u, cs[j]? = some u → w.cell? (ad.add j) = some u) (hone : ∀ v ∈ cs, v.oneCell' = true) :
    ∃ w2, Sem.run Tryd.prog (Builtin.copy_ #[32, 32] 3 #[.slice (some ⟨g, 0, none⟩) n dcap, .slice ao m cp]) w = .ok (goInt m) w2 ∧ w2.heap[g]? = some (.cells (cs ++ cur.drop m).toArray 5 (0, 0)) ∧ Kept [g] w w2 := by
  obtain ⟨i0, hi, hz0, hz1, hz2⟩ := info_parts Tryd.info5
  have hsz : (Tryd.prog.info? 5).map (·.size) = some 1 := by rw [hi]; simp [hz1]
  by_cases h0 : m = 0
  · subst h0
    have hcs : cs = [] := List.eq_nil_of_length_eq_zero hm
    subst hcs
    exact ⟨w, run_copy_none w 32 32 3 5 _ _ _ _ _ _ Tryd.underlying32 hsz (by simp), by simpa using hr, Kept.refl _ _⟩
  · obtain ⟨ad, rfl, hsrc⟩ := hpos (by omega)
    have h := run_copy_row (P := Tryd.prog) w 32 32 3 5 g 0 n dcap ad m cp cur.toArray 5 cs Tryd.underlying32 hsz hr (by show _ = min _ _; omega) hsrc (by simp; omega) hone
    rw [hm] at h
    refine ⟨w.setRow g (cs ++ cur.drop m).toArray, ?_, ?_, ?_⟩
    · refine h.trans ?_
      simp
    · exact setRow_heap w g _ _ 5 _ hr
    · exact ⟨rfl, rfl, rfl, by simp [World.setRow], fun k _ hk => setRow_other w g k _ (by simpa using hk)⟩

theorem bytes_even (N len : Nat) (h : len % 8 = 0) : (big (len / 8) (N / 2 ^ (len % 8))).map byt ++ (List.replicate ((len + 7) / 8) (Value.int .u8 0)).drop (len / 8) = (big ((len + 7) / 8) (N * 2 ^ (8 * ((len + 7) / 8) - len))).map byt := by
  have h1 : (len + 7) / 8 = len / 8 := by omega
  have h2 : 8 * (len / 8) - len = 0 := by omega
  rw [h, h1, h2]
  simp

theorem bytes_odd (N len : Nat) (h : len % 8 ≠ 0) (u : Nat) (hu : u = N % 2 ^ (len % 8) * 2 ^ (8 - len % 8)) :
    ((big (len / 8) (N / 2 ^ (len % 8))).map byt ++ (List.replicate ((len + 7) / 8) (Value.int .u8 0)).drop (len / 8)).set (len / 8) (byt u) = (big ((len + 7) / 8) (N * 2 ^ (8 * ((len + 7) / 8) - len))).map byt := by
  have h1 : (len + 7) / 8 = len / 8 + 1 := by omega
  have h2 : 8 * (len / 8 + 1) - len = 8 - len % 8 := by omega
  have h3 : 2 ^ (len % 8) * 2 ^ (8 - len % 8) = 256 := by rw [← Nat.pow_add, show len % 8 + (8 - len % 8) = 8 by omega]
  have e1 : N * 2 ^ (8 - len % 8) / 256 = N / 2 ^ (len % 8) := by rw [← h3, Nat.mul_div_mul_right _ _ (Nat.two_pow_pos _)]
  have e2 : N * 2 ^ (8 - len % 8) % 256 = u := by rw [← h3, Nat.mul_mod_mul_right, hu]
  rw [h1, h2, big, e1, e2]
  have e3 : (List.replicate (len / 8 + 1) (Value.int .u8 0)).drop (len / 8) = [Value.int .u8 0] := by simp
  rw [e3, List.set_append_right _ _ (by simp [big_length])]
  simp [big_length]

theorem byte_last (N len : Nat) : IntKind.u8.wrap (IntKind.u64.wrap ((N : Int) % 2 ^ (len % 8) * 2 ^ (8 - (len : Int) % 8).toNat)) = ((N % 2 ^ (len % 8) * 2 ^ (8 - len % 8) : Nat) : Int) := by
  have e : (8 - (len : Int) % 8).toNat = 8 - len % 8 := by omega
  have h3 : 2 ^ (len % 8) * 2 ^ (8 - len % 8) = 256 := by rw [← Nat.pow_add, show len % 8 + (8 - len % 8) = 8 by omega]
  have h4 : N % 2 ^ (len % 8) * 2 ^ (8 - len % 8) < 256 := by
    rw [← h3]; exact Nat.mul_lt_mul_of_pos_right (Nat.mod_lt _ (Nat.two_pow_pos _)) (Nat.two_pow_pos _)
  rw [e, pow_two_int, pow_two_int, ← Int.natCast_emod, ← Int.natCast_mul, IntKind.wrap_u64, IntKind.wrap_u8']
  omega

theorem row_cell_at {w : World} {g j e : Nat} {cs : List Value} (h : w.heap[g]? = some (.cells cs.toArray e (0, 0))) (hj : j < cs.length) : ∃ u, w.cell? ⟨g, j, none⟩ = some u := by
  exact ⟨cs[j], by simp [World.cell?, h, hj]⟩

set_option maxHeartbeats 2000000 in
set_option maxRecDepth 1000000 in
theorem bytes_any (B : Nat) (V : Value) (N len : Nat) (w : World) (hw : WriterAt w B V N len) (hl : len ≤ 2 ^ 50) :
    Calls Tryd.prog 46 #[.pointer (some ⟨B, 0, none⟩)] w fun e w' => e = .returned (.slice (some ⟨w.heap.size, 0, none⟩) ((len + 7) / 8) ((len + 7) / 8)) ∧
      w'.heap[w.heap.size]? = some (.cells ((big ((len + 7) / 8) (N * 2 ^ (8 * ((len + 7) / 8) - len))).map byt).toArray 5 (0, 0)) ∧ Kept [] w w' := by
  have hw' := hw
  obtain ⟨hB, hown⟩ := hw
  obtain ⟨c0, c1, c2, fz⟩ := cells_three hB
  obtain ⟨ao, cp, rfl⟩ := row_form hown
  have q0 : len % 8 < 8 := Nat.mod_lt _ (by decide)
  obtain ⟨i0, hi, hz0, hz1, hz2⟩ := info_parts Tryd.info5
  have hl2 : len ≤ 1125899906842624 := hl
  go_enter Tryd.func46, Tryd.ntmps46
  go_wp2_with (first
    | (go_at_call 69; refine (len_any B _ N len _ hw' (by omega)).mono ?_; rintro e w' ⟨rfl, q, rfl⟩)
    | (at_make; refine wpList_make_full _ rfl _ _ 32 rfl 0 5 i0 (.int .u8 0) 1 Tryd.underlying32 hi hz0 hz1 _ _ _ _ ((len + 7) / 8) rfl rfl (by omega) (by omega) ?b2 ?b3 (by omega) ?_))
  case b2 => rw [hz2]; omega
  case b3 => unfold maxLen; omega
  intro w1 ho1 hg1
  have hK1 : Kept [] w w1 := ((Kept.refl _ _).drewN q).trans (Kept.of_grown hg1)
  have hB1 := hK1.heap hB (by simp)
  have hlt := lt_of_block hB
  have ho2 := hK1.row hown (by simp)
  have hr1 := row_heap ho1 rfl
  rw [toList_madeCells_one] at hr1
  have hb1 : Below w.heap.size w w1 := hK1.below (Nat.le_refl _) (by simp)
  obtain ⟨d0, d1, d2, gz⟩ := cells_three hB1
  have hsz : (Tryd.prog.info? 5).map (·.size) = some 1 := by rw [hi]; simp [hz1]
  have hcl : ((big (len / 8) (N / 2 ^ (len % 8))).map byt).length = len / 8 := by simp [big_length]
  have hone : ∀ v ∈ (big (len / 8) (N / 2 ^ (len % 8))).map byt, v.oneCell' = true := bytes_one _
  have hpos := row_src ho2
  obtain ⟨cs, hcs⟩ : ∃ cs, cs = (big (len / 8) (N / 2 ^ (len % 8))).map byt := ⟨_, rfl⟩
  obtain ⟨cur, hcur⟩ : ∃ cur, cur = List.replicate ((len + 7) / 8) (Value.int .u8 0) := ⟨_, rfl⟩
  rw [← hcs] at hcl hone hpos
  rw [← hcur] at hr1
  have hcur2 : cur.length = (len + 7) / 8 := by rw [hcur]; simp
  have Hcs : Hid (cs = (big (len / 8) (N / 2 ^ (len % 8))).map byt) := hcs
  have Hcur : Hid (cur = List.replicate ((len + 7) / 8) (Value.int .u8 0)) := hcur
  have Hpos : Hid (0 < len / 8 → ∃ ad, ao = some ad ∧ ∀ j u, cs[j]? = some u → w1.cell? (ad.add j) = some u) := hpos
  clear hcs hcur hpos hown ho1 hg1 ho2 hB c0 c1 c2 fz hw' gz
  obtain ⟨w2, hrun, hr2, hK2⟩ := copy_run w1 w.heap.size ((len + 7) / 8) ((len + 7) / 8) ao (len / 8) cp cur cs hr1 hcur2 hcl (by omega) Hpos hone
  have hB2 := hK2.heap hB1 (by simp; omega)
  have hK02 : Kept [] w w2 := hK1.step hK2 (by simp)
  obtain ⟨d0, d1, d2, gz⟩ := cells_three hB2
  clear hB1 hr1 hb1 hsz hone hz0 hz1 hz2 hi i0 gz
  have HB2 := Hid.mk hB2
  have Hr2 := Hid.mk hr2
  have Hcl := Hid.mk hcl
  have Hcur2 := Hid.mk hcur2
  clear hB2 hr2 hcl hcur2
  by_cases hf : len % 8 = 0
  · have hf' : ¬ (0 : Int) < ((len % 8 : Nat) : Int) := by omega
    go_wp2
    go_ret
    refine ⟨rfl, ?_, hK02⟩
    rw [Hr2.out, Hcs.out, Hcur.out, bytes_even N len hf]
  · have hf' : (0 : Int) < ((len % 8 : Nat) : Int) := by omega
    have hne : B ≠ w.heap.size := by omega
    have hne2 : w.heap.size ≠ B := by omega
    have ix : ((len / 8 : Nat) : Int) < (((len + 7) / 8 : Nat) : Int) := by omega
    have hwc : ∃ u, w2.cell? ⟨w.heap.size, len / 8, none⟩ = some u := row_cell_at Hr2.out (by have := Hcl.out; have := Hcur2.out; simp; omega)
    obtain ⟨u, hu⟩ := hwc
    have hfz : w2.frozen? ⟨w.heap.size, len / 8, none⟩ = false := by have := Hr2.out; simp [World.frozen?, this]
    have et : ((len : Int) / 8).toNat = len / 8 := by omega
    have hu' : w2.cell? ⟨w.heap.size, ((len : Int) / 8).toNat, none⟩ = some u := by rw [et]; exact hu
    have hfz' : w2.frozen? ⟨w.heap.size, ((len : Int) / 8).toNat, none⟩ = false := by rw [et]; exact hfz
    clear et
    have hw8 : IntKind.i64.wrap (8 - (len : Int) % 8) = 8 - (len : Int) % 8 := by simp only [IntKind.wrap, IntKind.bits, IntKind.signed]; simp; omega
    have hs0 : (0 : Int) ≤ 8 - (len : Int) % 8 := by omega
    have ix0 : (0 : Int) ≤ (len : Int) / 8 := by omega
    have ix1 : (len : Int) / 8 < ((len : Int) + 7) / 8 := by omega
    have hs1 : 8 - (len : Int) % 8 ≤ 8 := by omega
    go_wp2
    go_region_held3 (fun w' => w'.cell? ⟨B, 0, none⟩ = some (Value.slice ao (len / 8) cp) ∧ w'.cell? ⟨B, 1, none⟩ = some (Value.int IntKind.u64 ((N % 2 ^ (len % 8) : Nat) : Int)) ∧ w'.cell? ⟨B, 2, none⟩ = some (Value.int IntKind.i64 ((len % 8 : Nat) : Int))) (go_keep) (fail)
    all_goals go_wp2
    all_goals go_ret
    refine ⟨rfl, ?_, (hK02.setCell (p := ⟨w.heap.size, ((len : Int) / 8).toNat, none⟩) (by simp) _).drew⟩
    show (World.setCell _ _ _).heap[w.heap.size]? = _
    have et : ((len : Int) / 8).toNat = len / 8 := by omega
    rw [heap_setCell_at Hr2.out, byte_last N len, et, Hcs.out, Hcur.out, List.setIfInBounds_toArray]
    have hb := bytes_odd N len hf _ rfl
    unfold byt at hb ⊢
    rw [hb]
end Go.Proofs.YtahoeodpjdbdkaaDoor

namespace Go.Proofs.YtahoeodpjdbdkaaDoor
open Go.RowKit

theorem newWriter_at (w : World) : WriterAt (w.alloc (.cells #[.slice none 0 0, .int .u64 0, .int .i64 0] 107)) w.heap.size (.slice none 0 0) 0 0 := by
  refine ⟨?_, ?_⟩
  · rw [heap_alloc_new]; simp
  · simpa [big] using World.ownsRow_nil _ 0 5 1

/-- The text that bytes are. -/
def bstr (l : List Nat) : ByteArray := strOfNums (l.map fun b : Nat => (b : Int))

theorem row_bytes {w : World} {g e : Nat} {l : List Nat} {rest : List Value} (h : w.heap[g]? = some (.cells (l.map byt ++ rest).toArray e (0, 0))) (i : Nat) (hi : i < l.length) : w.cell? ⟨g, 0 + i, none⟩ = some (.int .u8 ((l.map fun b : Nat => (b : Int)).getD i 0)) := by
  simp [World.cell?, h, byt, hi, List.getElem?_append_left]

theorem str_run {w : World} {g cap : Nat} {l : List Nat} {rest : List Value} (h : w.heap[g]? = some (.cells (l.map byt ++ rest).toArray 5 (0, 0))) :
    Sem.run Tryd.prog (convert 32 9 (.slice (some ⟨g, 0, none⟩) l.length cap)) w = .ok (.string (bstr l)) w :=
  run_convert_bytes_arg w 32 5 Tryd.underlying32 Tryd.underlying5 g 0 l.length cap (l.map fun b : Nat => (b : Int)) (by simp) (fun i hi => row_bytes h i hi) 9 Tryd.underlying9




end Go.Proofs.YtahoeodpjdbdkaaDoor
