import Derived.Test.YtahoeodpjdbdkabDoorNZ
import Derived.Lib.Strings
import Derived.Lib.Slices
import Derived.Lib.Small
import Derived.Lib.Walk
import Derived.Lib.BitFns
namespace Go.Proofs.YtahoeodpjdbdkabDoor
open Go.RowKit

theorem tab_int (x : Int) (h0 : 0 ≤ x) (h : x.toNat < Lib.len8tab.size) : wrap64 ((Lib.len8tab[x.toNat]'h).toNat : Int) = (Lib.bitLen x.toNat : Int) ∧ Lib.bitLen x.toNat ≤ 8 := by
  have h2 : x.toNat < 256 := by rw [← Lib.len8tab_size]; exact h
  have hl : Lib.bitLen x.toNat ≤ 8 := Lib.bitLen_le8 ⟨x.toNat, h2⟩
  have e := Lib.len8_of x h0 (by omega)
  unfold Lib.len8 at e
  rw [getElem?_pos Lib.len8tab x.toNat h, Option.getD_some] at e
  refine ⟨?_, hl⟩
  rw [e]
  unfold wrap64
  omega

set_option maxHeartbeats 4000000 in
set_option maxRecDepth 100000 in
theorem len32_any (x : Int) (w : World) (h0 : 0 ≤ x) (h1 : x ≤ 4294967295) :
    Calls Tryd.prog 95 #[.int .u32 x] w fun e w' => e = .returned (.int .i64 (Lib.bitLen x.toNat)) ∧ w' = w := by
  have hsz := Lib.len8tab_size
  by_cases c1 : x < 65536
  · by_cases c2 : x < 256
    · go_enter Tryd.func95, Tryd.ntmps95
      go_wp2
      go_ret
      refine ⟨congrArg Ending.returned (congrArg (Value.int IntKind.i64) ?_), rfl⟩
      have t := tab_int (x) (by omega) (by rw [Lib.len8tab_size]; omega)
      rw [t.1]
      unfold wrap64
      omega
    · go_enter Tryd.func95, Tryd.ntmps95
      go_wp2
      go_ret
      refine ⟨congrArg Ending.returned (congrArg (Value.int IntKind.i64) ?_), rfl⟩
      have t := tab_int (x / 256) (by omega) (by rw [Lib.len8tab_size]; omega)
      rw [t.1]
      have s := Lib.bitLen_shift8 x.toNat (by omega) (by omega)
      have e : (x / 256).toNat = x.toNat / 256 := by omega
      have l := t.2
      rw [e] at l ⊢
      unfold wrap64
      omega
  · by_cases c2 : x / 65536 < 256
    · go_enter Tryd.func95, Tryd.ntmps95
      go_wp2
      go_ret
      refine ⟨congrArg Ending.returned (congrArg (Value.int IntKind.i64) ?_), rfl⟩
      have t := tab_int (x / 65536) (by omega) (by rw [Lib.len8tab_size]; omega)
      rw [t.1]
      have s := Lib.bitLen_shift16 x.toNat (by omega) (by omega)
      have e : (x / 65536).toNat = x.toNat / 65536 := by omega
      have l := t.2
      rw [e] at l ⊢
      unfold wrap64
      omega
    · go_enter Tryd.func95, Tryd.ntmps95
      go_wp2
      go_ret
      refine ⟨congrArg Ending.returned (congrArg (Value.int IntKind.i64) ?_), rfl⟩
      have t := tab_int (x / 65536 / 256) (by omega) (by rw [Lib.len8tab_size]; omega)
      rw [t.1]
      have s := Lib.bitLen_shift24 x.toNat (by omega) (by omega)
      have e : (x / 65536 / 256).toNat = x.toNat / 16777216 := by omega
      have l := t.2
      rw [e] at l ⊢
      unfold wrap64
      omega

theorem nextN_lt (l : List Nat) (t n : Nat) : nextN l t n < 2 ^ n := Nat.mod_lt _ (Nat.two_pow_pos _)

/-- Two numbers taken one behind the other. -/
theorem nextN_join (l : List Nat) (t a b : Nat) (h : t + a + b ≤ 8 * l.length) : nextN l t (a + b) = nextN l t a * 2 ^ b + nextN l (t + a) b := by
  unfold nextN
  have e1 : 8 * l.length - (t + a) = (8 * l.length - (t + (a + b))) + b := by omega
  have e2 : t + a + b = t + (a + b) := by omega
  have e3 : num l / 2 ^ (8 * l.length - (t + (a + b)) + b) = num l / 2 ^ (8 * l.length - (t + (a + b))) / 2 ^ b := by rw [Nat.pow_add, ← Nat.div_div_eq_div_mul]
  rw [e1, e2, e3]
  generalize num l / 2 ^ (8 * l.length - (t + (a + b))) = Y
  rw [Nat.add_comm a b, Nat.pow_add, Nat.mod_mul, Nat.mul_comm (2 ^ b), Nat.add_comm]

/-- One bit out of a number. -/
theorem nextN_bit (l : List Nat) (t m i : Nat) (hi : i < m) (h : t + m ≤ 8 * l.length) : nextN l (t + i) 1 = nextN l t m / 2 ^ (m - 1 - i) % 2 := by
  have h1 := nextN_join l t i (m - i) (by omega)
  have h2 := nextN_join l (t + i) 1 (m - i - 1) (by omega)
  rw [show i + (m - i) = m by omega] at h1
  rw [show 1 + (m - i - 1) = m - i by omega] at h2
  have l3 := nextN_lt l (t + i + 1) (m - i - 1)
  have l4 := nextN_lt l (t + i) 1
  have e : m - i = (m - 1 - i) + 1 := by omega
  have e' : m - i - 1 = m - 1 - i := by omega
  rw [e'] at h2 l3
  rw [h1, h2, e, Nat.pow_succ]
  generalize nextN l t i = A at *
  generalize nextN l (t + i) 1 = Bt at *
  generalize nextN l (t + i + 1) (m - 1 - i) = C at *
  generalize 2 ^ (m - 1 - i) = P at *
  have e3 : A * (P * 2) + (Bt * P + C) = (A * 2 + Bt) * P + C := by rw [Nat.add_mul, Nat.mul_assoc, Nat.mul_comm 2 P, Nat.add_assoc]
  rw [e3, Nat.add_comm, Nat.add_mul_div_right _ _ (by omega), Nat.div_eq_of_lt l3, Nat.zero_add]
  omega

theorem bitLen_zero : Lib.bitLen 0 = 0 := by decide
theorem bitLen_bounds (x : Nat) (h : x < 2 ^ 64) (h0 : x ≠ 0) : 1 ≤ Lib.bitLen x ∧ 2 ^ (Lib.bitLen x - 1) ≤ x ∧ x < 2 ^ Lib.bitLen x := by
  induction x using Nat.strongRecOn with
  | _ x ih =>
    have hh := Lib.bitLen_half x h0 h
    by_cases h1 : x / 2 = 0
    · have : x = 1 := by omega
      subst this
      decide
    · have := ih (x / 2) (by omega) (by omega) h1
      rw [hh]
      have e : 1 + Lib.bitLen (x / 2) - 1 = (Lib.bitLen (x / 2) - 1) + 1 := by omega
      rw [e, Nat.pow_succ, Nat.add_comm 1, Nat.pow_succ]
      omega

/-- What Get comes to. -/
def GetRes (l : List Nat) (t n : Nat) (X E : Int) (t' : Nat) : Prop :=
  (t + n ≤ 8 * l.length ∧ X = (nextN l t n : Int) ∧ E = 0 ∧ t' = t + n) ∨ (8 * l.length < t + n ∧ X = 0 ∧ E = 13 ∧ t' = t)

theorem getRes_ex (l : List Nat) (t n : Nat) : ∃ X E t', GetRes l t n X E t' := by
  by_cases h : t + n ≤ 8 * l.length
  · exact ⟨_, _, _, .inl ⟨h, rfl, rfl, rfl⟩⟩
  · exact ⟨_, _, _, .inr ⟨by omega, rfl, rfl, rfl⟩⟩

theorem get_res (B g : Nat) (l : List Nat) (t : Nat) (n X E : Int) (t' : Nat) (w : World) (hw : ReaderAt w B g l t) (h0 : 0 ≤ n) (h1 : n ≤ 32) (h : GetRes l t n.toNat X E t') :
    Calls Tryd.prog 34 #[.pointer (some ⟨B, 0, none⟩), .int .i64 n] w fun e w' => e = .returned (.tuple #[.int .u32 X, .int .i64 E]) ∧ ReaderAt w' B g l t' ∧ Kept [B] w w' := by
  rcases h with ⟨h2, rfl, rfl, rfl⟩ | ⟨h2, rfl, rfl, rfl⟩
  · exact get_any B g l t n w hw h0 h1 (by omega)
  · refine (get_end B g l _ n w hw h0 h1 (by omega)).mono ?_
    rintro e w' ⟨rfl, q, rfl⟩
    exact ⟨rfl, reader_drewN hw q, (Kept.refl _ _).drewN q⟩

/-- What Zeros comes to. -/
def ZerosRes (l : List Nat) (t n : Nat) (Z E : Int) (t' : Nat) : Prop :=
  (∃ j, j < n ∧ t + j < 8 * l.length ∧ (∀ i, i < j → nextN l (t + i) 1 = 0) ∧ nextN l (t + j) 1 = 1 ∧ Z = (j : Int) ∧ E = 0 ∧ t' = t + j + 1) ∨
  (t + n ≤ 8 * l.length ∧ (∀ i, i < n → nextN l (t + i) 1 = 0) ∧ Z = (n : Int) ∧ E = 0 ∧ t' = t + n) ∨
  (8 * l.length < t + n ∧ (∀ i, t + i < 8 * l.length → nextN l (t + i) 1 = 0) ∧ Z = 0 ∧ E = 13 ∧ t' = t)

/-- The noughts ahead of the first one of m bits. -/
theorem lead (l : List Nat) (t m : Nat) (hm : m ≤ 32) (h : t + m ≤ 8 * l.length) (hx : nextN l t m ≠ 0) :
    Lib.bitLen (nextN l t m) ≤ m ∧ 1 ≤ Lib.bitLen (nextN l t m) ∧ (∀ i, i < m - Lib.bitLen (nextN l t m) → nextN l (t + i) 1 = 0) ∧ nextN l (t + (m - Lib.bitLen (nextN l t m))) 1 = 1 := by
  have hlt := nextN_lt l t m
  have h64 : nextN l t m < 2 ^ 64 := Nat.lt_of_lt_of_le hlt (Nat.pow_le_pow_right (by decide) (by omega))
  obtain ⟨b1, b2, b3⟩ := bitLen_bounds _ h64 hx
  have hle := Lib.bitLen_le (nextN l t m) m (by omega) hlt
  refine ⟨hle, b1, fun i hi => ?_, ?_⟩
  · rw [nextN_bit l t m i (by omega) h, Nat.div_eq_of_lt]
    exact Nat.lt_of_lt_of_le b3 (Nat.pow_le_pow_right (by decide) (by omega))
  · rw [nextN_bit l t m _ (by omega) h, show m - 1 - (m - Lib.bitLen (nextN l t m)) = Lib.bitLen (nextN l t m) - 1 by omega]
    have e : 2 ^ Lib.bitLen (nextN l t m) = 2 * 2 ^ (Lib.bitLen (nextN l t m) - 1) := by
      rw [← Nat.pow_succ']; congr 1; omega
    have : nextN l t m / 2 ^ (Lib.bitLen (nextN l t m) - 1) = 1 := by
      rw [Nat.div_eq_of_lt_le] <;> omega
    rw [this]

theorem lead_none (l : List Nat) (t m : Nat) (h : t + m ≤ 8 * l.length) (hx : nextN l t m = 0) : ∀ i, i < m → nextN l (t + i) 1 = 0 := by
  intro i hi
  rw [nextN_bit l t m i hi h, hx]
  simp

theorem len32_at (x : Int) (b : Nat) (w : World) (h0 : 0 ≤ x) (h1 : x ≤ 4294967295) (hb : b = Lib.bitLen x.toNat) :
    Calls Tryd.prog 95 #[.int .u32 x] w fun e w' => e = .returned (.int .i64 (b : Int)) ∧ w' = w := by
  subst hb
  exact len32_any x w h0 h1

theorem next_u32 (l : List Nat) (t k : Nat) (h : k ≤ 32) : (nextN l t k : Int) ≤ 4294967295 := by
  have h1 := nextN_lt l t k
  have h2 : (2 : Nat) ^ k ≤ 2 ^ 32 := Nat.pow_le_pow_right (by decide) h
  have h3 : (2 : Nat) ^ 32 = 4294967296 := by decide
  have h4 : nextN l t k < 4294967296 := by rw [← h3]; exact Nat.lt_of_lt_of_le h1 h2
  omega

set_option maxHeartbeats 2000000 in
set_option maxRecDepth 100000 in
theorem zeros_raw (B g : Nat) (l : List Nat) (t : Nat) (n : Int) (m : Int) (b : Nat) (w : World) (hw : ReaderAt w B g l t) (h0 : 0 ≤ n) (h1 : n ≤ 32) (hm : m = min n (8 * (l.length : Int) - (t : Int)))
    (hb : b = Lib.bitLen (nextN l t m.toNat)) (hbm : (b : Int) ≤ m) :
    Calls Tryd.prog 93 #[.pointer (some ⟨B, 0, none⟩), .int .i64 n] w fun e w' =>
      (1 ≤ b → e = .returned (.tuple #[.int .i64 (m - (b : Int)), .int .i64 0]) ∧ ReaderAt w' B g l (t + (m.toNat - b) + 1) ∧ Kept [B] w w') ∧
      (b = 0 → m < n → e = .returned (.tuple #[.int .i64 0, .int .i64 13]) ∧ ReaderAt w' B g l t ∧ Kept [B] w w') ∧
      (b = 0 → m = n → e = .returned (.tuple #[.int .i64 m, .int .i64 0]) ∧ ReaderAt w' B g l (t + m.toNat) ∧ Kept [B] w w') := by
  have h' : decide (n < 0) = false := by simp; omega
  have HW := Hid.mk hw
  obtain ⟨c0, c1, fz⟩ := cells_two hw.1
  have f1 := fz 1
  have hl := hw.2.2.2.2
  have ht := hw.2.2.2.1
  clear hw fz
  have m0 : 0 ≤ m := by omega
  have m1 : m ≤ 32 := by omega
  have m2 : (t : Int) + m ≤ 8 * (l.length : Int) := by omega
  have m3 : m ≤ n := by omega
  have hm' : min n (8 * (l.length : Int) - (t : Int)) = m := hm.symm
  have Hb : Hid (b = Lib.bitLen ((nextN l t m.toNat : Int)).toNat) := by rw [Int.toNat_natCast]; exact hb
  have Hu := Hid.mk (next_u32 l t m.toNat (by omega))
  clear hm hb
  by_cases hb1 : 1 ≤ b
  · have k1 : m - (b : Int) < m := by omega
    go_enter Tryd.func93, Tryd.ntmps93
    go_wp2_with (first
      | (go_at_call 46; refine (left_any B g l t _ HW.out).mono ?_; rintro e w1 ⟨rfl, q, rfl⟩)
      | (go_at_call 47; refine (next_any B g l t m _ (reader_drewN HW.out _) m0 m1 m2).mono ?_; rintro e w2 ⟨rfl, q2, rfl⟩)
      | (go_at_call 95; refine (len32_at _ b _ (by omega) Hu.out Hb.out).mono ?_; rintro e w3 ⟨rfl, rfl⟩))
    go_ret2
    refine ⟨fun _ => ⟨rfl, ?_, ((Kept.refl _ _).drewN _).setCell (p := ⟨B, 1, none⟩) (by simp) _⟩, fun h => by omega, fun h => by omega⟩
    have e : (t : Int) + (m - (b : Int) + 1) = ((t + (m.toNat - b) + 1 : Nat) : Int) := by omega
    rw [e]
    exact heap_setCell_two (reader_drewN HW.out _) _ (by omega)
  · obtain rfl : b = 0 := by omega
    by_cases hmn : m < n
    · have k2 : ¬ m = n := by omega
      go_enter Tryd.func93, Tryd.ntmps93
      go_wp2_with (first
        | (go_at_call 46; refine (left_any B g l t _ HW.out).mono ?_; rintro e w1 ⟨rfl, q, rfl⟩)
        | (go_at_call 47; refine (next_any B g l t m _ (reader_drewN HW.out _) m0 m1 m2).mono ?_; rintro e w2 ⟨rfl, q2, rfl⟩)
        | (go_at_call 95; refine (len32_at _ 0 _ (by omega) Hu.out Hb.out).mono ?_; rintro e w3 ⟨rfl, rfl⟩))
      go_ret2
      exact ⟨fun h => by omega, fun _ _ => ⟨rfl, reader_drewN HW.out _, (Kept.refl _ _).drewN _⟩, fun _ h => by omega⟩
    · go_enter Tryd.func93, Tryd.ntmps93
      go_wp2_with (first
        | (go_at_call 46; refine (left_any B g l t _ HW.out).mono ?_; rintro e w1 ⟨rfl, q, rfl⟩)
        | (go_at_call 47; refine (next_any B g l t m _ (reader_drewN HW.out _) m0 m1 m2).mono ?_; rintro e w2 ⟨rfl, q2, rfl⟩)
        | (go_at_call 95; refine (len32_at _ 0 _ (by omega) Hu.out Hb.out).mono ?_; rintro e w3 ⟨rfl, rfl⟩))
      go_ret2
      refine ⟨fun h => by omega, fun _ h => by omega, fun _ _ => ⟨?_, ?_, ((Kept.refl _ _).drewN _).setCell (p := ⟨B, 1, none⟩) (by simp) _⟩⟩
      · rfl
      · have e : (t : Int) + m = ((t + m.toNat : Nat) : Int) := by omega
        rw [e]
        exact heap_setCell_two (reader_drewN HW.out _) _ (by omega)

theorem zeros_res (l : List Nat) (t : Nat) (n : Int) (ht : t ≤ 8 * l.length) (h0 : 0 ≤ n) (h1 : n ≤ 32) : ∃ (Z E : Int) (t' : Nat), ZerosRes l t n.toNat Z E t' ∧
    ∀ (B g : Nat) (w : World), ReaderAt w B g l t → Calls Tryd.prog 93 #[.pointer (some ⟨B, 0, none⟩), .int .i64 n] w fun e w' => e = .returned (.tuple #[.int .i64 Z, .int .i64 E]) ∧ ReaderAt w' B g l t' ∧ Kept [B] w w' := by
  obtain ⟨m, hm⟩ : ∃ m : Int, m = min n (8 * (l.length : Int) - (t : Int)) := ⟨_, rfl⟩
  have m2 : t + m.toNat ≤ 8 * l.length := by omega
  by_cases hx : nextN l t m.toNat = 0
  · have hz := lead_none l t m.toNat m2 hx
    have hb : 0 = Lib.bitLen (nextN l t m.toNat) := by rw [hx]; rfl
    by_cases hmn : m < n
    · refine ⟨0, 13, t, .inr (.inr ⟨by omega, fun i hi => hz i (by omega), rfl, rfl, rfl⟩), fun B g w hw => ?_⟩
      exact (zeros_raw B g l t n m 0 w hw h0 h1 hm hb (by omega)).mono fun e w' h => h.2.1 rfl hmn
    · have hmn2 : m = n := by omega
      refine ⟨m, 0, t + m.toNat, .inr (.inl ⟨by omega, fun i hi => hz i (by omega), by omega, rfl, by omega⟩), fun B g w hw => ?_⟩
      exact (zeros_raw B g l t n m 0 w hw h0 h1 hm hb (by omega)).mono fun e w' h => h.2.2 rfl hmn2
  · obtain ⟨b1, b2, b3, b4⟩ := lead l t m.toNat (by omega) m2 hx
    generalize hbb : Lib.bitLen (nextN l t m.toNat) = b at *
    refine ⟨m - (b : Int), 0, t + (m.toNat - b) + 1, .inl ⟨m.toNat - b, by omega, by omega, b3, b4, by omega, rfl, rfl⟩, fun B g w hw => ?_⟩
    exact (zeros_raw B g l t n m b w hw h0 h1 hm hbb.symm (by omega)).mono fun e w' h => h.1 b2
end Go.Proofs.YtahoeodpjdbdkabDoor
