import Derived.Laws.BitsAllLaws
import Derived.WalkKit
namespace Go.Proofs.YthhegomjipbdbaaGreatDoor
open Go Go.RowKit

/-- The lowest n bytes of X, the highest first. -/
def big : Nat → Nat → List Nat
  | 0, _ => []
  | n + 1, X => big n (X / 256) ++ [X % 256]

/-- The number that digits of 256 are, the highest first. -/
def num (l : List Nat) : Nat := l.foldl (fun a b => a * 256 + b) 0

theorem big_length (n X : Nat) : (big n X).length = n := by
  induction n generalizing X with
  | zero => rfl
  | succ n ih => simp [big, ih]

theorem big_lt (n X : Nat) : ∀ b ∈ big n X, b < 256 := by
  induction n generalizing X with
  | zero => intro b h; simp [big] at h
  | succ n ih =>
    intro b h
    simp only [big, List.mem_append, List.mem_singleton] at h
    rcases h with h | h
    · exact ih _ b h
    · subst h; exact Nat.mod_lt _ (by decide)

theorem num_snoc (l : List Nat) (b : Nat) : num (l ++ [b]) = num l * 256 + b := by simp [num]

theorem num_append (l m : List Nat) : num (l ++ m) = num l * 256 ^ m.length + num m := by
  induction m generalizing l with
  | nil => simp [num]
  | cons b m ih =>
    have h1 : l ++ b :: m = (l ++ [b]) ++ m := by simp
    have h2 : b :: m = [b] ++ m := by simp
    rw [h1, ih, h2, ih [b], num_snoc]
    simp only [num, List.length_append, List.length_cons, List.length_nil, List.foldl]
    rw [Nat.add_mul, Nat.pow_add, Nat.zero_mul]
    simp only [Nat.zero_add, Nat.pow_one]
    rw [← Nat.mul_assoc, Nat.add_assoc]

theorem num_lt (l : List Nat) (h : ∀ b ∈ l, b < 256) : num l < 256 ^ l.length := by
  induction l with
  | nil => simp [num]
  | cons b l ih =>
    have h2 : b :: l = [b] ++ l := by simp
    rw [h2, num_append]
    have hb : b < 256 := h b (by simp)
    have hl := ih (fun x hx => h x (by simp [hx]))
    simp only [List.length_append, List.length_cons, List.length_nil, Nat.zero_add, Nat.pow_add, Nat.pow_one]
    have e : num [b] = b := by simp [num]
    rw [e]
    have h3 : (b + 1) * 256 ^ l.length ≤ 256 * 256 ^ l.length := Nat.mul_le_mul_right _ hb
    rw [Nat.add_mul] at h3
    omega

theorem num_big (n X : Nat) : num (big n X) = X % 256 ^ n := by
  induction n generalizing X with
  | zero => simp [big, num, Nat.mod_one]
  | succ n ih =>
    rw [big, num_snoc, ih, Nat.pow_succ, Nat.mul_comm (256 ^ n) 256, Nat.mod_mul]
    omega

theorem big_add (a b X : Nat) : big (a + b) X = big a (X / 256 ^ b) ++ big b X := by
  induction b generalizing X with
  | zero => simp [big]
  | succ b ih =>
    rw [Nat.add_succ, big, ih, big, ← List.append_assoc, Nat.pow_succ, Nat.mul_comm (256 ^ b) 256, ← Nat.div_div_eq_div_mul]

theorem big_mod (b X : Nat) : big b (X % 256 ^ b) = big b X := by
  induction b generalizing X with
  | zero => rfl
  | succ b ih =>
    have e1 : X % 256 ^ (b + 1) / 256 = X / 256 % 256 ^ b := by
      rw [Nat.pow_succ, Nat.mul_comm (256 ^ b) 256, Nat.mod_mul_right_div_self]
    have e2 : X % 256 ^ (b + 1) % 256 = X % 256 := by
      rw [Nat.pow_succ, Nat.mod_mul_left_mod]
    rw [big, e1, e2, ih, big]

theorem big_congr (b X Y : Nat) (h : X % 256 ^ b = Y % 256 ^ b) : big b X = big b Y := by
  rw [← big_mod b X, h, big_mod]

theorem pow256 (n : Nat) : 256 ^ n = 2 ^ (8 * n) := by rw [Nat.pow_mul]

/-- One step of the writer's bytes. -/
theorem put_bytes (N v few k n : Nat) (hv : v < 2 ^ k) :
    big n (N / 2 ^ few) ++ big ((few + k) / 8) ((N % 2 ^ few * 2 ^ k + v) / 2 ^ ((few + k) % 8)) = big (n + (few + k) / 8) ((N * 2 ^ k + v) / 2 ^ ((few + k) % 8)) := by
  rw [big_add]
  have hs : (few + k) % 8 + 8 * ((few + k) / 8) = few + k := Nat.mod_add_div _ _
  generalize hf : (few + k) % 8 = f at *
  generalize hw : (few + k) / 8 = wh at *
  have hN : N * 2 ^ k + v = N / 2 ^ few * 2 ^ (few + k) + (N % 2 ^ few * 2 ^ k + v) := by
    have := Nat.div_add_mod N (2 ^ few)
    rw [Nat.pow_add, ← Nat.mul_assoc, ← Nat.add_assoc, ← Nat.add_mul, Nat.mul_comm (N / 2 ^ few), this]
  have hlt : N % 2 ^ few * 2 ^ k + v < 2 ^ (few + k) := by
    have h1 : N % 2 ^ few < 2 ^ few := Nat.mod_lt _ (Nat.two_pow_pos _)
    have h2 : (N % 2 ^ few + 1) * 2 ^ k ≤ 2 ^ few * 2 ^ k := Nat.mul_le_mul_right _ h1
    rw [Nat.add_mul] at h2
    rw [Nat.pow_add]; omega
  have hd : (N * 2 ^ k + v) / 2 ^ f = N / 2 ^ few * 256 ^ wh + (N % 2 ^ few * 2 ^ k + v) / 2 ^ f := by
    rw [hN, pow256, ← hs, Nat.pow_add, ← Nat.mul_assoc, Nat.mul_right_comm, Nat.add_comm, Nat.add_mul_div_right _ _ (Nat.two_pow_pos _), Nat.add_comm]
  have hq : (N % 2 ^ few * 2 ^ k + v) / 2 ^ f < 256 ^ wh := by
    rw [Nat.div_lt_iff_lt_mul (Nat.two_pow_pos _), pow256, ← Nat.pow_add, Nat.add_comm (8 * wh) f, hs]; exact hlt
  rw [hd]
  congr 1
  · congr 1
    rw [Nat.add_comm, Nat.add_mul_div_right _ _ (Nat.pow_pos (by decide)), Nat.div_eq_of_lt hq, Nat.zero_add]
  · apply big_congr
    rw [Nat.mul_add_mod_self_right]

/-- One step of the writer's last bits. -/
theorem put_held (N v few k : Nat) (_hv : v < 2 ^ k) :
    (N % 2 ^ few * 2 ^ k + v) % 2 ^ ((few + k) % 8) = (N * 2 ^ k + v) % 2 ^ ((few + k) % 8) := by
  have hs : (few + k) % 8 + 8 * ((few + k) / 8) = few + k := Nat.mod_add_div _ _
  generalize (few + k) % 8 = f at *
  generalize (few + k) / 8 = wh at *
  have hN : N * 2 ^ k + v = N / 2 ^ few * 2 ^ (few + k) + (N % 2 ^ few * 2 ^ k + v) := by
    have := Nat.div_add_mod N (2 ^ few)
    rw [Nat.pow_add, ← Nat.mul_assoc, ← Nat.add_assoc, ← Nat.add_mul, Nat.mul_comm (N / 2 ^ few), this]
  rw [hN, ← hs, Nat.pow_add, Nat.mul_comm (2 ^ f), ← Nat.mul_assoc, Nat.mul_add_mod_self_right]

end Go.Proofs.YthhegomjipbdbaaGreatDoor
