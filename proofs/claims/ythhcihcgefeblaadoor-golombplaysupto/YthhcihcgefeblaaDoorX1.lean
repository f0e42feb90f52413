import Derived.Test.YthhcihcgefeblaaDoorGc
import Derived.Deep.RegionHeld3
import Derived.Deep.RegionLaw
namespace Go.Proofs.YthhcihcgefeblaaDoor
open Go.RowKit

/-- A number in n binary digits, the highest first. -/
def bin : Nat → Nat → List Nat
  | 0, _ => []
  | n + 1, X => bin n (X / 2) ++ [X % 2]

theorem bin_length (n X : Nat) : (bin n X).length = n := by
  induction n generalizing X with
  | zero => rfl
  | succ n ih => simp [bin, ih]

theorem bin_getD (n X k : Nat) (h : k < n) : (bin n X).getD k 0 = X / 2 ^ (n - 1 - k) % 2 := by
  induction n generalizing X with
  | zero => omega
  | succ n ih =>
    by_cases hk : k < n
    · rw [bin, List.getD_eq_getElem?_getD, List.getElem?_append_left (by rw [bin_length]; exact hk), ← List.getD_eq_getElem?_getD, ih (X / 2) hk, Nat.div_div_eq_div_mul, ← Nat.pow_succ', show (n - 1 - k).succ = n + 1 - 1 - k by omega]
    · obtain rfl : k = n := by omega
      rw [bin, List.getD_eq_getElem?_getD, List.getElem?_append_right (by rw [bin_length]; omega), bin_length]
      simp

theorem bin_add (a b X : Nat) : bin (a + b) X = bin a (X / 2 ^ b) ++ bin b X := by
  induction b generalizing X with
  | zero => simp [bin]
  | succ b ih =>
    rw [← Nat.add_assoc, bin, ih, bin, ← List.append_assoc, Nat.div_div_eq_div_mul, ← Nat.pow_succ']

theorem bin_mod (b X : Nat) : bin b (X % 2 ^ b) = bin b X := by
  induction b generalizing X with
  | zero => rfl
  | succ b ih =>
    rw [bin, bin, ← ih (X / 2)]
    have e : X % 2 ^ (b + 1) / 2 = X / 2 % 2 ^ b := by
      rw [Nat.pow_succ, Nat.mul_comm, Nat.mod_mul_right_div_self]
    have e2 : X % 2 ^ (b + 1) % 2 = X % 2 := Nat.mod_mod_of_dvd _ ⟨2 ^ b, by rw [Nat.pow_succ, Nat.mul_comm]⟩
    rw [e, e2]

/-- What is laid behind what stands. -/
theorem bin_put (len n N v : Nat) (hv : v < 2 ^ n) : bin (len + n) (N * 2 ^ n + v) = bin len N ++ bin n v := by
  rw [bin_add]
  have h1 : (N * 2 ^ n + v) / 2 ^ n = N := by
    rw [Nat.mul_comm, Nat.mul_add_div (Nat.two_pow_pos n), Nat.div_eq_of_lt hv]; omega
  have h2 : bin n (N * 2 ^ n + v) = bin n v := by
    rw [← bin_mod n (N * 2 ^ n + v), Nat.mul_comm, Nat.mul_add_mod, bin_mod]
  rw [h1, h2]

theorem bin_byts (n X : Nat) : ∀ b ∈ bin n X, b < 2 := by
  induction n generalizing X with
  | zero => intro b h; simp [bin] at h
  | succ n ih =>
    intro b h
    rw [bin, List.mem_append] at h
    rcases h with h | h
    · exact ih _ b h
    · simp at h; omega

theorem pow_step (j : Nat) (n : Int) (x : Int) (hj : (j : Int) < n) (hn : n ≤ 63) (hx : x = ((2 ^ j : Nat) : Int)) : 1 ≤ x ∧ 2 * x < 18446744073709551616 ∧ 2 * x = ((2 ^ (j + 1) : Nat) : Int) := by
  have h1 : (2 : Nat) ^ (j + 1) ≤ 2 ^ 63 := Nat.pow_le_pow_right (by decide) (by omega)
  have h2 := Nat.two_pow_pos j
  rw [Nat.pow_succ] at h1 ⊢
  generalize (2 : Nat) ^ j = y at *
  refine ⟨by omega, by omega, by omega⟩



/-- The document's writer: its bits. -/
def RefW (w : World) (B : Nat) (V : Value) (bs : List Nat) : Prop :=
  w.heap[B]? = some (.cells #[V] 101 (0, 0)) ∧ w.ownsRow 0 5 1 V bs.length (bs.map byt)

/-- append onto what the call owns, as one step of a region that draws. -/
theorem step_own {P : Program} (w : World) {ops : Array Oper} {o : Oper} {a : Act} {K : Act → World → Prop} {Q : Exit → Act → World → Prop} {E : Prop} (hgd : o.guard = none) (s x : Operand) (t : TypeId)
    (ho : o.op = .call { callee := .builtin .append, args := #[s, x], argTypes := #[t, t] })
    (base : Nat) (e : TypeId) (i : TypeInfo) (z : Value) (size bytes : Nat) (ht : P.underlying t = some (.slice e)) (hi : P.info? e = some i) (hz : i.zero = some z)
    (hsize : i.size = size) (hby : i.bytes = bytes) (hzs : z.cells.size = size) (hsz : 0 < size)
    (v : Value) (n : Nat) (xs : List Value) (hs : a.eval s = v) (hown : w.ownsRow base e size v n xs)
    (ad : Addr) (m c : Nat) (news : List Value) (hx : a.eval x = .slice (some ad) m c) (hl : news.length = m * size) (hnews : ∀ j u, news[j]? = some u → w.cell? (ad.add j) = some u) (h1 : ∀ u ∈ news, u.oneCell' = true)
    (h63 : n + m ≤ maxLen) (hbytes : (n + m) * bytes ≤ 140737488355328) (hbase : base ≤ w.heap.size)
    (h : ∀ ao cap w', w'.ownsRow base e size (.slice ao (n + m) cap) (n + m) (xs ++ news) → w.grownBy w' v.ownBlock → ((Value.slice ao (n + m) cap).ownBlock = v.ownBlock ∨ (Value.slice ao (n + m) cap).ownBlock = some w.heap.size) → K (a.put o.dst (.slice ao (n + m) cap)) w') :
    if Region.wanted o (yielded ops a.tmps) = true then Oper.wp P o a w K Q else E := by
  have hw : Region.wanted o (yielded ops a.tmps) = true := by simp [Region.wanted, hgd]
  rw [if_pos hw]
  obtain ⟨v', w', hr, h2, h3, _, h5⟩ := run_append_own_at (P := P) w base t o.type e i z size bytes ht hi hz hsize hby hzs hsz v n xs hown ad m c news hl hnews h1 h63 hbytes hbase
  obtain ⟨ao, cap, rfl⟩ := row_form h2
  unfold Oper.wp execOp
  simp only [ho, resolve, invoke, builtin, Sem.run_bind, Sem.run_pure, Result.andThen_ok, List.map_toArray, List.map_cons, List.map_nil, hs, hx, hr]
  exact h ao cap w' h2 h3 h5

theorem own_ne2 {w : World} {B n : Nat} {V : Value} {xs : List Value} {cs : Array Value} {t e : TypeId} (h : w.heap[B]? = some (.cells cs t (0, 0))) (ht : t ≠ e) (ho : w.ownsRow 0 e 1 V n xs) : V.ownBlock ≠ some B := by
  intro he
  rcases ho.2 with ⟨rfl, _⟩ | ⟨g, cap, cur, rfl, _, hg, _⟩
  · simp [Value.ownBlock] at he
  · simp [Value.ownBlock] at he
    subst he
    rw [hg] at h
    simp at h
    exact ht h.2.symm

theorem cells_one' {w : World} {B : Nat} {a : Value} {t : TypeId} (h : w.heap[B]? = some (.cells #[a] t (0, 0))) : w.cell? ⟨B, 0, none⟩ = some a ∧ w.frozen? ⟨B, 0, none⟩ = false := by
  refine ⟨?_, ?_⟩ <;> simp [World.cell?, World.frozen?, h]

set_option maxHeartbeats 400000 in
theorem refNewWriter_any (w : World) :
    Calls Tryd.prog 33 #[] w fun e w' => e = .returned (.pointer (some ⟨w.heap.size, 0, none⟩)) ∧ w' = w.alloc (.cells #[.slice none 0 0] 101) := by
  go_enter Tryd.func33, Tryd.ntmps33
  go_wp2
  go_ret
  exact ⟨rfl, rfl⟩

set_option maxHeartbeats 400000 in
theorem refLen_any (B : Nat) (V : Value) (bs : List Nat) (w : World) (h : RefW w B V bs) :
    Calls Tryd.prog 47 #[.pointer (some ⟨B, 0, none⟩)] w fun e w' => e = .returned (.int .i64 (bs.length : Int)) ∧ w' = w := by
  obtain ⟨c0, c1⟩ := cells_one' h.1
  obtain ⟨ao, cap, rfl⟩ := row_form h.2
  go_enter Tryd.func47, Tryd.ntmps47
  go_wp2
  go_ret
  exact ⟨rfl, rfl⟩




end Go.Proofs.YthhcihcgefeblaaDoor
