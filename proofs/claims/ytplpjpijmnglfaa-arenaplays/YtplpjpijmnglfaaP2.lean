import Derived.Test.YtplpjpijmnglfaaP1
namespace Go.Proofs.Ytplpjpijmnglfaa
open Go.RowKit

/-- What is given behind giving; the peak behind it. -/
def gvG (m g n s : Int) : Int := if gvE m g n s = 0 then g + n * s else g
def gvT (m g t n s : Int) : Int := if gvE m g n s = 0 then mx t (g + n * s) else t

set_option maxHeartbeats 4000000 in
theorem take1 (P : Nat) (m g t n : Int) (w : World) (h : Ar 60 w P m g t) (G : Gm m g t) :
    Calls Try.prog 26 #[.pointer (some ⟨P, 0, none⟩), .int .i64 n, .int .i64 1] w fun e w' => e = .returned (.int .i64 (gvE m g n 1)) ∧ Ar 60 w' P m (gvG m g n 1) (gvT m g t n 1) ∧ Kept [P] w w' := by
  obtain ⟨⟨c0, c1, c2⟩, f0, f1, f2⟩ := three h
  have HA := Hid.mk h
  obtain ⟨g0, g1, g2, g3⟩ := G
  clear h
  by_cases h0 : n < 0
  · have E : gvE m g n 1 = 1 := if_pos h0
    have E1 : gvG m g n 1 = g := by unfold gvG; rw [if_neg (by omega)]
    have E2 : gvT m g t n 1 = t := by unfold gvT; rw [if_neg (by omega)]
    rw [E, E1, E2]
    go_enter Try.func26, Try.ntmps26
    go_wp2
    go_ret
    exact ⟨rfl, HA.out, Kept.refl _ _⟩
  · by_cases h1 : (m - g) / 1 < n
    · have E : gvE m g n 1 = 111 := by unfold gvE; rw [if_neg h0, if_pos h1]
      have E1 : gvG m g n 1 = g := by unfold gvG; rw [if_neg (by omega)]
      have E2 : gvT m g t n 1 = t := by unfold gvT; rw [if_neg (by omega)]
      rw [E, E1, E2]
      clear E E1 E2
      go_enter Try.func26, Try.ntmps26
      go_wp2
      go_quiet (fail)
      go_wp2
      go_ret
      exact ⟨rfl, HA.out.drewN _, (Kept.refl _ _).drewN _⟩
    · have E : gvE m g n 1 = 0 := by unfold gvE; rw [if_neg h0, if_neg h1]
      have E1 : gvG m g n 1 = g + n := by unfold gvG; rw [if_pos E]; omega
      have E2 : gvT m g t n 1 = mx t (g + n) := by unfold gvT; rw [if_pos E]; congr 1; omega
      rw [E, E1, E2]
      clear E E1 E2
      obtain ⟨c, rfl⟩ : ∃ c : Nat, n = (c : Int) := ⟨n.toNat, by omega⟩
      have hc : (c : Int) ≤ m - g := by omega
      clear h0
      go_enter Try.func26, Try.ntmps26
      go_wp2
      go_quiet (fail)
      go_wp2
      obtain ⟨w1, hw1, HA1, HK1⟩ : ∃ w1, (w.drewN nq).setCell ⟨P, 1, none⟩ (.int .i64 (g + (c : Int))) = w1 ∧ Hid (Ar 60 w1 P m (g + (c : Int)) t) ∧ Hid (Kept [P] w w1) :=
        ⟨_, rfl, Hid.mk (set1 _ (HA.out.drewN nq)).1, Hid.mk (((Kept.refl [P] w).drewN nq).trans (set1 _ (HA.out.drewN nq)).2)⟩
      rw [hw1]
      clear hw1 c0 c1 c2 f0 f1 f2
      obtain ⟨⟨c0, c1, c2⟩, f0, f1, f2⟩ := three HA1.out
      have hmx : (if g + (c : Int) > t then g + (c : Int) else t) = mx t (g + (c : Int)) := rfl
      go_region_law (fail)
      all_goals
        obtain ⟨w2, hw2, HA2, HK2⟩ : ∃ w2, (w1.setCell ⟨P, 2, none⟩ (.int .i64 (mx t (g + (c : Int))))).drew = w2 ∧ Hid (Ar 60 w2 P m (g + (c : Int)) (mx t (g + (c : Int)))) ∧ Hid (Kept [P] w1 w2) :=
          ⟨_, rfl, Hid.mk (set2 _ HA1.out).1, Hid.mk (set2 _ HA1.out).2.drew⟩
        rw [hw2]
        clear hw2 c0 c1 c2 f0 f1 f2 hmx
        go_wp2
        go_ret
        exact ⟨rfl, HA2.out, HK1.out.trans HK2.out⟩

set_option maxHeartbeats 4000000 in
theorem take2 (P : Nat) (m g t n : Int) (w : World) (h : Ar 60 w P m g t) (G : Gm m g t) :
    Calls Try.prog 26 #[.pointer (some ⟨P, 0, none⟩), .int .i64 n, .int .i64 2] w fun e w' => e = .returned (.int .i64 (gvE m g n 2)) ∧ Ar 60 w' P m (gvG m g n 2) (gvT m g t n 2) ∧ Kept [P] w w' := by
  obtain ⟨⟨c0, c1, c2⟩, f0, f1, f2⟩ := three h
  have HA := Hid.mk h
  obtain ⟨g0, g1, g2, g3⟩ := G
  clear h
  by_cases h0 : n < 0
  · have E : gvE m g n 2 = 1 := if_pos h0
    have E1 : gvG m g n 2 = g := by unfold gvG; rw [if_neg (by omega)]
    have E2 : gvT m g t n 2 = t := by unfold gvT; rw [if_neg (by omega)]
    rw [E, E1, E2]
    go_enter Try.func26, Try.ntmps26
    go_wp2
    go_ret
    exact ⟨rfl, HA.out, Kept.refl _ _⟩
  · by_cases h1 : (m - g) / 2 < n
    · have E : gvE m g n 2 = 111 := by unfold gvE; rw [if_neg h0, if_pos h1]
      have E1 : gvG m g n 2 = g := by unfold gvG; rw [if_neg (by omega)]
      have E2 : gvT m g t n 2 = t := by unfold gvT; rw [if_neg (by omega)]
      rw [E, E1, E2]
      clear E E1 E2
      go_enter Try.func26, Try.ntmps26
      go_wp2
      go_quiet (fail)
      go_wp2
      go_ret
      exact ⟨rfl, HA.out.drewN _, (Kept.refl _ _).drewN _⟩
    · have E : gvE m g n 2 = 0 := by unfold gvE; rw [if_neg h0, if_neg h1]
      have E1 : gvG m g n 2 = g + 2 * n := by unfold gvG; rw [if_pos E]; omega
      have E2 : gvT m g t n 2 = mx t (g + 2 * n) := by unfold gvT; rw [if_pos E]; congr 1; omega
      rw [E, E1, E2]
      clear E E1 E2
      obtain ⟨c, rfl⟩ : ∃ c : Nat, n = (c : Int) := ⟨n.toNat, by omega⟩
      have hc : 2 * (c : Int) ≤ m - g := by omega
      clear h0
      go_enter Try.func26, Try.ntmps26
      go_wp2
      go_quiet (fail)
      go_wp2
      obtain ⟨w1, hw1, HA1, HK1⟩ : ∃ w1, (w.drewN nq).setCell ⟨P, 1, none⟩ (.int .i64 (g + 2 * (c : Int))) = w1 ∧ Hid (Ar 60 w1 P m (g + 2 * (c : Int)) t) ∧ Hid (Kept [P] w w1) :=
        ⟨_, rfl, Hid.mk (set1 _ (HA.out.drewN nq)).1, Hid.mk (((Kept.refl [P] w).drewN nq).trans (set1 _ (HA.out.drewN nq)).2)⟩
      rw [hw1]
      clear hw1 c0 c1 c2 f0 f1 f2
      obtain ⟨⟨c0, c1, c2⟩, f0, f1, f2⟩ := three HA1.out
      have hmx : (if g + 2 * (c : Int) > t then g + 2 * (c : Int) else t) = mx t (g + 2 * (c : Int)) := rfl
      go_region_law (fail)
      all_goals
        obtain ⟨w2, hw2, HA2, HK2⟩ : ∃ w2, (w1.setCell ⟨P, 2, none⟩ (.int .i64 (mx t (g + 2 * (c : Int))))).drew = w2 ∧ Hid (Ar 60 w2 P m (g + 2 * (c : Int)) (mx t (g + 2 * (c : Int)))) ∧ Hid (Kept [P] w1 w2) :=
          ⟨_, rfl, Hid.mk (set2 _ HA1.out).1, Hid.mk (set2 _ HA1.out).2.drew⟩
        rw [hw2]
        clear hw2 c0 c1 c2 f0 f1 f2 hmx
        go_wp2
        go_ret
        exact ⟨rfl, HA2.out, HK1.out.trans HK2.out⟩

/-- What is asked for. -/
def asN (n : Int) : Int := if 262144 ≤ n ∧ n ≤ 2147483648 then n % 262144 else n
set_option maxHeartbeats 1000000 in
theorem asked_any (n : Int) (w : World) : Calls Try.prog 25 #[.int .i64 n] w fun e w' => e = .returned (.int .i64 (asN n)) ∧ w' = w := by
  by_cases h : 262144 ≤ n
  · by_cases h2 : n ≤ 2147483648
    · rw [show asN n = n % 262144 from if_pos ⟨h, h2⟩]
      go_enter Try.func25, Try.ntmps25
      go_wp2
      go_ret
      exact ⟨rfl, rfl⟩
    · rw [show asN n = n from if_neg (by omega)]
      go_enter Try.func25, Try.ntmps25
      go_wp2
      go_ret
      exact ⟨rfl, rfl⟩
  · rw [show asN n = n from if_neg (by omega)]
    go_enter Try.func25, Try.ntmps25
    go_wp2
    go_ret
    exact ⟨rfl, rfl⟩

/-- An arena, as a thing. -/
def arr (ty : TypeId) (P : Nat) (m g t : Int) : Rsc where
  P := fun w => Ar ty w P m g t
  F := [P]
  lt := fun h hx => by simp at hx; subst hx; exact h.lt
  keep := fun h hk hF => h.keep hk (hF _ (by simp))
/-- Marks, as a thing. -/
def nrw (V : Value) (l : List Int) : Rsc where
  P := fun w => w.ownsRow 0 3 1 V l.length (l.map (.int .i64))
  F := V.ownBlock.toList
  lt := fun h hx => ownsRow_lt h (mem_own.1 hx)
  keep := fun h hk hF => hk.row h (fun _ hg => hF _ (mem_own.2 hg))
/-- Numbers by a function. -/
def ints (k : IntKind) (f : Nat → Int) (n : Nat) : List Value := (List.range n).map fun i => .int k (f i)
/-- A list that was given: nil, or a block of its own. -/
def ablk (ao : Option Addr) : List Nat := match ao with | none => [] | some a => [a.block]
def zlf (k : IntKind) (e : TypeId) (ao : Option Addr) (n : Nat) (f : Nat → Int) : Rsc where
  P := fun w => (ao = none ∧ n = 0) ∨ ∃ G, ao = some ⟨G, 0, none⟩ ∧ w.heap[G]? = some (.cells (ints k f n).toArray e (0, 0))
  F := ablk ao
  lt := fun h hx => by
    rcases h with ⟨rfl, _⟩ | ⟨G, rfl, h⟩
    · simp [ablk] at hx
    · simp [ablk] at hx; subst hx; exact lt_of_block h
  keep := fun h hk hF => by
    rcases h with h | ⟨G, rfl, h⟩
    · exact .inl h
    · exact .inr ⟨G, rfl, hk.heap h (hF _ (by simp [ablk]))⟩
theorem ints_const (k : IntKind) (v : Int) (n : Nat) : ints k (fun _ => v) n = List.replicate n (.int k v) := by
  apply List.ext_getElem?
  intro j
  by_cases h : j < n
  · simp [ints, h]
  · simp [ints, h]

/-- Arena i, the document's, and its marks. -/
def Ai (s : Wo) (b i : Nat) : Prop := ∃ P Q m g t l, Gm m g t ∧ s.V 0 i = .pointer (some ⟨P, 0, none⟩) ∧ s.X 0 i = arr 62 P m g t ∧ s.V 1 i = .pointer (some ⟨Q, 0, none⟩) ∧ s.X 1 i = arr 60 Q m g t ∧ s.X 2 i = nrw (s.V 2 i) l ∧ 0 < l.length ∧ l.length ≤ b ∧ (∀ x ∈ l, -9223372036854775808 ≤ x ∧ x ≤ 9223372036854775807)
/-- List i, all noughts. -/
def Li (κ : Nat) (k : IntKind) (e : TypeId) (s : Wo) (i : Nat) : Prop := ∃ ao n, s.V κ i = .slice ao n n ∧ s.X κ i = zlf k e ao n (fun _ => 0) ∧ n ≤ 1073741824
/-- All is as it must be; b: how many there are at most. -/
structure Wk (s : Wo) (b : Nat) : Prop where
  r : ∀ k, s.r k = s.c k
  c1 : s.c 1 = s.c 0
  c2 : s.c 2 = s.c 0
  le0 : s.c 0 ≤ b
  le3 : s.c 3 ≤ b
  le4 : s.c 4 ≤ b
  ar : ∀ i, i < s.c 0 → Ai s b i
  bl : ∀ i, i < s.c 3 → Li 3 .u8 5 s i
  sl : ∀ i, i < s.c 4 → Li 4 .u16 50 s i
/-- What a step leaves. -/
def SPost (W : World) (A : Nat) (b : Nat) (e : Ending) (w' : World) : Prop := e = .returned (.bool true) ∧ ∃ s', At W w' A s' ∧ Wk s' b ∧ 0 < s'.c 0
theorem Ai.congr {s s' : Wo} {b b' i : Nat} (h : Ai s b i) (hb : b ≤ b') (h0 : s'.V 0 i = s.V 0 i) (h1 : s'.V 1 i = s.V 1 i) (h2 : s'.V 2 i = s.V 2 i) (x0 : s'.X 0 i = s.X 0 i) (x1 : s'.X 1 i = s.X 1 i) (x2 : s'.X 2 i = s.X 2 i) : Ai s' b' i := by
  obtain ⟨P, Q, m, g, t, l, z1, z2, z3, z4, z5, z6, z7, z8, z9⟩ := h
  exact ⟨P, Q, m, g, t, l, z1, h0.trans z2, x0.trans z3, h1.trans z4, x1.trans z5, by rw [x2, h2]; exact z6, z7, by omega, z9⟩
theorem Li.congr {κ : Nat} {k : IntKind} {e : TypeId} {s s' : Wo} {i : Nat} (h : Li κ k e s i) (h0 : s'.V κ i = s.V κ i) (x0 : s'.X κ i = s.X κ i) : Li κ k e s' i := by
  obtain ⟨ao, n, z1, z2, z3⟩ := h
  exact ⟨ao, n, h0.trans z1, x0.trans z2, z3⟩
theorem Wk.mono {s : Wo} {b b' : Nat} (hw : Wk s b) (h : b ≤ b') : Wk s b' :=
  ⟨hw.r, hw.c1, hw.c2, Nat.le_trans hw.le0 h, Nat.le_trans hw.le3 h, Nat.le_trans hw.le4 h, fun i hi => (hw.ar i hi).congr h rfl rfl rfl rfl rfl rfl, hw.bl, hw.sl⟩
end Go.Proofs.Ytplpjpijmnglfaa
