import Derived.Test.YtjnmnkheichflabG1
import Derived.Test.YtjnmnkheichflabPk
import Derived.Deep.LoopGhost
import Derived.ArgAppend
namespace Go.Proofs.Ytjnmnkheichflab
open Go.RowKit

/-- As many unlike ones among so many: no more than these. -/
theorem pigeon (t s : Nat) (f : Nat → Nat) (h : ∀ i, i < s → f i < t) (hi : ∀ i j, i < s → j < s → f i = f j → i = j) : s ≤ t := by
  induction t generalizing s f with
  | zero =>
    by_cases h0 : s = 0
    · omega
    · have := h 0 (by omega); omega
  | succ t ih =>
    cases s with
    | zero => omega
    | succ s =>
      -- the value t is taken by the last one's
      have key := ih s (fun i => if f i = t then f s else f i) (fun i hs => by
        show (if f i = t then f s else f i) < t
        by_cases e : f i = t
        · rw [if_pos e]
          have h1 := h s (by omega)
          have h2 : f s ≠ t := fun e2 => by have := hi i s (by omega) (by omega) (e.trans e2.symm); omega
          omega
        · rw [if_neg e]; have := h i (by omega); omega) (fun i j hs hj e => by
        replace e : (if f i = t then f s else f i) = (if f j = t then f s else f j) := e
        by_cases e1 : f i = t
        · by_cases e2 : f j = t
          · exact hi i j (by omega) (by omega) (e1.trans e2.symm)
          · rw [if_pos e1, if_neg e2] at e
            have := hi s j (by omega) (by omega) e; omega
        · by_cases e2 : f j = t
          · rw [if_neg e1, if_pos e2] at e
            have := hi i s (by omega) (by omega) e; omega
          · rw [if_neg e1, if_neg e2] at e
            exact hi i j (by omega) (by omega) e)
      omega

/-- Numbers that are read. -/
def RdI (w : World) (ao : Option Addr) (zs : List Int) : Prop :=
  zs = [] ∨ ∃ g off, ao = some ⟨g, off, none⟩ ∧ ∀ i, i < zs.length → w.cell? ⟨g, off + i, none⟩ = some (.int .i64 (zs.getD i 0))
theorem RdI.keep {w w' : World} {ao : Option Addr} {zs : List Int} (h : RdI w ao zs) (hk : Kept [] w w') : RdI w' ao zs := by
  rcases h with h | ⟨g, off, rfl, hc⟩
  · exact .inl h
  · exact .inr ⟨g, off, rfl, fun i hi => cell_keep hk (hc i hi) (by simp)⟩
theorem RdI.cell {w : World} {ao : Option Addr} {zs : List Int} (h : RdI w ao zs) {i : Nat} (hi : i < zs.length) : ∃ g off, ao = some ⟨g, off, none⟩ ∧ w.cell? ⟨g, off + i, none⟩ = some (.int .i64 (zs.getD i 0)) := by
  rcases h with h | ⟨g, off, h, hc⟩
  · subst h; simp at hi
  · exact ⟨g, off, h, hc i hi⟩

/-- Numbers as values. -/
def iv64 (cs : Nat → Nat) (t : Nat) : List Value := (List.range t).map fun i => .int .i64 (cs i : Int)
theorem iv64_length (cs : Nat → Nat) (t : Nat) : (iv64 cs t).length = t := by simp [iv64]
theorem iv64_at (cs : Nat → Nat) (t i : Nat) (h : i < t) : (iv64 cs t)[i]? = some (.int .i64 (cs i : Int)) := by simp [iv64, h]
def nxt (cs : Nat → Nat) (t x : Nat) : Nat → Nat := fun i => if i = t then x else cs i
theorem iv64_next (cs : Nat → Nat) (t x : Nat) : iv64 cs t ++ [.int .i64 (x : Int)] = iv64 (nxt cs t x) (t + 1) := by
  unfold iv64
  rw [List.range_succ, List.map_append]
  congr 1
  · apply List.map_congr_left
    intro i hi
    have : i < t := by simpa using hi
    rw [show nxt cs t x i = cs i from if_neg (by omega)]
  · simp [nxt]

/-- Whether x is among the first t. -/
def tk (cs : Nat → Nat) (x : Nat) : Nat → Bool
  | 0 => false
  | t + 1 => tk cs x t || decide (cs t = x)
theorem tk_yes {cs : Nat → Nat} {x t : Nat} (h : tk cs x t = true) : ∃ i, i < t ∧ cs i = x := by
  induction t with
  | zero => cases h
  | succ t ih =>
    rw [tk, Bool.or_eq_true, decide_eq_true_eq] at h
    rcases h with h | h
    · obtain ⟨i, hi, e⟩ := ih h
      exact ⟨i, by omega, e⟩
    · exact ⟨t, by omega, h⟩
theorem tk_no {cs : Nat → Nat} {x t : Nat} (h : tk cs x t = false) : ∀ i, i < t → cs i ≠ x := by
  induction t with
  | zero => intro i hi; omega
  | succ t ih =>
    rw [tk, Bool.or_eq_false_iff, decide_eq_false_iff_not] at h
    intro i hi
    by_cases e : i = t
    · subst e; exact h.2
    · exact ih h.1 i (by omega)
theorem tk_of {cs : Nat → Nat} {x t i : Nat} (hi : i < t) (h : cs i = x) : tk cs x t = true := by
  cases e : tk cs x t
  · exact absurd h (tk_no e i hi)
  · rfl
theorem tk_not {cs : Nat → Nat} {x t : Nat} (h : ∀ i, i < t → cs i ≠ x) : tk cs x t = false := by
  cases e : tk cs x t
  · rfl
  · obtain ⟨i, hi, e2⟩ := tk_yes e
    exact absurd e2 (h i hi)

/-- So many steps on, at most as many as stand there. -/
theorem steps_le {cs : Nat → Nat} {n t x s : Nat} (hs : s ≤ n) (h : ∀ d, d < s → tk cs ((x + d) % n) t = true) : s ≤ t := by
  by_cases hn : n = 0
  · omega
  have hch : ∀ d, ∃ i, d < s → i < t ∧ cs i = (x + d) % n := fun d => by
    by_cases hd : d < s
    · obtain ⟨i, h1, h2⟩ := tk_yes (h d hd)
      exact ⟨i, fun _ => ⟨h1, h2⟩⟩
    · exact ⟨0, fun h => absurd h hd⟩
  refine pigeon t s (fun d => Classical.choose (hch d)) (fun d hd => (Classical.choose_spec (hch d) hd).1) (fun d e hd he heq => ?_)
  have h1 := (Classical.choose_spec (hch d) hd).2
  have h2 := (Classical.choose_spec (hch e) he).2
  replace heq : Classical.choose (hch d) = Classical.choose (hch e) := heq
  rw [heq, h2] at h1
  -- (x + e) % n = (x + d) % n with d, e < n
  rcases Nat.lt_trichotomy d e with hlt | hlt | hlt
  · exfalso
    have : (x + e - (x + d)) % n = 0 := Nat.sub_mod_eq_zero_of_mod_eq h1
    rw [show x + e - (x + d) = e - d from by omega, Nat.mod_eq_of_lt (by omega)] at this
    omega
  · exact hlt
  · exfalso
    have : (x + d - (x + e)) % n = 0 := Nat.sub_mod_eq_zero_of_mod_eq h1.symm
    rw [show x + d - (x + e) = d - e from by omega, Nat.mod_eq_of_lt (by omega)] at this
    omega

theorem Try.info3 : (Try.prog.info? 3).map (fun i => (i.zero, i.size, i.bytes)) = some (some (.int .i64 0), 1, 8) := by kernel_rfl

/-- A list of numbers that grows. -/
structure Gi (B : Nat) (w : World) (V : Value) (t : Nat) (cs : Nat → Nat) : Prop where
  own : w.ownsRow B 3 1 V t (iv64 cs t)
theorem Gi.cell {B : Nat} {w : World} {V : Value} {t : Nat} {cs : Nat → Nat} (h : Gi B w V t cs) (ht : 0 < t) : ∃ g cap, V = .slice (some ⟨g, 0, none⟩) t cap ∧ (∀ i, i < t → w.cell? ⟨g, i, none⟩ = some (.int .i64 (cs i : Int))) ∧ B ≤ g ∧ g < w.heap.size := by
  rcases h.own.2 with ⟨_, h0⟩ | ⟨g, cap, cur, rfl, hb, hg, _⟩
  · omega
  · refine ⟨g, cap, rfl, fun i hi => ?_, hb, lt_of_block hg⟩
    have hc := h.own.cells (g := g) rfl i _ (iv64_at cs t i hi)
    have hadd : (⟨g, 0, none⟩ : Addr).add i = ⟨g, 0 + i, none⟩ := by unfold Addr.add; split <;> simp_all
    rw [hadd, Nat.zero_add] at hc
    exact hc
theorem Gi.form {B : Nat} {w : World} {V : Value} {t : Nat} {cs : Nat → Nat} (h : Gi B w V t cs) : ∃ ao cap, V = .slice ao t cap ∧ (t = 0 ∨ ∃ g, ao = some ⟨g, 0, none⟩ ∧ ∀ i, i < t → w.cell? ⟨g, i, none⟩ = some (.int .i64 (cs i : Int))) := by
  by_cases h0 : t = 0
  · subst h0
    rcases h.own.2 with ⟨h1, _⟩ | ⟨g, cap, cur, h1, _⟩
    · exact ⟨none, 0, h1, .inl rfl⟩
    · exact ⟨_, cap, h1, .inl rfl⟩
  · obtain ⟨g, cap, h1, h2, _⟩ := h.cell (by omega)
    exact ⟨_, cap, h1, .inr ⟨g, rfl, h2⟩⟩

set_option maxHeartbeats 2000000 in
set_option maxRecDepth 1000000 in
theorem taken_any (ao : Option Addr) (cap t x : Nat) (cs : Nat → Nat) (w : World) (ht : t ≤ 256) (h : t = 0 ∨ ∃ g, ao = some ⟨g, 0, none⟩ ∧ ∀ i, i < t → w.cell? ⟨g, i, none⟩ = some (.int .i64 (cs i : Int))) :
    Calls Try.prog 44 #[.slice ao t cap, .int .i64 (x : Int)] w fun e w' => e = .returned (.bool (tk cs x t)) ∧ w' = w := by
  have H := Hid.mk h
  clear h
  go_enter Try.func44, Try.ntmps44
  go_wp2
  go_loop [5] (fun s => ∃ k : Nat, k ≤ t ∧ s = .int .i64 (k : Int) ∧ ∀ i, i < k → cs i ≠ x) (fun s => t - (intOf s).toNat)
  case atStart => exact ⟨0, by omega, rfl, fun i hi => by omega⟩
  case round =>
    obtain ⟨k, hk, rfl, hno⟩ := hrel
    have Hno := Hid.mk hno
    clear hno
    by_cases hlt : k < t
    · obtain ⟨g, hg, hc⟩ := H.out.resolve_left (by omega)
      have hck := hc k hlt
      have ix : (k : Int) < (t : Int) := by omega
      have Hg := Hid.mk hg
      clear hc
      by_cases e : cs k = x
      · have HT := Hid.mk (tk_of hlt e)
        rw [e] at hck
        clear e
        subst hg
        go_wp2
        go_ret
        exact ⟨ret_bool HT.out.symm, rfl⟩
      · have E := Hid.mk e
        obtain ⟨y, ey⟩ : ∃ y, y = cs k := ⟨_, rfl⟩
        rw [← ey] at hck e
        have hne : ((y : Int) == (x : Int)) = false := by simp; omega
        clear ey e
        subst hg
        go_wp2
        go_round
        case rel =>
          refine ⟨k + 1, by omega, by go_num, fun i hi => ?_⟩
          by_cases e : i = k
          · subst e; exact E.out
          · exact Hno.out i (by omega)
        case measure => simp [intOf]; omega
    · obtain rfl : k = t := by omega
      have HT := Hid.mk (tk_not Hno.out)
      clear Hno
      go_wp2
      go_ret
      exact ⟨ret_bool HT.out.symm, rfl⟩
end Go.Proofs.Ytjnmnkheichflab
