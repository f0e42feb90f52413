import Derived.Test.YtlkbpimlofgflaaDoorMb
namespace Go.Proofs.YtlkbpimlofgflaaDoor
open Go.RowKit
open Go.MuLone

/-- A span lies in so many bytes. -/
def inB (a n sz : Int) : Bool := decide (0 ≤ a ∧ 0 ≤ n ∧ n ≤ sz - a)

set_option maxHeartbeats 4000000 in
theorem lies_any (a n sz : Int) (w : World) (a1 : a ≤ 9223372036854775807) (s0 : 0 ≤ sz) (s1 : sz ≤ 4611686018427387904) :
    Calls Tryd.prog 45 #[.int .i64 a, .int .i64 n, .int .i64 sz] w fun e w' => e = .returned (.bool (inB a n sz)) ∧ w' = w := by
  by_cases h1 : 0 ≤ a
  · by_cases h2 : 0 ≤ n
    · have hw : wrap64 (sz - a) = sz - a := by unfold wrap64; omega
      have e1 : inB a n sz = decide (n ≤ sz - a) := by simp [inB, h1, h2]
      rw [e1]
      clear e1
      go_enter Tryd.func45, Tryd.ntmps45
      go_wp2
      go_ret
      exact ⟨rfl, rfl⟩
    · have e1 : inB a n sz = false := by simp [inB, h1, h2]
      rw [e1]
      clear e1
      go_enter Tryd.func45, Tryd.ntmps45
      go_wp2
      go_ret
      exact ⟨rfl, rfl⟩
  · have e1 : inB a n sz = false := by simp [inB, h1]
    rw [e1]
    clear e1
    go_enter Tryd.func45, Tryd.ntmps45
    go_wp2
    go_ret
    exact ⟨rfl, rfl⟩

theorem own_zero {w : World} {B e size : Nat} {v : Value} {n : Nat} {xs : List Value} (h : w.ownsRow B e size v n xs) : w.ownsRow 0 e size v n xs := by
  refine ⟨h.1, ?_⟩
  rcases h.2 with h | ⟨g, cap, cur, h1, _, h2⟩
  · exact .inl h
  · exact .inr ⟨g, cap, cur, h1, Nat.zero_le _, h2⟩
theorem own_new {w : World} {B e size : Nat} {v : Value} {n : Nat} {xs : List Value} (h : w.ownsRow B e size v n xs) : ∀ x ∈ v.ownBlock.toList, B ≤ x := by
  intro x hx
  rcases h.2 with ⟨h, _⟩ | ⟨g, cap, cur, h1, hg, h2⟩
  · rw [h] at hx; simp [Value.ownBlock] at hx
  · rw [h1] at hx; simp [Value.ownBlock] at hx; omega

theorem app_at (u : World) (ty : Nat) (v : Value) (n : Nat) (xs : List Value) (ho : u.ownsRow 0 5 1 v n xs) (so : Option Addr) (m c : Nat) (l : List Nat) (hr : Reads u so l) (hm : l.length = m) (hmb : n + m ≤ 140737488355200) (hnc : so = none → c = 0) :
    ∃ v' u', Sem.run Tryd.prog (Builtin.append_ #[44, 44] ty #[v, .slice so m c]) u = .ok v' u' ∧ u'.ownsRow 0 5 1 v' (n + m) (xs ++ l.map byt) ∧ Kept v.ownBlock.toList u u' ∧ Lies u v v' := by
  obtain ⟨i0, hi, hz0, hz1, hz2⟩ := info_parts Tryd.info5
  match so, hnc with
  | none, hnc =>
    obtain rfl : c = 0 := hnc rfl
    have hl : l = [] := by
      rcases hr with h | ⟨g, off, h, _⟩
      · exact h
      · cases h
    subst hl
    obtain rfl : m = 0 := by simpa using hm.symm
    exact ⟨v, u, run_append_owned_none (P := Tryd.prog) (w := u) 0 44 ty 5 i0 1 Tryd.underlying44 hi v n xs ho, by simpa using ho, Kept.refl _ _, Lies.refl _ _⟩
  | some ad, _ =>
    obtain ⟨v', u', hrun, h2, h3, _, h5⟩ := run_append_own_at (P := Tryd.prog) u 0 44 ty 5 i0 (.int .u8 0) 1 1 Tryd.underlying44 hi hz0 hz1 hz2 rfl (by decide) v n xs ho ad m c (l.map byt) (by simp [hm]) (fun j x hj => by
      rcases hr with h | ⟨g, off, h, hc⟩
      · subst h; simp at hj
      · cases h
        have hjl : j < l.length := by
          rcases Nat.lt_or_ge j l.length with h | h
          · exact h
          · rw [List.getElem?_eq_none (by simpa using h)] at hj; cases hj
        rw [show (⟨g, off, none⟩ : Addr).add j = ⟨g, off + j, none⟩ by unfold Addr.add; split <;> simp_all, hc j hjl]
        rw [List.getElem?_map, List.getElem?_eq_getElem hjl] at hj
        simp only [Option.map_some, Option.some.injEq] at hj
        rw [← hj, List.getD_eq_getElem?_getD, List.getElem?_eq_getElem hjl]
        rfl) (fun x hx => by
      simp only [List.mem_map] at hx
      obtain ⟨b, _, rfl⟩ := hx
      rfl) (by unfold maxLen; omega) (by omega) (Nat.zero_le _)
    exact ⟨v', u', hrun, h2, Kept.of_grown h3, by rcases h5 with h | h; exact .inl h; exact .inr ⟨_, h, Nat.le_refl _⟩⟩

/-- A slice's elements are these spans. -/
def RdS (w : World) (ao : Option Addr) (l : List (Int × Int)) : Prop := l = [] ∨ ∃ g off, ao = some ⟨g, off, none⟩ ∧ ∀ j u, (spc l)[j]? = some u → w.cell? ⟨g, off + j, none⟩ = some u
theorem RdS.kept {w w' : World} {ao : Option Addr} {l : List (Int × Int)} {ks : List Nat} (h : RdS w ao l) (hk : Kept ks w w') (hn : ∀ g off, ao = some ⟨g, off, none⟩ → g ∉ ks) : RdS w' ao l := by
  rcases h with h | ⟨g, off, rfl, hc⟩
  · exact .inl h
  · refine .inr ⟨g, off, rfl, fun i u hi => ?_⟩
    have h1 := hc i u hi
    have hlt := World.block_lt_of_cell? w _ h1
    exact (World.cell?_of_block (a := ⟨g, off + i, none⟩) (hk.block g hlt (hn g off rfl))).trans h1
theorem RdS.keep {w w' : World} {ao : Option Addr} {l : List (Int × Int)} (h : RdS w ao l) (hk : Kept [] w w') : RdS w' ao l := h.kept hk (by simp)
theorem addN (g off j : Nat) : (⟨g, off, none⟩ : Addr).add j = ⟨g, off + j, none⟩ := by unfold Addr.add; split <;> simp_all
theorem rds_row {w : World} {ao : Option Addr} {base n cap : Nat} {l : List (Int × Int)} (h : w.ownsRow base 79 2 (.slice ao n cap) n (spc l)) : RdS w ao l := by
  rcases h.2 with ⟨h1, hn⟩ | ⟨g, cap', cur, h1, _⟩
  · left
    have := h.1
    rw [spc_length] at this
    apply List.eq_nil_of_length_eq_zero
    omega
  · right
    simp at h1
    obtain ⟨rfl, rfl⟩ := h1
    refine ⟨g, 0, rfl, fun i u hi => ?_⟩
    have hc := h.cells (g := g) rfl i u hi
    rw [addN] at hc
    exact hc
theorem spc_one' (l : List (Int × Int)) : ∀ u ∈ spc l, u.oneCell' = true := by
  intro u hu
  simp only [spc, List.mem_flatMap, spn] at hu
  obtain ⟨a, _, h⟩ := hu
  simp at h
  rcases h with rfl | rfl <;> rfl
theorem Tryd.info79 : (Tryd.prog.info? 79).map (fun i => (i.zero, i.size, i.bytes)) = some (some (.agg #[.int .i64 0, .int .i64 0]), 2, 16) := by kernel_rfl

/-- Spans that are put behind a row of spans. -/
theorem app_sp (u : World) (ty : Nat) (v : Value) (n : Nat) (xs : List Value) (ho : u.ownsRow 0 79 2 v n xs) (so : Option Addr) (m c : Nat) (l : List (Int × Int)) (hr : RdS u so l) (hm : l.length = m) (hmb : n + m ≤ 8796093022208) (hnc : so = none → c = 0) :
    ∃ v' u', Sem.run Tryd.prog (Builtin.append_ #[70, 70] ty #[v, .slice so m c]) u = .ok v' u' ∧ u'.ownsRow 0 79 2 v' (n + m) (xs ++ spc l) ∧ Kept v.ownBlock.toList u u' ∧ Lies u v v' := by
  obtain ⟨i0, hi, hz0, hz1, hz2⟩ := info_parts Tryd.info79
  match so, hnc with
  | none, hnc =>
    obtain rfl : c = 0 := hnc rfl
    have hl : l = [] := by
      rcases hr with h | ⟨g, off, h, _⟩
      · exact h
      · cases h
    subst hl
    obtain rfl : m = 0 := by simpa using hm.symm
    exact ⟨v, u, run_append_owned_none (P := Tryd.prog) (w := u) 0 70 ty 79 i0 2 Tryd.underlying70 hi v n xs ho, by simpa [spc] using ho, Kept.refl _ _, Lies.refl _ _⟩
  | some ad, _ =>
    obtain ⟨v', u', hrun, h2, h3, _, h5⟩ := run_append_own_at (P := Tryd.prog) u 0 70 ty 79 i0 _ 2 16 Tryd.underlying70 hi hz0 hz1 hz2 rfl (by decide) v n xs ho ad m c (spc l) (by rw [spc_length, hm]) (fun j x hj => by
      rcases hr with h | ⟨g, off, h, hc⟩
      · subst h; simp [spc] at hj
      · cases h
        rw [addN]
        exact hc j x hj) (spc_one' l) (by unfold maxLen; omega) (by omega) (Nat.zero_le _)
    exact ⟨v', u', hrun, h2, Kept.of_grown h3, by rcases h5 with h | h; exact .inl h; exact .inr ⟨_, h, Nat.le_refl _⟩⟩

end Go.Proofs.YtlkbpimlofgflaaDoor
