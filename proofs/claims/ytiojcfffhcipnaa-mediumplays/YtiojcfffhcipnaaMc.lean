import Derived.Test.YtiojcfffhcipnaaMb
namespace Go.Proofs.Ytiojcfffhcipnaa
open Go.RowKit
open Go.MuLone

/-- A span lies in so many bytes. -/
def inB (a n sz : Int) : Bool := decide (0 ≤ a ∧ 0 ≤ n ∧ n ≤ sz - a)

set_option maxHeartbeats 4000000 in
theorem lies_any (a n sz : Int) (w : World) (a1 : a ≤ 9223372036854775807) (s0 : 0 ≤ sz) (s1 : sz ≤ 4611686018427387904) :
    Calls Try.prog 55 #[.int .i64 a, .int .i64 n, .int .i64 sz] w fun e w' => e = .returned (.bool (inB a n sz)) ∧ w' = w := by
  by_cases h1 : 0 ≤ a
  · by_cases h2 : 0 ≤ n
    · have hw : wrap64 (sz - a) = sz - a := by unfold wrap64; omega
      have e1 : inB a n sz = decide (n ≤ sz - a) := by simp [inB, h1, h2]
      rw [e1]
      clear e1
      go_enter Try.func55, Try.ntmps55
      go_wp2
      go_ret
      exact ⟨rfl, rfl⟩
    · have e1 : inB a n sz = false := by simp [inB, h1, h2]
      rw [e1]
      clear e1
      go_enter Try.func55, Try.ntmps55
      go_wp2
      go_ret
      exact ⟨rfl, rfl⟩
  · have e1 : inB a n sz = false := by simp [inB, h1]
    rw [e1]
    clear e1
    go_enter Try.func55, Try.ntmps55
    go_wp2
    go_ret
    exact ⟨rfl, rfl⟩

theorem own_zero {w : World} {B e size : Nat} {v : Value} {n : Nat} {xs : List Value} (h : w.ownsRow B e size v n xs) : w.ownsRow 0 e size v n xs := by
  refine ⟨h.1, ?_⟩
  rcases h.2 with h | ⟨g, cap, cur, h1, _, h2⟩
  · exact .inl h
  · exact .inr ⟨g, cap, cur, h1, Nat.zero_le _, h2⟩
theorem own_new {w : World} {B e size : Nat} {v : Value} {n : Nat} {xs : List Value} (h : w.ownsRow B e size v n xs) : ∀ x ∈ v.ownBlock.toList, B ≤ x := by
  intro x hx
  rcases h.2 with ⟨h, _⟩ | ⟨g, cap, cur, h1, hg, h2⟩
  · rw [h] at hx; simp [Value.ownBlock] at hx
  · rw [h1] at hx; simp [Value.ownBlock] at hx; omega

theorem app_at (u : World) (ty : Nat) (v : Value) (n : Nat) (xs : List Value) (ho : u.ownsRow 0 5 1 v n xs) (so : Option Addr) (m c : Nat) (l : List Nat) (hr : Reads u so l) (hm : l.length = m) (hmb : n + m ≤ 140737488355200) (hnc : so = none → c = 0) :
    ∃ v' u', Sem.run Try.prog (Builtin.append_ #[29, 29] ty #[v, .slice so m c]) u = .ok v' u' ∧ u'.ownsRow 0 5 1 v' (n + m) (xs ++ l.map byt) ∧ Kept v.ownBlock.toList u u' ∧ Lies u v v' := by
  obtain ⟨i0, hi, hz0, hz1, hz2⟩ := info_parts Try.info5
  match so, hnc with
  | none, hnc =>
    obtain rfl : c = 0 := hnc rfl
    have hl : l = [] := by
      rcases hr with h | ⟨g, off, h, _⟩
      · exact h
      · cases h
    subst hl
    obtain rfl : m = 0 := by simpa using hm.symm
    exact ⟨v, u, run_append_owned_none (P := Try.prog) (w := u) 0 29 ty 5 i0 1 Try.underlying29 hi v n xs ho, by simpa using ho, Kept.refl _ _, Lies.refl _ _⟩
  | some ad, _ =>
    obtain ⟨v', u', hrun, h2, h3, _, h5⟩ := run_append_own_at (P := Try.prog) u 0 29 ty 5 i0 (.int .u8 0) 1 1 Try.underlying29 hi hz0 hz1 hz2 rfl (by decide) v n xs ho ad m c (l.map byt) (by simp [hm]) (fun j x hj => by
      rcases hr with h | ⟨g, off, h, hc⟩
      · subst h; simp at hj
      · cases h
        have hjl : j < l.length := by
          rcases Nat.lt_or_ge j l.length with h | h
          · exact h
          · rw [List.getElem?_eq_none (by simpa using h)] at hj; cases hj
        rw [show (⟨g, off, none⟩ : Addr).add j = ⟨g, off + j, none⟩ by unfold Addr.add; split <;> simp_all, hc j hjl]
        rw [List.getElem?_map, List.getElem?_eq_getElem hjl] at hj
        simp only [Option.map_some, Option.some.injEq] at hj
        rw [← hj, List.getD_eq_getElem?_getD, List.getElem?_eq_getElem hjl]
        rfl) (fun x hx => by
      simp only [List.mem_map] at hx
      obtain ⟨b, _, rfl⟩ := hx
      rfl) (by unfold maxLen; omega) (by omega) (Nat.zero_le _)
    exact ⟨v', u', hrun, h2, Kept.of_grown h3, by rcases h5 with h | h; exact .inl h; exact .inr ⟨_, h, Nat.le_refl _⟩⟩

/-- A slice's elements are these spans. -/
def RdS (w : World) (ao : Option Addr) (l : List (Int × Int)) : Prop := l = [] ∨ ∃ g off, ao = some ⟨g, off, none⟩ ∧ ∀ j u, (spc l)[j]? = some u → w.cell? ⟨g, off + j, none⟩ = some u
theorem RdS.kept {w w' : World} {ao : Option Addr} {l : List (Int × Int)} {ks : List Nat} (h : RdS w ao l) (hk : Kept ks w w') (hn : ∀ g off, ao = some ⟨g, off, none⟩ → g ∉ ks) : RdS w' ao l := by
  rcases h with h | ⟨g, off, rfl, hc⟩
  · exact .inl h
  · refine .inr ⟨g, off, rfl, fun i u hi => ?_⟩
    have h1 := hc i u hi
    have hlt := World.block_lt_of_cell? w _ h1
    exact (World.cell?_of_block (a := ⟨g, off + i, none⟩) (hk.block g hlt (hn g off rfl))).trans h1
theorem RdS.keep {w w' : World} {ao : Option Addr} {l : List (Int × Int)} (h : RdS w ao l) (hk : Kept [] w w') : RdS w' ao l := h.kept hk (by simp)
theorem addN (g off j : Nat) : (⟨g, off, none⟩ : Addr).add j = ⟨g, off + j, none⟩ := by unfold Addr.add; split <;> simp_all
theorem rds_row {w : World} {ao : Option Addr} {base n cap : Nat} {l : List (Int × Int)} (h : w.ownsRow base 63 2 (.slice ao n cap) n (spc l)) : RdS w ao l := by
  rcases h.2 with ⟨h1, hn⟩ | ⟨g, cap', cur, h1, _⟩
  · left
    have := h.1
    rw [spc_length] at this
    apply List.eq_nil_of_length_eq_zero
    omega
  · right
    simp at h1
    obtain ⟨rfl, rfl⟩ := h1
    refine ⟨g, 0, rfl, fun i u hi => ?_⟩
    have hc := h.cells (g := g) rfl i u hi
    rw [addN] at hc
    exact hc
theorem spc_one' (l : List (Int × Int)) : ∀ u ∈ spc l, u.oneCell' = true := by
  intro u hu
  simp only [spc, List.mem_flatMap, spn] at hu
  obtain ⟨a, _, h⟩ := hu
  simp at h
  rcases h with rfl | rfl <;> rfl
theorem Try.info63 : (Try.prog.info? 63).map (fun i => (i.zero, i.size, i.bytes)) = some (some (.agg #[.int .i64 0, .int .i64 0]), 2, 16) := by kernel_rfl

/-- Spans that are put behind a row of spans. -/
theorem app_sp (u : World) (ty : Nat) (v : Value) (n : Nat) (xs : List Value) (ho : u.ownsRow 0 63 2 v n xs) (so : Option Addr) (m c : Nat) (l : List (Int × Int)) (hr : RdS u so l) (hm : l.length = m) (hmb : n + m ≤ 8796093022208) (hnc : so = none → c = 0) :
    ∃ v' u', Sem.run Try.prog (Builtin.append_ #[30, 30] ty #[v, .slice so m c]) u = .ok v' u' ∧ u'.ownsRow 0 63 2 v' (n + m) (xs ++ spc l) ∧ Kept v.ownBlock.toList u u' ∧ Lies u v v' := by
  obtain ⟨i0, hi, hz0, hz1, hz2⟩ := info_parts Try.info63
  match so, hnc with
  | none, hnc =>
    obtain rfl : c = 0 := hnc rfl
    have hl : l = [] := by
      rcases hr with h | ⟨g, off, h, _⟩
      · exact h
      · cases h
    subst hl
    obtain rfl : m = 0 := by simpa using hm.symm
    exact ⟨v, u, run_append_owned_none (P := Try.prog) (w := u) 0 30 ty 63 i0 2 Try.underlying30 hi v n xs ho, by simpa [spc] using ho, Kept.refl _ _, Lies.refl _ _⟩
  | some ad, _ =>
    obtain ⟨v', u', hrun, h2, h3, _, h5⟩ := run_append_own_at (P := Try.prog) u 0 30 ty 63 i0 _ 2 16 Try.underlying30 hi hz0 hz1 hz2 rfl (by decide) v n xs ho ad m c (spc l) (by rw [spc_length, hm]) (fun j x hj => by
      rcases hr with h | ⟨g, off, h, hc⟩
      · subst h; simp [spc] at hj
      · cases h
        rw [addN]
        exact hc j x hj) (spc_one' l) (by unfold maxLen; omega) (by omega) (Nat.zero_le _)
    exact ⟨v', u', hrun, h2, Kept.of_grown h3, by rcases h5 with h | h; exact .inl h; exact .inr ⟨_, h, Nat.le_refl _⟩⟩

set_option maxHeartbeats 4000000 in
set_option maxRecDepth 1000000 in
/-- slices.Clone of spans. -/
theorem sclone_any (ao : Option Addr) (m cap : Nat) (l : List (Int × Int)) (w : World) (hr : RdS w ao l) (hm : l.length = m) (hc : ao = none → cap = 0) (hl : m ≤ 8796093022208) :
    Calls Try.prog 56 #[.slice ao m cap] w fun e w' => ∃ bo c, e = .returned (.slice bo m c) ∧ w'.ownsRow w.heap.size 63 2 (.slice bo m c) m (spc l) ∧ Kept [] w w' := by
  have hq : ∀ W : World, (binOp BinOp.eql 30 (.slice ao m cap) (.slice none 0 0)).run Try.prog W = .ok (.bool ao.isNone) W := fun W => by
    have := Lib.run_eql_slice_nil (P := Try.prog) W 30 63 ao m cap 0 0 Try.underlying30
    simpa using this
  cases ao with
  | none =>
    obtain rfl := hc rfl
    have hl0 : l = [] := by
      rcases hr with h | ⟨g, off, h, _⟩
      · exact h
      · cases h
    subst hl0
    obtain rfl : m = 0 := by simpa using hm.symm
    have hq2 : ∀ W : World, (binOp BinOp.eql 30 (.slice none 0 0) (.slice none 0 0)).run Try.prog W = .ok (.bool true) W := hq
    clear hq hr hm hc
    go_enter Try.func56, Try.ntmps56
    go_wp2
    go_ret
    exact ⟨none, 0, rfl, ⟨rfl, .inl ⟨rfl, rfl⟩⟩, Kept.refl _ _⟩
  | some ad =>
    have hq2 : ∀ W : World, (binOp BinOp.eql 30 (.slice (some ad) m cap) (.slice none 0 0)).run Try.prog W = .ok (.bool false) W := hq
    have ho : (w.alloc (.cells #[] 63)).ownsRow w.heap.size 63 2 (.slice (some ⟨w.heap.size, 0, none⟩) 0 0) 0 ([] : List Value) := World.ownsRow_lit w #[] 0 (Nat.le_refl _) (by decide) rfl
    have k0 : Kept [] w (w.alloc (.cells #[] 63)) := (Kept.refl [] w).alloc _
    obtain ⟨v', u', hrun, h2, h3, h4⟩ := app_sp _ 30 _ _ _ (own_zero ho) (some ad) m cap l (hr.keep k0) hm (by omega) (by simp)
    rw [Nat.zero_add, List.nil_append] at h2
    have h2' : u'.ownsRow w.heap.size 63 2 v' m (spc l) := by
      refine ⟨h2.1, ?_⟩
      rcases h2.2 with h | ⟨g, cap, cur, h1, _, h2⟩
      · exact .inl h
      · refine .inr ⟨g, cap, cur, h1, ?_, h2⟩
        subst h1
        rcases h4 with h | ⟨g2, h, hs⟩
        · simp [Value.ownBlock] at h; omega
        · simp [Value.ownBlock] at h; rw [World.size_alloc] at hs; omega
    have H2 := Hid.mk h2'
    have HK : Hid (Kept [] w u') := Hid.mk (k0.step h3 (fun x hx => by simp [Value.ownBlock] at hx; subst hx; exact .inr (Nat.le_refl _)))
    clear hq h3 k0 ho hr h2 h2' h4
    go_enter Try.func56, Try.ntmps56
    go_wp2_with (at_builtin; refine wpList_app_eq' rfl _ _ 30 rfl _ _ v' u' rfl rfl hrun ?_)
    go_ret
    obtain ⟨bo, c, rfl, -, -, -, -⟩ := row_form2 H2.out
    exact ⟨bo, c, rfl, H2.out, HK.out⟩

set_option maxHeartbeats 4000000 in
theorem bytes_any (w : World) (P : Nat) (V L : Value) (s : Md) (h : Med w P V L s 0) (ok : s.b.length ≤ 268435456) :
    Calls Try.prog 21 #[.pointer (some ⟨P, 0, none⟩)] w fun e w' => ∃ bo c, e = .returned (.slice bo s.b.length c) ∧ w'.ownsRow w.heap.size 5 1 (.slice bo s.b.length c) s.b.length (s.b.map byt) ∧ Med w' P V L s 0 ∧ Kept [P] w w' := by
  have HM := Hid.mk h
  clear h
  go_enter_defers Try.func21, Try.ntmps21
  go_wp2_with (go_at_call 51; refine (mlock HM.out).mono ?_; rintro e w1 ⟨rfl, h1, k1⟩; have H1 := Hid.mk h1; have K1 := Hid.mk k1; obtain ⟨bo, c, eV, n1, -, -, -⟩ := row_form2 h1.row; subst eV; have c2 := h1.c2; clear h1 k1)
  refine (bclone_any bo _ c s.b w1 (reads_row H1.out.row) rfl n1 (by omega)).mono ?_
  rintro e w2 ⟨b2, c3, rfl, o2, k2⟩
  have O2 := Hid.mk o2
  have H2 := Hid.mk (H1.out.keep k2)
  have K2 := Hid.mk (K1.out.step k2 (by simp))
  have S1 := Hid.mk K1.out.size
  clear o2 k2 c2
  go_wp2
  refine leaves_cons (f := 52) (args := #[.pointer (some ⟨P, 0, none⟩)]) (by simp) (by simp [go_sem]) ?_
  refine (munlock H2.out).mono ?_
  rintro e u' w3 ⟨rfl, rfl, h3, k3⟩
  refine ⟨_, results_tmp rfl _ _ _, b2, c3, rfl, ?_, h3, K2.out.trans k3⟩
  have a := k3.row O2.out (fun g hg => by have := own_ty H2.out.box (by decide) (own_zero O2.out); simp [hg] at this ⊢; exact fun e => this e.symm)
  refine ⟨a.1, ?_⟩
  rcases a.2 with h | ⟨g, cap, cur, h1, h2, h3⟩
  · exact .inl h
  · exact .inr ⟨g, cap, cur, h1, Nat.le_trans S1.out h2, h3⟩

set_option maxHeartbeats 4000000 in
theorem log_any (w : World) (P : Nat) (V L : Value) (s : Md) (h : Med w P V L s 0) (ok : s.g.length ≤ 8796093022208) :
    Calls Try.prog 23 #[.pointer (some ⟨P, 0, none⟩)] w fun e w' => ∃ bo c, e = .returned (.slice bo s.g.length c) ∧ w'.ownsRow w.heap.size 63 2 (.slice bo s.g.length c) s.g.length (spc s.g) ∧ Med w' P V L s 0 ∧ Kept [P] w w' := by
  have HM := Hid.mk h
  clear h
  go_enter_defers Try.func23, Try.ntmps23
  go_wp2_with (go_at_call 51; refine (mlock HM.out).mono ?_; rintro e w1 ⟨rfl, h1, k1⟩; have H1 := Hid.mk h1; have K1 := Hid.mk k1; obtain ⟨bo, c, eV, n1, -, -, -⟩ := row_form2 h1.log; subst eV; have c2 := h1.c3; clear h1 k1)
  refine (sclone_any bo _ c s.g w1 (rds_row H1.out.log) rfl n1 (by omega)).mono ?_
  rintro e w2 ⟨b2, c3, rfl, o2, k2⟩
  have O2 := Hid.mk o2
  have H2 := Hid.mk (H1.out.keep k2)
  have K2 := Hid.mk (K1.out.step k2 (by simp))
  have S1 := Hid.mk K1.out.size
  clear o2 k2 c2
  go_wp2
  refine leaves_cons (f := 52) (args := #[.pointer (some ⟨P, 0, none⟩)]) (by simp) (by simp [go_sem]) ?_
  refine (munlock H2.out).mono ?_
  rintro e u' w3 ⟨rfl, rfl, h3, k3⟩
  refine ⟨_, results_tmp rfl _ _ _, b2, c3, rfl, ?_, h3, K2.out.trans k3⟩
  have a := k3.row O2.out (fun g hg => by have := own_ty H2.out.box (by decide) (own_zero O2.out); simp [hg] at this ⊢; exact fun e => this e.symm)
  refine ⟨a.1, ?_⟩
  rcases a.2 with h | ⟨g, cap, cur, h1, h2, h3⟩
  · exact .inl h
  · exact .inr ⟨g, cap, cur, h1, Nat.le_trans S1.out h2, h3⟩
end Go.Proofs.Ytiojcfffhcipnaa
