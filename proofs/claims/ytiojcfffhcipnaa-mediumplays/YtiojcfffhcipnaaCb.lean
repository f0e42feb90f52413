import Derived.Test.YtiojcfffhcipnaaCa
namespace Go.Proofs.Ytiojcfffhcipnaa
open Go.RowKit

def snc (fo : Nat → Hd) (p : Nat) (h : Hd) (i : Nat) : Hd := if i = p then h else fo i
theorem snc_at (fo : Nat → Hd) (p : Nat) (h : Hd) : snc fo p h p = h := by simp [snc]
theorem snc_lt (fo : Nat → Hd) (p : Nat) (h : Hd) (i : Nat) (hi : i < p) : snc fo p h i = fo i := by unfold snc; rw [if_neg (by omega)]
theorem ocs_snc (fo : Nat → Hd) (p : Nat) (h : Hd) : ocs (snc fo p h) (p + 1) = ocs fo p ++ [sl h] := by
  unfold ocs
  rw [List.range_succ, List.map_append]
  congr 1
  · exact List.map_congr_left (fun i hi => by rw [snc_lt fo p h i (List.mem_range.1 hi)])
  · simp [snc_at]
theorem blks_snc {fo : Nat → Hd} {p x : Nat} {h : Hd} (hx : x ∈ blks (snc fo p h) (p + 1)) : x ∈ blks fo p ∨ x ∈ blk h := by
  obtain ⟨i, hi, hx⟩ := blks_mem.1 hx
  by_cases e : i = p
  · subst e; rw [snc_at] at hx; exact .inr hx
  · rw [snc_lt fo p h i (by omega)] at hx; exact .inl (blks_mem.2 ⟨i, by omega, hx⟩)

theorem Apt.snoc {n p : Nat} {f fo : Nat → Hd} {k u : Value} (h : Apt n p f fo k u) (X : Hd) (hX : ∀ x ∈ blk X, (∀ j, j < n → x ∉ blk (f j)) ∧ (∀ i, i < p → x ∉ blk (fo i)) ∧ x ∉ vb k ∧ x ∉ vb u) : Apt n (p + 1) f (snc fo p X) k u := by
  refine ⟨fun i j hi hj x hx => ?_, fun i j hi hj e x hx => ?_, fun i hi x hx => ?_, h.e2, h.e3⟩
  · by_cases e : i = p
    · subst e; rw [snc_at] at hx; exact (hX x hx).1 j hj
    · rw [snc_lt fo p X i (by omega)] at hx; exact h.d1 i j (by omega) hj x hx
  · by_cases ei : i = p
    · subst ei
      rw [snc_at] at hx
      rw [snc_lt fo i X j (by omega)]
      exact (hX x hx).2.1 j (by omega)
    · rw [snc_lt fo p X i (by omega)] at hx
      by_cases ej : j = p
      · subst ej; rw [snc_at]; exact fun hm => (hX x hm).2.1 i (by omega) hx
      · rw [snc_lt fo p X j (by omega)]; exact h.d2 i j (by omega) (by omega) e x hx
  · by_cases e : i = p
    · subst e; rw [snc_at] at hx; exact (hX x hx).2.2
    · rw [snc_lt fo p X i (by omega)] at hx; exact h.e1 i (by omega) x hx
/-- The one that was kept has come out; two others are kept. -/
theorem Apt.held {n p : Nat} {f fo : Nat → Hd} {k u x y : Value} (h : Apt n p f fo k u) (K : Hd) (hK : sl K = k) (hx : ∀ z, z ∈ vb x ∨ z ∈ vb y → (∀ j, j < n → z ∉ blk (f j)) ∧ (∀ i, i < p → z ∉ blk (fo i)) ∧ z ∉ vb k) (hxy : ∀ z ∈ vb x, z ∉ vb y) : Apt n (p + 1) f (snc fo p K) x y := by
  have eK : ∀ z, z ∈ blk K ↔ z ∈ vb k := fun z => by unfold blk vb; rw [hK]
  refine ⟨fun i j hi hj z hz => ?_, fun i j hi hj e z hz => ?_, fun i hi z hz => ?_, fun j hj z hz => ⟨fun hm => (hx z (.inl hm)).1 j hj hz, fun hm => (hx z (.inr hm)).1 j hj hz⟩, hxy⟩
  · by_cases e : i = p
    · subst e; rw [snc_at, eK] at hz; exact fun hm => (h.e2 j hj z hm).1 hz
    · rw [snc_lt fo p K i (by omega)] at hz; exact h.d1 i j (by omega) hj z hz
  · by_cases ei : i = p
    · subst ei
      rw [snc_at, eK] at hz
      rw [snc_lt fo i K j (by omega)]
      exact fun hm => (h.e1 j (by omega) z hm).1 hz
    · rw [snc_lt fo p K i (by omega)] at hz
      by_cases ej : j = p
      · subst ej; rw [snc_at, eK]; exact (h.e1 i (by omega) z hz).1
      · rw [snc_lt fo p K j (by omega)]; exact h.d2 i j (by omega) (by omega) e z hz
  · by_cases e : i = p
    · subst e
      rw [snc_at, eK] at hz
      exact ⟨fun hm => (hx z (.inl hm)).2.2 hz, fun hm => (hx z (.inr hm)).2.2 hz⟩
    · rw [snc_lt fo p K i (by omega)] at hz
      exact ⟨fun hm => (hx z (.inl hm)).2.1 i (by omega) hz, fun hm => (hx z (.inr hm)).2.1 i (by omega) hz⟩

theorem vb_mem {b : Bk} {x : Nat} (h : x = b.A ∨ x ∈ vb b.l ∨ x ∈ vb b.s ∨ x ∈ vb b.o ∨ x ∈ vb b.t ∨ x ∈ vb b.k ∨ x ∈ vb b.u ∨ x ∈ vb b.ks ∨ x ∈ vb b.us ∨ x ∈ blks b.f b.n ∨ x ∈ blks b.g b.q ∨ x ∈ blks b.fo b.p ∨ x ∈ blks b.ft b.r) : x ∈ b.F := by
  simp only [Bk.F, List.mem_cons, List.mem_append]
  rcases h with h | h | h | h | h | h | h | h | h | h | h | h | h <;> simp [h]

/-- The box and the list of what came out are written to alone: all else stands. -/
theorem BkAt.rest {w w' : World} {b : Bk} (h : BkAt w b) (hk : Kept (b.A :: vb b.o) w w') : Hs w' b.l b.n b.f ∧ Ss w' b.s b.q b.g ∧ (∀ i, i < b.p → ∃ xs, w'.ownsRow 0 5 1 (sl (b.fo i)) (b.fo i).l xs) ∧ w'.ownsRow 0 30 1 b.t b.r (ocs b.ft b.r) ∧ (∀ i, i < b.r → ∃ xs, w'.ownsRow 0 63 2 (sl (b.ft i)) (b.ft i).l xs) ∧ (∀ {e z m : Nat} {V : Value} {xs : List Value}, w.ownsRow 0 e z V m xs → e ≠ 32 → e ≠ 29 → w'.ownsRow 0 e z V m xs) := by
  have far : ∀ {e z m : Nat} {V : Value} {xs : List Value}, w.ownsRow 0 e z V m xs → e ≠ 32 → e ≠ 29 → w'.ownsRow 0 e z V m xs := fun hr h1 h2 => hk.row hr (fun g hg hm => by
    simp only [List.mem_cons] at hm
    rcases hm with rfl | hm
    · exact own_ty h.bx (fun q => h1 q.symm) hr (by simp [hg])
    · exact own_two hr h.hO h2 g hg hm)
  refine ⟨⟨far h.hH.own (by decide) (by decide), fun i hi => far (h.hH.each i hi) (by decide) (by decide)⟩, ⟨far h.hS.own (by decide) (by decide), fun i hi => far (h.hS.each i hi) (by decide) (by decide)⟩, fun i hi => ?_, far h.hT (by decide) (by decide), fun i hi => ?_, far⟩
  · obtain ⟨xs, h1⟩ := h.hOr i hi; exact ⟨xs, far h1 (by decide) (by decide)⟩
  · obtain ⟨xs, h1⟩ := h.hTr i hi; exact ⟨xs, far h1 (by decide) (by decide)⟩

/-- take of a list of bytes that is no one's. -/
theorem take_bk {w : World} {b : Bk} (h : BkAt w b) (ok : BkOk b) (hp : b.p < 8) (xo : Option Addr) (m c : Nat) (l : List Nat) (hm : l.length = m) (hl : m ≤ 268435456) (hx : w.ownsRow 0 5 1 (.slice xo m c) m (l.map byt)) (hf : ∀ z ∈ vb (.slice xo m c), z ∉ b.F) :
    Calls Try.prog 43 #[.pointer (some ⟨b.A, 0, none⟩), .slice xo m c] w fun e w' => ∃ o', e = .returned (.tuple #[]) ∧ BkAt w' { b with o := o', p := b.p + 1, fo := snc b.fo b.p ⟨xo, m, c, 0⟩ } ∧ BkOk { b with o := o', p := b.p + 1, fo := snc b.fo b.p ⟨xo, m, c, 0⟩ } ∧ Kept (b.A :: vb b.o) w w' ∧ Lies w b.o o' := by
  refine (take_any w b.A b.l b.s b.o b.t b.k b.u b.ks b.us b.p _ xo m c h.bx h.hO (by omega)).mono ?_
  rintro e w' ⟨o', rfl, bx, ho, hk, li⟩
  obtain ⟨r1, r2, r3, r4, r5, far⟩ := h.rest hk
  refine ⟨o', rfl, ⟨bx, r1, r2, by rw [ocs_snc]; exact ho, fun i hi => ?_, r4, r5, far h.hk (by decide) (by decide), far h.hu (by decide) (by decide), far h.hks (by decide) (by decide), far h.hus (by decide) (by decide), h.ap.snoc _ (fun x hx => ?_), h.as_⟩, ⟨ok.hn, by show b.p + 1 ≤ 8; omega, ok.hq, ok.hr, ok.lf, ok.lg, fun i hi => ?_, ok.lt, ok.kb, ok.kl⟩, hk, li⟩
  · have hi : i < b.p + 1 := hi
    by_cases e : i = b.p
    · subst e; refine ⟨l.map byt, ?_⟩; simp only [snc_at]; exact far hx (by decide) (by decide)
    · simp only [snc_lt b.fo b.p _ i (by omega)]; exact r3 i (by omega)
  · have hn := hf x hx
    exact ⟨fun j hj hm => hn (vb_mem (by have := mem_blks hj hm; simp [this])), fun j hj hm => hn (vb_mem (by have := mem_blks hj hm; simp [this])), fun hm => hn (vb_mem (by simp [hm])), fun hm => hn (vb_mem (by simp [hm]))⟩
  · have hi : i < b.p + 1 := hi
    show (snc b.fo b.p _ i).l ≤ _
    by_cases e : i = b.p
    · subst e; rw [snc_at]; show m ≤ _; omega
    · rw [snc_lt b.fo b.p _ i (by omega)]; exact ok.lo i (by omega)

/-- held of two lists of bytes alike that are no one's. -/
theorem held_bk {w : World} {b : Bk} (h : BkAt w b) (ok : BkOk b) (hp : b.p < 8) (x y : Value) (l : List Nat) (hl : l.length ≤ 268435456) (hx : w.ownsRow 0 5 1 x l.length (l.map byt)) (hy : w.ownsRow 0 5 1 y l.length (l.map byt)) (hf : ∀ z, z ∈ vb x ∨ z ∈ vb y → z ∉ b.F) (hxy : ∀ z ∈ vb x, z ∉ vb y) :
    Calls Try.prog 41 #[.pointer (some ⟨b.A, 0, none⟩), x, y] w fun e w' => ∃ o' K, e = .returned (.bool true) ∧ sl K = b.k ∧ BkAt w' { b with o := o', p := b.p + 1, fo := snc b.fo b.p K, k := x, u := y, kb := l } ∧ BkOk { b with o := o', p := b.p + 1, fo := snc b.fo b.p K, k := x, u := y, kb := l } ∧ Kept (b.A :: vb b.o) w w' ∧ Lies w b.o o' := by
  obtain ⟨ko, kc, ek, -, -, -, -⟩ := row_form2 h.hk
  obtain ⟨uo, uc, eu, -, -, -, -⟩ := row_form2 h.hu
  obtain ⟨xo, xc, ex, -, -, -, -⟩ := row_form2 hx
  obtain ⟨yo, yc, ey, -, -, -, -⟩ := row_form2 hy
  have hbx := h.bx
  rw [ek, eu] at hbx
  refine (held_any w b.A b.l b.s b.o b.t b.ks b.us b.p _ ko uo b.kb.length kc uc b.kb x y hbx h.hO (by omega) (reads_row (by rw [← ek]; exact h.hk)) (reads_row (by rw [← eu]; exact h.hu)) rfl ⟨_, _, _, ex⟩ ⟨_, _, _, ey⟩).mono ?_
  rintro e w' ⟨o', rfl, bx, ho, hk, li⟩
  obtain ⟨r1, r2, r3, r4, r5, far⟩ := h.rest hk
  have eK : sl (⟨ko, b.kb.length, kc, 0⟩ : Hd) = b.k := ek.symm
  refine ⟨o', ⟨ko, b.kb.length, kc, 0⟩, rfl, eK, ⟨bx, r1, r2, by rw [ocs_snc]; exact ho, fun i hi => ?_, r4, r5, far hx (by decide) (by decide), far hy (by decide) (by decide), far h.hks (by decide) (by decide), far h.hus (by decide) (by decide), h.ap.held _ eK (fun z hz => ?_) hxy, h.as_⟩, ⟨ok.hn, by show b.p + 1 ≤ 8; omega, ok.hq, ok.hr, ok.lf, ok.lg, fun i hi => ?_, ok.lt, hl, ok.kl⟩, hk, li⟩
  · have hi : i < b.p + 1 := hi
    by_cases e : i = b.p
    · subst e; refine ⟨b.kb.map byt, ?_⟩; simp only [snc_at]; rw [eK]; exact far h.hk (by decide) (by decide)
    · simp only [snc_lt b.fo b.p _ i (by omega)]; exact r3 i (by omega)
  · have hn := hf z hz
    exact ⟨fun j hj hm => hn (vb_mem (by have := mem_blks hj hm; simp [this])), fun j hj hm => hn (vb_mem (by have := mem_blks hj hm; simp [this])), fun hm => hn (vb_mem (by simp [hm]))⟩
  · have hi : i < b.p + 1 := hi
    show (snc b.fo b.p _ i).l ≤ _
    by_cases e : i = b.p
    · subst e; rw [snc_at]; show b.kb.length ≤ _; have := ok.kb; omega
    · rw [snc_lt b.fo b.p _ i (by omega)]; exact ok.lo i (by omega)
/-- The box and the list of the spans that came out are written to alone: all else stands. -/
theorem BkAt.restT {w w' : World} {b : Bk} (h : BkAt w b) (hk : Kept (b.A :: vb b.t) w w') : Hs w' b.l b.n b.f ∧ Ss w' b.s b.q b.g ∧ (∀ i, i < b.p → ∃ xs, w'.ownsRow 0 5 1 (sl (b.fo i)) (b.fo i).l xs) ∧ w'.ownsRow 0 29 1 b.o b.p (ocs b.fo b.p) ∧ (∀ i, i < b.r → ∃ xs, w'.ownsRow 0 63 2 (sl (b.ft i)) (b.ft i).l xs) ∧ (∀ {e z m : Nat} {V : Value} {xs : List Value}, w.ownsRow 0 e z V m xs → e ≠ 32 → e ≠ 30 → w'.ownsRow 0 e z V m xs) := by
  have far : ∀ {e z m : Nat} {V : Value} {xs : List Value}, w.ownsRow 0 e z V m xs → e ≠ 32 → e ≠ 30 → w'.ownsRow 0 e z V m xs := fun hr h1 h2 => hk.row hr (fun g hg hm => by
    simp only [List.mem_cons] at hm
    rcases hm with rfl | hm
    · exact own_ty h.bx (fun q => h1 q.symm) hr (by simp [hg])
    · exact own_two hr h.hT h2 g hg hm)
  refine ⟨⟨far h.hH.own (by decide) (by decide), fun i hi => far (h.hH.each i hi) (by decide) (by decide)⟩, ⟨far h.hS.own (by decide) (by decide), fun i hi => far (h.hS.each i hi) (by decide) (by decide)⟩, fun i hi => ?_, far h.hO (by decide) (by decide), fun i hi => ?_, far⟩
  · obtain ⟨xs, h1⟩ := h.hOr i hi; exact ⟨xs, far h1 (by decide) (by decide)⟩
  · obtain ⟨xs, h1⟩ := h.hTr i hi; exact ⟨xs, far h1 (by decide) (by decide)⟩

/-- tells of a list of spans that is no one's. -/
theorem tells_bk {w : World} {b : Bk} (h : BkAt w b) (ok : BkOk b) (hp : b.r < 8) (xo : Option Addr) (m c : Nat) (l : List (Int × Int)) (hl : m ≤ 6000000000000) (hx : w.ownsRow 0 63 2 (.slice xo m c) m (spc l)) (hf : ∀ z ∈ vb (.slice xo m c), z ∉ b.F) :
    Calls Try.prog 45 #[.pointer (some ⟨b.A, 0, none⟩), .slice xo m c] w fun e w' => ∃ t', e = .returned (.tuple #[]) ∧ BkAt w' { b with t := t', r := b.r + 1, ft := snc b.ft b.r ⟨xo, m, c, 0⟩ } ∧ BkOk { b with t := t', r := b.r + 1, ft := snc b.ft b.r ⟨xo, m, c, 0⟩ } ∧ Kept (b.A :: vb b.t) w w' ∧ Lies w b.t t' := by
  refine (tells_any w b.A b.l b.s b.o b.t b.k b.u b.ks b.us b.r _ xo m c h.bx h.hT (by omega)).mono ?_
  rintro e w' ⟨t', rfl, bx, ho, hk, li⟩
  obtain ⟨r1, r2, r3, r4, r5, far⟩ := h.restT hk
  refine ⟨t', rfl, ⟨bx, r1, r2, r4, r3, by rw [ocs_snc]; exact ho, fun i hi => ?_, far h.hk (by decide) (by decide), far h.hu (by decide) (by decide), far h.hks (by decide) (by decide), far h.hus (by decide) (by decide), h.ap, h.as_.snoc _ (fun x hx => ?_)⟩, ⟨ok.hn, ok.hp, ok.hq, by show b.r + 1 ≤ 8; omega, ok.lf, ok.lg, ok.lo, fun i hi => ?_, ok.kb, ok.kl⟩, hk, li⟩
  · have hi : i < b.r + 1 := hi
    by_cases e : i = b.r
    · subst e; refine ⟨spc l, ?_⟩; simp only [snc_at]; exact far hx (by decide) (by decide)
    · simp only [snc_lt b.ft b.r _ i (by omega)]; exact r5 i (by omega)
  · have hn := hf x hx
    exact ⟨fun j hj hm => hn (vb_mem (by have := mem_blks hj hm; simp [this])), fun j hj hm => hn (vb_mem (by have := mem_blks hj hm; simp [this])), fun hm => hn (vb_mem (by simp [hm])), fun hm => hn (vb_mem (by simp [hm]))⟩
  · have hi : i < b.r + 1 := hi
    show (snc b.ft b.r _ i).l ≤ _
    by_cases e : i = b.r
    · subst e; rw [snc_at]; exact hl
    · rw [snc_lt b.ft b.r _ i (by omega)]; exact ok.lt i (by omega)

/-- heldSpans of two lists alike that are no one's. -/
theorem heldS_bk {w : World} {b : Bk} (h : BkAt w b) (ok : BkOk b) (hp : b.r < 8) (x y : Value) (l : List (Int × Int)) (hl : l.length ≤ 6000000000000) (hx : w.ownsRow 0 63 2 x l.length (spc l)) (hy : w.ownsRow 0 63 2 y l.length (spc l)) (hf : ∀ z, z ∈ vb x ∨ z ∈ vb y → z ∉ b.F) (hxy : ∀ z ∈ vb x, z ∉ vb y) :
    Calls Try.prog 46 #[.pointer (some ⟨b.A, 0, none⟩), x, y] w fun e w' => ∃ t' K, e = .returned (.bool true) ∧ sl K = b.ks ∧ BkAt w' { b with t := t', r := b.r + 1, ft := snc b.ft b.r K, ks := x, us := y, kl := l } ∧ BkOk { b with t := t', r := b.r + 1, ft := snc b.ft b.r K, ks := x, us := y, kl := l } ∧ Kept (b.A :: vb b.t) w w' ∧ Lies w b.t t' := by
  obtain ⟨ko, kc, ek, -, -, -, -⟩ := row_form2 h.hks
  obtain ⟨uo, uc, eu, -, -, -, -⟩ := row_form2 h.hus
  obtain ⟨xo, xc, ex, -, -, -, -⟩ := row_form2 hx
  obtain ⟨yo, yc, ey, -, -, -, -⟩ := row_form2 hy
  have hbx := h.bx
  rw [ek, eu] at hbx
  refine (heldS_any w b.A b.l b.s b.o b.t b.k b.u b.r _ ko uo b.kl.length kc uc b.kl x y hbx h.hT (by omega) (by rw [← ek]; exact h.hks) (by rw [← eu]; exact h.hus) rfl (by have := ok.kl; omega) ⟨_, _, _, ex⟩ ⟨_, _, _, ey⟩).mono ?_
  rintro e w' ⟨t', rfl, bx, ho, hk, li⟩
  obtain ⟨r1, r2, r3, r4, r5, far⟩ := h.restT hk
  have eK : sl (⟨ko, b.kl.length, kc, 0⟩ : Hd) = b.ks := ek.symm
  refine ⟨t', ⟨ko, b.kl.length, kc, 0⟩, rfl, eK, ⟨bx, r1, r2, r4, r3, by rw [ocs_snc]; exact ho, fun i hi => ?_, far h.hk (by decide) (by decide), far h.hu (by decide) (by decide), far hx (by decide) (by decide), far hy (by decide) (by decide), h.ap, h.as_.held _ eK (fun z hz => ?_) hxy⟩, ⟨ok.hn, ok.hp, ok.hq, by show b.r + 1 ≤ 8; omega, ok.lf, ok.lg, ok.lo, fun i hi => ?_, ok.kb, hl⟩, hk, li⟩
  · have hi : i < b.r + 1 := hi
    by_cases e : i = b.r
    · subst e; refine ⟨spc b.kl, ?_⟩; simp only [snc_at]; rw [eK]; exact far h.hks (by decide) (by decide)
    · simp only [snc_lt b.ft b.r _ i (by omega)]; exact r5 i (by omega)
  · have hn := hf z hz
    exact ⟨fun j hj hm => hn (vb_mem (by have := mem_blks hj hm; simp [this])), fun j hj hm => hn (vb_mem (by have := mem_blks hj hm; simp [this])), fun hm => hn (vb_mem (by simp [hm]))⟩
  · have hi : i < b.r + 1 := hi
    show (snc b.ft b.r _ i).l ≤ _
    by_cases e : i = b.r
    · subst e; rw [snc_at]; show b.kl.length ≤ _; exact ok.kl
    · rw [snc_lt b.ft b.r _ i (by omega)]; exact ok.lt i (by omega)

end Go.Proofs.Ytiojcfffhcipnaa
