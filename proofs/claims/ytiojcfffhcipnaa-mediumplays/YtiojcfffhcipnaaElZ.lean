import Derived.Test.YtiojcfffhcipnaaEk
namespace Go.Proofs.Ytiojcfffhcipnaa
open Go.RowKit

/-- The program's medium of a pair has changed; both have. -/
def Half (W u : World) (b : Sta) (c : Nat) (s' : Md) : Prop := ∃ V', SepI W u (b.setP c V' (b.L c) s').Dm (b.setP c V' (b.L c) s').R
def Both (W u : World) (b : Sta) (c : Nat) (s' t' : Md) : Prop := ∃ V' U', SepI W u ((b.setP c V' (b.L c) s').setD c U' (b.M c) t').Dm ((b.setP c V' (b.L c) s').setD c U' (b.M c) t').R

section
variable {W u u' : World} {b : Sta} {c : Nat} {s' t' : Md} {ks : List Nat}

theorem half_of {V' : Value} (h : SepI W u b.Dm b.R) (hc : c < b.C) (hm : Med u' (b.P c) V' (b.L c) s' 0) (hk : Kept ks u u') (hks : ∀ x ∈ ks, x ∈ foot (b.P c) (b.V c) (b.L c)) (hV : LiM u (b.V c) V') : Half W u' b c s' :=
  ⟨V', StA.stepP h hc hk (fun x hx => .inl (hks x hx)) hm hV (fun _ hx => .inl hx)⟩
theorem both_of {U' : Value} (h : Half W u b c s') (hc : c < b.C) (hm : Rmd u' (b.D c) U' (b.M c) t') (hk : Kept ks u u') (hks : ∀ x ∈ ks, x ∈ foot (b.D c) (b.U c) (b.M c)) (hU : LiM u (b.U c) U') : Both W u' b c s' t' := by
  obtain ⟨V', h⟩ := h
  exact ⟨V', U', StA.stepD h (c := c) hc hk (fun x hx => .inl (hks x hx)) hm hU (fun _ hx => .inl hx)⟩
theorem Half.doc (h : Half W u b c s') (hc : c < b.C) : Rmd u (b.D c) (b.U c) (b.M c) (b.t c) := by
  obtain ⟨V', h⟩ := h
  exact h.P (1, c) hc
theorem Half.old (h : Half W u b c s') : Kept [] W u := by
  obtain ⟨V', h⟩ := h
  exact h.old
theorem Half.new (h : Half W u b c s') (hc : c < b.C) : ∀ x ∈ foot (b.D c) (b.U c) (b.M c), W.heap.size ≤ x := by
  obtain ⟨V', h⟩ := h
  exact h.new (1, c) hc
theorem Half.cells {i : Nat} (h : Half W u b c s') (hi : i < 2) : u.cell? ⟨b.X i, 0, none⟩ = some (.pointer (some ⟨b.P (b.mu i), 0, none⟩)) ∧ u.cell? ⟨b.X i, 1, none⟩ = some (.pointer (some ⟨b.D (b.mu i), 0, none⟩)) := by
  obtain ⟨V', h⟩ := h
  obtain ⟨p0, p1, -, -⟩ := pair_cells h hi
  exact ⟨p0, p1⟩
theorem Half.op {a : Sta} {B g T : Nat} {q : Stp} {f : Nat → Nat} (h : Half W u b c s') (hn : b.ne = 2) (he : b.e = (a.tmp B q g f T).e) : opb u B q := by
  obtain ⟨V', h⟩ := h
  have h0 : (b.e 0).P u := h.P (10, 0) (by show 0 < b.ne; omega)
  rw [he] at h0
  exact h0
theorem Half.keep (h : Half W u b c s') (hk : Kept [] u u') : Half W u' b c s' := by
  obtain ⟨V', h⟩ := h
  exact ⟨V', h.keep hk⟩
theorem Both.cells {i : Nat} (h : Both W u b c s' t') (hi : i < 2) : u.cell? ⟨b.X i, 0, none⟩ = some (.pointer (some ⟨b.P (b.mu i), 0, none⟩)) ∧ u.cell? ⟨b.X i, 1, none⟩ = some (.pointer (some ⟨b.D (b.mu i), 0, none⟩)) := by
  obtain ⟨V', U', h⟩ := h
  obtain ⟨p0, p1, -, -⟩ := pair_cells h hi
  exact ⟨p0, p1⟩
theorem Both.op {a : Sta} {B g T : Nat} {q : Stp} {f : Nat → Nat} (h : Both W u b c s' t') (hn : b.ne = 2) (he : b.e = (a.tmp B q g f T).e) : opb u B q := by
  obtain ⟨V', U', h⟩ := h
  have h0 : (b.e 0).P u := h.P (10, 0) (by show 0 < b.ne; omega)
  rw [he] at h0
  exact h0
theorem Both.done {k z k' : Nat} (h : Both W u b c s' t') (ok : b.Ok k z) (al : Alk s' t') (ms : Mok s') (mt : Mok t') (hl : s'.b.length ≤ z) (hg : s'.g.length ≤ k') (hkk : k ≤ k') (hk : k' ≤ 2600000000000) :
    ∃ aS : Sta, StA W u aS k' z ∧ aS.X = b.X ∧ aS.b.A = b.b.A ∧ aS.ne = b.ne ∧ aS.e = b.e := by
  obtain ⟨V', U', h⟩ := h
  exact ⟨_, ⟨h, Sta.Ok.both ok c al ms mt hl hg hkk hk⟩, rfl, rfl, rfl, rfl⟩

/-- Arm. -/
theorem arm1 {n m : Int} (h : SepI W u b.Dm b.R) (hc : c < b.C) : Calls Try.prog 14 #[.pointer (some ⟨b.P c, 0, none⟩), .int .i64 n, .int .i64 m] u fun e u' => e = .returned (.int .i64 (arE (b.s c) n m)) ∧ Half W u' b c (arS (b.s c) n m) := by
  have HM : Med u (b.P c) (b.V c) (b.L c) (b.s c) 0 := h.P (0, c) hc
  refine (arm_any u _ _ _ _ n m HM).mono ?_
  rintro e w' ⟨rfl, hm, hk⟩
  exact ⟨rfl, half_of h hc hm hk (inP _ _ _) (fun _ hx => .inl hx)⟩
theorem arm2 {n m : Int} (h : Half W u b c s') (hc : c < b.C) : Calls Try.prog 28 #[.pointer (some ⟨b.D c, 0, none⟩), .int .i64 n, .int .i64 m] u fun e u' => e = .returned (.int .i64 (arE (b.t c) n m)) ∧ Both W u' b c s' (arS (b.t c) n m) := by
  refine (rarm_any u _ _ _ _ n m (h.doc hc)).mono ?_
  rintro e w' ⟨rfl, hm, hk⟩
  exact ⟨rfl, both_of h hc hm hk (inP _ _ _) (fun _ hx => .inl hx)⟩
/-- Truncate. -/
theorem trunc1 {n : Int} (h : SepI W u b.Dm b.R) (hc : c < b.C) : Calls Try.prog 32 #[.pointer (some ⟨b.P c, 0, none⟩), .int .i64 n] u fun e u' => e = .returned (.int .i64 (trE (b.s c) n)) ∧ Half W u' b c (trS (b.s c) n) := by
  have HM : Med u (b.P c) (b.V c) (b.L c) (b.s c) 0 := h.P (0, c) hc
  refine (truncate_any u _ _ _ _ n HM).mono ?_
  rintro e w' ⟨V', rfl, hm, hk, hV⟩
  exact ⟨rfl, half_of h hc hm hk (inP _ _ _) (fun x hx => .inl (by rw [← hV]; exact hx))⟩
theorem trunc2 {n : Int} (h : Half W u b c s') (hc : c < b.C) (ok : (b.t c).b.length ≤ 268435456) : Calls Try.prog 33 #[.pointer (some ⟨b.D c, 0, none⟩), .int .i64 n] u fun e u' => e = .returned (.int .i64 (trE (b.t c) n)) ∧ Both W u' b c s' (trS (b.t c) n) := by
  refine (rtruncate_any u _ _ _ _ n (h.doc hc) ok).mono ?_
  rintro e w' ⟨V', rfl, hm, hk, hV⟩
  exact ⟨rfl, both_of h hc hm hk (inV _ _ _) hV⟩
/-- Overwrite. -/
theorem over1 {x : Int} {so : Option Addr} {m sc : Nat} {l : List Nat} (h : SepI W u b.Dm b.R) (hc : c < b.C) (ok : (b.s c).b.length ≤ 268435456) (hr : Reads u so l) (hm : l.length = m) (hP : l = [] ∨ ∀ g off, so = some ⟨g, off, none⟩ → g ≠ b.P c) (a1 : x ≤ 9223372036854775807) : Calls Try.prog 30 #[.pointer (some ⟨b.P c, 0, none⟩), .int .i64 x, .slice so m sc] u fun e u' => e = .returned (.int .i64 (owE (b.s c) x l)) ∧ Half W u' b c (owS (b.s c) x l) := by
  have HM : Med u (b.P c) (b.V c) (b.L c) (b.s c) 0 := h.P (0, c) hc
  refine (overwrite_any u _ _ _ _ x so m sc l HM ok hr hm hP a1).mono ?_
  rintro e w' ⟨rfl, hm, hk⟩
  exact ⟨rfl, half_of h hc hm hk (inV _ _ _) (fun _ hx => .inl hx)⟩
theorem over2 {x : Int} {so : Option Addr} {m sc : Nat} {l : List Nat} (h : Half W u b c s') (hc : c < b.C) (ok : (b.t c).b.length ≤ 268435456) (hr : Reads W so l) (hm : l.length = m) (a1 : x ≤ 9223372036854775807) : Calls Try.prog 31 #[.pointer (some ⟨b.D c, 0, none⟩), .int .i64 x, .slice so m sc] u fun e u' => e = .returned (.int .i64 (owE (b.t c) x l)) ∧ Both W u' b c s' (owS (b.t c) x l) := by
  refine (roverwrite_any u _ _ _ _ x so m sc l (h.doc hc) ok (hr.keep h.old) hm ?_ a1).mono ?_
  · rcases reads_old hr with e | e
    · exact .inl e
    · refine .inr (fun g off e1 hm => ?_)
      have h1 := e g off e1
      have h2 := h.new hc g (by simp only [foot, List.mem_cons, List.mem_append]; exact .inr (.inl hm))
      omega
  · rintro e w' ⟨rfl, hm, hk⟩
    exact ⟨rfl, both_of h hc hm hk (fun x hx => by simp only [foot, List.mem_cons, List.mem_append]; exact .inr (.inl hx)) (fun _ hx => .inl hx)⟩
/-- Append. -/
theorem appe1 {so : Option Addr} {m sc : Nat} {l : List Nat} (h : SepI W u b.Dm b.R) (hc : c < b.C) (ok : Mok (b.s c)) (hr : Reads u so l) (hm : l.length = m) (hms : m ≤ sc) (hn : so = none → sc = 0) (hP : l = [] ∨ ∀ g off, so = some ⟨g, off, none⟩ → g ≠ b.P c) : Calls Try.prog 15 #[.pointer (some ⟨b.P c, 0, none⟩), .slice so m sc] u fun e u' => e = .returned (.tuple #[.int .i64 (apA (b.s c) l), .int .i64 (apE (b.s c) l)]) ∧ Half W u' b c (apS (b.s c) l) := by
  have HM : Med u (b.P c) (b.V c) (b.L c) (b.s c) 0 := h.P (0, c) hc
  refine (append_any u _ _ _ _ so m sc l HM ok hr hm hms hn hP).mono ?_
  rintro e w' ⟨V', rfl, hm, hk, hl⟩
  exact ⟨rfl, half_of h hc hm hk (inV _ _ _) hl.lim⟩
theorem rappend_any (w : World) (P : Nat) (V L : Value) (s : Md) (so : Option Addr) (m sc : Nat) (l : List Nat) (h : Rmd w P V L s) (ok : Mok s) (hr : Reads w so l) (hm : l.length = m) (hms : m ≤ sc) (hc : so = none → sc = 0) (hP : l = [] ∨ ∀ g off, so = some ⟨g, off, none⟩ → g ≠ P) :
    Calls Try.prog 27 #[.pointer (some ⟨P, 0, none⟩), .slice so m sc] w fun e w' => ∃ V', e = .returned (.tuple #[.int .i64 (apA s l), .int .i64 (apE s l)]) ∧ Rmd w' P V' L (rapS s l) ∧ Kept (P :: V.ownBlock.toList) w w' ∧ Lies w V V' := by
  by_cases hd : s.dead = true
  · refine (rappend_dead w P V L s so m sc h hd).mono ?_
    rintro e w' ⟨rfl, rfl⟩
    exact ⟨V, by simp [apA, apE, hd], by simpa [rapS, hd] using h, Kept.refl _ _, Lies.refl _ _⟩
  · have hd' : s.dead = false := by simpa using hd
    by_cases hf : 268435456 < s.b.length + m
    · refine (rappend_full w P V L s so m sc h ok.n hd' hf).mono ?_
      rintro e w' ⟨rfl, rfl⟩
      exact ⟨V, by simp [apA, apE, hd, hm, hf], by simpa [rapS, hd, hm, hf] using h, Kept.refl _ _, Lies.refl _ _⟩
    · by_cases hl : s.left = 1
      · refine (rappend_dies w P V L s so m sc l h ok hr hm hms hc hd' (by omega) hl).mono ?_
        rintro e w' ⟨V', rfl, h1, k1, l1⟩
        exact ⟨V', by simp [apA, apE, hd, hm, hf, hl], by simpa [rapS, hd, hm, hf, hl] using h1, k1, l1⟩
      · refine (rappend_ok w P V L s so m sc l h ok hr hm hc hP hd' (by omega) hl).mono ?_
        rintro e w' ⟨V', rfl, h1, k1, l1⟩
        exact ⟨V', by simp [apA, apE, hd, hm, hf, hl], by simpa [rapS, hd, hm, hf, hl] using h1, k1, l1⟩
theorem appe2 {so : Option Addr} {m sc : Nat} {l : List Nat} (h : Half W u b c s') (hc : c < b.C) (ok : Mok (b.t c)) (hr : Reads W so l) (hm : l.length = m) (hms : m ≤ sc) (hn : so = none → sc = 0) : Calls Try.prog 27 #[.pointer (some ⟨b.D c, 0, none⟩), .slice so m sc] u fun e u' => e = .returned (.tuple #[.int .i64 (apA (b.t c) l), .int .i64 (apE (b.t c) l)]) ∧ Both W u' b c s' (rapS (b.t c) l) := by
  refine (rappend_any u _ _ _ _ so m sc l (h.doc hc) ok (hr.keep h.old) hm hms hn ?_).mono ?_
  · rcases reads_old hr with e | e
    · exact .inl e
    · refine .inr (fun g off e1 hm => ?_)
      have h1 := e g off e1
      have h2 := h.new hc g (by simp [foot, hm])
      omega
  · rintro e w' ⟨V', rfl, hm, hk, hl⟩
    exact ⟨rfl, both_of h hc hm hk (inV _ _ _) hl.lim⟩
end
theorem rapS_ok {s : Md} {l : List Nat} (ok : Mok s) (hl : Byts l) : Mok (rapS s l) := by
  obtain ⟨h1, h2, h3, h4, h5, h6⟩ := ok
  unfold rapS
  split
  · exact ⟨h1, h2, h3, h4, h5, h6⟩
  · split
    · exact ⟨h1, h2, h3, h4, h5, h6⟩
    · split
      · refine ⟨by simp; omega, fun b hb => ?_, by simp, by simp, h5, h6⟩
        simp only [List.mem_append] at hb
        rcases hb with hb | hb
        · exact h2 b hb
        · exact hl b (List.mem_of_mem_take hb)
      · refine ⟨by simp; omega, fun b hb => ?_, by simp only; split <;> omega, by simp only; split <;> omega, h5, h6⟩
        simp only [List.mem_append] at hb
        rcases hb with hb | hb
        · exact h2 b hb
        · exact hl b hb
theorem apS_len {s : Md} {l : List Nat} : (apS s l).b.length ≤ s.b.length + l.length ∧ (apS s l).g = s.g := by
  unfold apS
  split
  · exact ⟨by omega, rfl⟩
  · split
    · exact ⟨by omega, rfl⟩
    · split
      · exact ⟨by simp; omega, rfl⟩
      · exact ⟨by simp, rfl⟩
theorem arS_ok {s : Md} {n m : Int} (ok : Mok s) (hn : n ≤ 9223372036854775807) (hm : m ≤ 9223372036854775807) : Mok (arS s n m) := by
  obtain ⟨h1, h2, h3, h4, h5, h6⟩ := ok
  unfold arS
  split
  · exact ⟨h1, h2, h3, h4, h5, h6⟩
  · split
    · exact ⟨h1, h2, h3, h4, h5, h6⟩
    · exact ⟨h1, h2, by simp only; omega, hn, by simp only; omega, hm⟩
theorem arS_bg {s : Md} {n m : Int} : (arS s n m).b = s.b ∧ (arS s n m).g = s.g := by
  unfold arS
  split
  · exact ⟨rfl, rfl⟩
  · split <;> exact ⟨rfl, rfl⟩
theorem trS_ok {s : Md} {n : Int} (ok : Mok s) : Mok (trS s n) ∧ (trS s n).b.length ≤ s.b.length ∧ (trS s n).g = s.g := by
  obtain ⟨h1, h2, h3, h4, h5, h6⟩ := ok
  unfold trS
  split
  · exact ⟨⟨h1, h2, h3, h4, h5, h6⟩, Nat.le_refl _, rfl⟩
  · exact ⟨⟨by simp; omega, fun b hb => h2 b (List.mem_of_mem_take hb), h3, h4, h5, h6⟩, by simp; omega, rfl⟩
theorem owS_ok {s : Md} {x : Int} {l : List Nat} (ok : Mok s) (hl : Byts l) : Mok (owS s x l) ∧ (owS s x l).b.length ≤ s.b.length ∧ (owS s x l).g = s.g := by
  obtain ⟨h1, h2, h3, h4, h5, h6⟩ := ok
  unfold owS
  split
  · rename_i hi
    have hle : x.toNat + l.length ≤ s.b.length := by simp only [inB, decide_eq_true_eq] at hi; omega
    refine ⟨⟨by simp only [owB_len _ _ _ hle]; exact h1, fun b hb => ?_, h3, h4, h5, h6⟩, by simp only [owB_len _ _ _ hle]; omega, rfl⟩
    simp only [owB, List.mem_append] at hb
    rcases hb with (hb | hb) | hb
    · exact h2 b (List.mem_of_mem_take hb)
    · exact hl b hb
    · exact h2 b (List.mem_of_mem_drop hb)
  · exact ⟨⟨h1, h2, h3, h4, h5, h6⟩, Nat.le_refl _, rfl⟩

/-- Both sides of a call that answers a number alone: they answer alike, and what stands behind it is a state. -/
theorem arm_both {W : World} {b : Sta} {k z c : Nat} (ok : b.Ok k z) (hc : c < b.C) (n m : Int) (hn : n ≤ 9223372036854775807) (hm : m ≤ 9223372036854775807) (hk : k + 1 ≤ 2600000000000) : ∃ (r : Int) (s' t' : Md),
    (∀ u, SepI W u b.Dm b.R → Calls Try.prog 14 #[.pointer (some ⟨b.P c, 0, none⟩), .int .i64 n, .int .i64 m] u fun e u' => e = .returned (.int .i64 r) ∧ Half W u' b c s') ∧
    (∀ u, Half W u b c s' → Calls Try.prog 28 #[.pointer (some ⟨b.D c, 0, none⟩), .int .i64 n, .int .i64 m] u fun e u' => e = .returned (.int .i64 r) ∧ Both W u' b c s' t') ∧
    ∀ u, Both W u b c s' t' → ∃ aS : Sta, StA W u aS (k + 1) z ∧ aS.X = b.X ∧ aS.b.A = b.b.A ∧ aS.ne = b.ne ∧ aS.e = b.e := by
  obtain ⟨e1, e2⟩ := (ok.alk c hc).arm n m
  refine ⟨arE (b.s c) n m, arS (b.s c) n m, arS (b.t c) n m, fun u h => arm1 h hc, fun u h => by rw [← e1]; exact arm2 h hc, fun u h => h.done ok e2 (arS_ok (ok.mok c hc) hn hm) (arS_ok (ok.mokt c hc) hn hm) ?_ ?_ (by omega) hk⟩
  · rw [arS_bg.1]; exact ok.len c hc
  · rw [arS_bg.2]; have := ok.log c hc; omega
theorem trunc_both {W : World} {b : Sta} {k z c : Nat} (ok : b.Ok k z) (hc : c < b.C) (n : Int) (hk : k + 1 ≤ 2600000000000) : ∃ (r : Int) (s' t' : Md),
    (∀ u, SepI W u b.Dm b.R → Calls Try.prog 32 #[.pointer (some ⟨b.P c, 0, none⟩), .int .i64 n] u fun e u' => e = .returned (.int .i64 r) ∧ Half W u' b c s') ∧
    (∀ u, Half W u b c s' → Calls Try.prog 33 #[.pointer (some ⟨b.D c, 0, none⟩), .int .i64 n] u fun e u' => e = .returned (.int .i64 r) ∧ Both W u' b c s' t') ∧
    ∀ u, Both W u b c s' t' → ∃ aS : Sta, StA W u aS (k + 1) z ∧ aS.X = b.X ∧ aS.b.A = b.b.A ∧ aS.ne = b.ne ∧ aS.e = b.e := by
  obtain ⟨e1, e2⟩ := (ok.alk c hc).trunc n
  refine ⟨trE (b.s c) n, trS (b.s c) n, trS (b.t c) n, fun u h => trunc1 h hc, fun u h => by rw [← e1]; exact trunc2 h hc (ok.mokt c hc).n, fun u h => h.done ok e2 (trS_ok (ok.mok c hc)).1 (trS_ok (ok.mokt c hc)).1 ?_ ?_ (by omega) hk⟩
  · have := (trS_ok (n := n) (ok.mok c hc)).2.1; have := ok.len c hc; omega
  · rw [(trS_ok (ok.mok c hc)).2.2]; have := ok.log c hc; omega
theorem over_both {W : World} {b : Sta} {k z c g : Nat} {so : Option Addr} {m sc mc : Nat} {l : List Nat} (ok : b.Ok k z) (hc : c < b.C) (x : Int) (hx : x ≤ 9223372036854775807) (hk : k + 1 ≤ 2600000000000) (hr : Reads W so l) (hm : l.length = m) (hl : Byts l)
    (hP : ∀ u, SepI W u b.Dm b.R → g ≠ b.P c ∧ Reads u (some ⟨g, 0, none⟩) l) : ∃ (r : Int) (s' t' : Md),
    (∀ u, SepI W u b.Dm b.R → Calls Try.prog 30 #[.pointer (some ⟨b.P c, 0, none⟩), .int .i64 x, .slice (some ⟨g, 0, none⟩) m mc] u fun e u' => e = .returned (.int .i64 r) ∧ Half W u' b c s') ∧
    (∀ u, Half W u b c s' → Calls Try.prog 31 #[.pointer (some ⟨b.D c, 0, none⟩), .int .i64 x, .slice so m sc] u fun e u' => e = .returned (.int .i64 r) ∧ Both W u' b c s' t') ∧
    ∀ u, Both W u b c s' t' → ∃ aS : Sta, StA W u aS (k + 1) z ∧ aS.X = b.X ∧ aS.b.A = b.b.A ∧ aS.ne = b.ne ∧ aS.e = b.e := by
  obtain ⟨e1, e2⟩ := (ok.alk c hc).over x l
  refine ⟨owE (b.s c) x l, owS (b.s c) x l, owS (b.t c) x l, fun u h => over1 h hc (ok.mok c hc).n (hP u h).2 hm (.inr (fun y off e => by cases e; exact (hP u h).1)) hx, fun u h => by rw [← e1]; exact over2 h hc (ok.mokt c hc).n hr hm hx, fun u h => h.done ok e2 (owS_ok (ok.mok c hc) hl).1 (owS_ok (ok.mokt c hc) hl).1 ?_ ?_ (by omega) hk⟩
  · have := (owS_ok (x := x) (ok.mok c hc) hl).2.1; have := ok.len c hc; omega
  · rw [(owS_ok (ok.mok c hc) hl).2.2]; have := ok.log c hc; omega
theorem appe_both {W : World} {b : Sta} {k z c g : Nat} {so : Option Addr} {m sc mc : Nat} {l : List Nat} (ok : b.Ok k z) (hc : c < b.C) (hz : (b.s c).b.length + m ≤ z) (hk : k + 1 ≤ 2600000000000) (hr : Reads W so l) (hm : l.length = m) (hl : Byts l) (hms : m ≤ sc) (hn : so = none → sc = 0) (hmc : m ≤ mc)
    (hP : ∀ u, SepI W u b.Dm b.R → g ≠ b.P c ∧ Reads u (some ⟨g, 0, none⟩) l) : ∃ (r r2 : Int) (s' t' : Md),
    (∀ u, SepI W u b.Dm b.R → Calls Try.prog 15 #[.pointer (some ⟨b.P c, 0, none⟩), .slice (some ⟨g, 0, none⟩) m mc] u fun e u' => e = .returned (.tuple #[.int .i64 r, .int .i64 r2]) ∧ Half W u' b c s') ∧
    (∀ u, Half W u b c s' → Calls Try.prog 27 #[.pointer (some ⟨b.D c, 0, none⟩), .slice so m sc] u fun e u' => e = .returned (.tuple #[.int .i64 r, .int .i64 r2]) ∧ Both W u' b c s' t') ∧
    ∀ u, Both W u b c s' t' → ∃ aS : Sta, StA W u aS (k + 1) z ∧ aS.X = b.X ∧ aS.b.A = b.b.A ∧ aS.ne = b.ne ∧ aS.e = b.e := by
  obtain ⟨e1, e0, e2⟩ := (ok.alk c hc).app l
  refine ⟨apA (b.s c) l, apE (b.s c) l, apS (b.s c) l, rapS (b.t c) l, fun u h => appe1 h hc (ok.mok c hc) (hP u h).2 hm hmc (by simp) (.inr (fun y off e => by cases e; exact (hP u h).1)), fun u h => by rw [← e1, ← e0]; exact appe2 h hc (ok.mokt c hc) hr hm hms hn, fun u h => h.done ok e2 (apS_ok (ok.mok c hc) hl) (rapS_ok (ok.mokt c hc) hl) ?_ ?_ (by omega) hk⟩
  · have := (apS_len (s := b.s c) (l := l)).1; omega
  · rw [apS_len.2]; have := ok.log c hc; omega
/-- What was lent lies apart from the media, and reads as what it was made of. -/
theorem lent_apart {W u : World} {a b : Sta} {c B g : Nat} {q : Stp} {f : Nat → Nat} (h : SepI W u b.Dm b.R) (hc : c < b.C) (hn : b.ne = 2) (he : b.e = (a.tmp B q g f (q.mm + 5)).e) (hm : q.l.length = q.mm) (hf : ∀ j, j < q.mm → f j = q.l.getD j 0) : g ≠ b.P c ∧ Reads u (some ⟨g, 0, none⟩) q.l := by
  have h1 : (b.e 1).P u := h.P (10, 1) (by show 1 < b.ne; omega)
  have h2 := h.apart (10, 1) (0, c) (by show 1 < b.ne; omega) hc (by simp) g (by show g ∈ (b.e 1).F; rw [he]; show g ∈ [g]; simp)
  rw [he] at h1
  have h1 : Rw u g f (q.mm + 5) := h1
  refine ⟨fun e => h2 ?_, rw_reads h1 (by omega) (fun i hi => hf i (by omega))⟩
  show g ∈ foot (b.P c) (b.V c) (b.L c)
  rw [e]
  simp [foot]
end Go.Proofs.Ytiojcfffhcipnaa

namespace Go.Proofs.Ytiojcfffhcipnaa
open Go.RowKit

/-- One more, which lies there already. -/
theorem SepI.add {W w : World} {D : Nat × Nat → Prop} {R : Nat × Nat → Rsc} {r : Rsc} (h : SepI W w D R) (i : Nat × Nat) (hi : ¬ D i) (hr : r.P w) (hF : ∀ x ∈ r.F, W.heap.size ≤ x ∧ ∀ j, D j → x ∉ (R j).F) : SepI W w (fun j => D j ∨ j = i) (updI R i r) := by
  have far : ∀ j, D j → j ≠ i := fun j hj e => hi (e ▸ hj)
  refine ⟨h.old, fun j hj => ?_, fun j hj x hx => ?_, fun j k hj hk' hjk x hx hx2 => ?_⟩
  · rcases hj with hj | rfl
    · rw [updI_far _ _ _ _ (far j hj)]; exact h.P j hj
    · rw [updI_at]; exact hr
  · rcases hj with hj | rfl
    · rw [updI_far _ _ _ _ (far j hj)] at hx; exact h.new j hj x hx
    · rw [updI_at] at hx; exact (hF x hx).1
  · rcases hj with hj | rfl
    · rw [updI_far _ _ _ _ (far j hj)] at hx
      rcases hk' with hk' | rfl
      · rw [updI_far _ _ _ _ (far k hk')] at hx2
        exact h.apart j k hj hk' hjk x hx hx2
      · rw [updI_at] at hx2
        exact (hF x hx2).2 j hj hx
    · rw [updI_at] at hx
      rcases hk' with hk' | rfl
      · rw [updI_far _ _ _ _ (far k hk')] at hx2
        exact (hF x hx).2 k hk' hx2
      · exact absurd rfl hjk

/-- A medium more, on both sides, and a pair's. -/
def Sta.addM (a : Sta) (i P1 D1 : Nat) (V1 U1 : Value) (s : Md) : Sta := { a with C := a.C + 1, P := updI a.P a.C P1, D := updI a.D a.C D1, V := updI a.V a.C V1, U := updI a.U a.C U1, L := updI a.L a.C (.slice none 0 0), M := updI a.M a.C (.slice none 0 0), s := updI a.s a.C s, t := updI a.t a.C s, mu := updI a.mu i a.C }

theorem updI_lt {α : Type} (f : Nat → α) (n : Nat) (x : α) (j : Nat) (h : j < n) : updI f n x j = f j := updI_far _ _ _ _ (by omega)

theorem load_sep {W w w5 w6 w7 : World} {a : Sta} {k z i P1 D1 : Nat} {V1 U1 : Value} {s : Md} (h : SepI W w a.Dm a.R) (ok : a.Ok k z) (hi : i < 2) (m1 : Med w5 P1 V1 (.slice none 0 0) s 0) (k5 : Kept [] w w5) (f1 : ∀ x ∈ foot P1 V1 (.slice none 0 0), w.heap.size ≤ x) (m2 : Rmd w6 D1 U1 (.slice none 0 0) s) (k6 : Kept [] w5 w6) (f2 : ∀ x ∈ foot D1 U1 (.slice none 0 0), w5.heap.size ≤ x)
    (hb : w7.heap[a.X i]? = some (.cells #[.pointer (some ⟨P1, 0, none⟩), .pointer (some ⟨D1, 0, none⟩), a.S i, a.T i] 41 (0, 0))) (k7 : Kept [a.X i] w6 w7) : SepI W w7 (a.addM i P1 D1 V1 U1 s).Dm (a.addM i P1 D1 V1 U1 s).R := by
  have h1 := SepI.push (r := medR P1 V1 (.slice none 0 0) s) h (0, a.C) (fun e => absurd e (Nat.lt_irrefl _)) k5 m1 f1
  have h2 := SepI.push (r := docR D1 U1 (.slice none 0 0) s) h1 (1, a.C) (fun e => by rcases e with e | e; exact absurd e (Nat.lt_irrefl _); cases e) k6 m2 f2
  have eX : updI (updI a.R (0, a.C) (medR P1 V1 (.slice none 0 0) s)) (1, a.C) (docR D1 U1 (.slice none 0 0) s) (2, i) = a.R (2, i) := by rw [updI_far _ _ _ _ (by simp), updI_far _ _ _ _ (by simp)]
  have h3 := SepI.step (r := obj (a.X i) (.cells #[.pointer (some ⟨P1, 0, none⟩), .pointer (some ⟨D1, 0, none⟩), a.S i, a.T i] 41 (0, 0))) h2 (2, i) (.inl (.inl hi)) k7 (fun x hx => .inl (by rw [eX]; exact hx)) hb (fun x hx => .inl (by rw [eX]; exact hx))
  have mi := ok.mu
  have pi := ok.pi
  refine h3.congr (fun j hj => ?_) (fun j hj => ?_)
  · obtain ⟨n, j⟩ := j
    match n, hj with
    | 0, hj =>
      have hj : j < a.C + 1 := hj
      by_cases e : j = a.C
      · exact .inl (.inr (by rw [e]))
      · exact .inl (.inl (show j < a.C by omega))
    | 1, hj =>
      have hj : j < a.C + 1 := hj
      by_cases e : j = a.C
      · exact .inr (by rw [e])
      · exact .inl (.inl (show j < a.C by omega))
    | 2, hj => exact .inl (.inl hj)
    | 3, hj => exact .inl (.inl hj)
    | 4, hj => exact .inl (.inl hj)
    | 5, hj => exact .inl (.inl hj)
    | 6, hj => exact .inl (.inl hj)
    | 7, hj => exact .inl (.inl hj)
    | 8, hj => exact .inl (.inl hj)
    | 9, hj => exact .inl (.inl hj)
    | 10, hj => exact .inl (.inl hj)
  · obtain ⟨n, j⟩ := j
    match n, hj with
    | 0, hj =>
      rw [updI_far _ _ _ _ (by simp), updI_far _ _ _ _ (by simp)]
      have hj : j < a.C + 1 := hj
      by_cases e : j = a.C
      · subst e
        rw [updI_at]
        simp [Sta.R, Sta.addM, updI]
      · rw [updI_far _ _ _ _ (by simp [e])]
        simp [Sta.R, Sta.addM, updI, e]
    | 1, hj =>
      rw [updI_far _ _ _ _ (by simp)]
      have hj : j < a.C + 1 := hj
      by_cases e : j = a.C
      · subst e
        rw [updI_at]
        simp [Sta.R, Sta.addM, updI]
      · rw [updI_far _ _ _ _ (by simp [e]), updI_far _ _ _ _ (by simp)]
        simp [Sta.R, Sta.addM, updI, e]
    | 2, hj =>
      have hj : j < 2 := hj
      by_cases e : j = i
      · subst e
        rw [updI_at]
        simp [Sta.R, Sta.addM, updI]
      · rw [updI_far _ _ _ _ (by simp [e]), updI_far _ _ _ _ (by simp), updI_far _ _ _ _ (by simp)]
        have := mi j hj
        simp only [Sta.R, Sta.addM, updI_far _ _ _ _ e, updI_lt _ _ _ _ this]
    | 3, hj => rw [updI_far _ _ _ _ (by simp), updI_far _ _ _ _ (by simp), updI_far _ _ _ _ (by simp)]; rfl
    | 4, hj => rw [updI_far _ _ _ _ (by simp), updI_far _ _ _ _ (by simp), updI_far _ _ _ _ (by simp)]; rfl
    | 5, hj => rw [updI_far _ _ _ _ (by simp), updI_far _ _ _ _ (by simp), updI_far _ _ _ _ (by simp)]; rfl
    | 6, hj =>
      have := (pi 0 (by omega) j hj).1
      rw [updI_far _ _ _ _ (by simp), updI_far _ _ _ _ (by simp), updI_far _ _ _ _ (by simp)]
      simp only [Sta.R, Sta.addM, updI_lt _ _ _ _ this]
    | 7, hj =>
      have := (pi 1 (by omega) j hj).1
      rw [updI_far _ _ _ _ (by simp), updI_far _ _ _ _ (by simp), updI_far _ _ _ _ (by simp)]
      simp only [Sta.R, Sta.addM, updI_lt _ _ _ _ this]
    | 8, hj =>
      have := (pi 0 (by omega) j hj).1
      rw [updI_far _ _ _ _ (by simp), updI_far _ _ _ _ (by simp), updI_far _ _ _ _ (by simp)]
      simp only [Sta.R, Sta.addM, updI_lt _ _ _ _ this]
    | 9, hj =>
      have := (pi 1 (by omega) j hj).1
      rw [updI_far _ _ _ _ (by simp), updI_far _ _ _ _ (by simp), updI_far _ _ _ _ (by simp)]
      simp only [Sta.R, Sta.addM, updI_lt _ _ _ _ this]
    | 10, hj => rw [updI_far _ _ _ _ (by simp), updI_far _ _ _ _ (by simp), updI_far _ _ _ _ (by simp)]; rfl
theorem load_ok_st {a : Sta} {k z i P1 D1 : Nat} {V1 U1 : Value} {l : List Nat} (ok : a.Ok k z) (hb : Byts l) (hl : l.length ≤ z) (hk : k + 1 ≤ 2600000000000) : (a.addM i P1 D1 V1 U1 ⟨l, [], false, 0, 0⟩).Ok (k + 1) z := by
  have hz := ok.z
  have up : ∀ {α : Type} (f : Nat → α) (x : α) (d : Nat), d < a.C + 1 → ∀ p : α → Prop, (d < a.C → p (f d)) → p x → p (updI f a.C x d) := fun f x d hd p h1 h2 => by
    by_cases e : d = a.C
    · rw [e, updI_at]; exact h2
    · rw [updI_far _ _ _ _ e]; exact h1 (by omega)
  have mn : Mok ⟨l, [], false, 0, 0⟩ := ⟨by simp only; omega, hb, by simp, by simp, by simp, by simp⟩
  refine ⟨fun d hd => ?_, fun d hd => ?_, fun d hd => ?_, fun d hd => ?_, fun d hd => ?_, fun j hj => ?_, fun j hj m hm => ?_, fun j hj => ?_, ok.bok, ⟨?_, ?_⟩, ok.z, hk⟩
  · have hd : d < a.C + 1 := hd
    show Alk (updI a.s a.C _ d) (updI a.t a.C _ d)
    by_cases e : d = a.C
    · rw [e, updI_at, updI_at]; exact Alk.refl _
    · rw [updI_far _ _ _ _ e, updI_far _ _ _ _ e]; exact ok.alk d (by omega)
  · exact up a.s _ d hd Mok (fun h => ok.mok d h) mn
  · exact up a.t _ d hd Mok (fun h => ok.mokt d h) mn
  · exact up a.s _ d hd (fun s => s.b.length ≤ z) (fun h => ok.len d h) hl
  · exact up a.s _ d hd (fun s => s.g.length ≤ k + 1) (fun h => by have := ok.log d h; omega) (by simp)
  · show updI a.mu i a.C j < a.C + 1
    by_cases e : j = i
    · rw [e, updI_at]; omega
    · rw [updI_far _ _ _ _ e]; have := ok.mu j hj; omega
  · obtain ⟨h1, h2⟩ := ok.pi j hj m hm
    exact ⟨by show a.pi j m < a.C + 1; omega, h2⟩
  · have := ok.pn j hj; show a.n j ≤ k + 1; omega
  · have := ok.bn.1; show a.b.n + a.b.p ≤ 2 * (k + 1); omega
  · have := ok.bn.2; show a.b.q + a.b.r ≤ 2 * (k + 1); omega

/-- A piece more, on both sides. -/
def Sta.addP (a : Sta) (i : Nat) (V1 V2 : Value) (R1 R2 c : Nat) (x l : Int) : Sta := { a with n := updI a.n i (a.n i + 1), rp := updI a.rp i (updI (a.rp i) (a.n i) R1), dp := updI a.dp i (updI (a.dp i) (a.n i) R2), pi := updI a.pi i (updI (a.pi i) (a.n i) c), pa := updI a.pa i (updI (a.pa i) (a.n i) x), pl := updI a.pl i (updI (a.pl i) (a.n i) l), S := updI a.S i V1, T := updI a.T i V2 }
theorem ifs_snoc (f : Nat → Nat) (n R : Nat) : ifs f n ++ [.iface 99 (.pointer (some ⟨R, 0, none⟩))] = ifs (updI f n R) (n + 1) := by
  unfold ifs
  rw [List.range_succ, List.map_append]
  congr 1
  · apply List.map_congr_left
    intro j hj
    rw [updI_lt _ _ _ _ (by simpa using hj)]
  · simp [updI_at]
theorem pts_snoc (f : Nat → Nat) (n R : Nat) : pts f n ++ [.pointer (some ⟨R, 0, none⟩)] = pts (updI f n R) (n + 1) := by
  unfold pts
  rw [List.range_succ, List.map_append]
  congr 1
  · apply List.map_congr_left
    intro j hj
    rw [updI_lt _ _ _ _ (by simpa using hj)]
  · simp [updI_at]

/-- The rows of pieces are grown, and lie in the pair's box. -/
theorem piece_sep {W w w1 w2 w3 w4 : World} {a : Sta} {i c R1 R2 : Nat} {x l : Int} {V1 V2 : Value} (h : SepI W w a.Dm a.R) (hi : i < 2) (hp : Pc w R1 (a.P c) x l) (hd : RPc w R2 (a.D c) x l) (f1 : W.heap.size ≤ R1 ∧ ∀ j, a.Dm j → R1 ∉ (a.R j).F) (f2 : W.heap.size ≤ R2 ∧ ∀ j, a.Dm j → R2 ∉ (a.R j).F) (hne : R1 ≠ R2)
    (o1 : w1.ownsRow 0 59 1 V1 (a.n i + 1) (ifs (a.rp i) (a.n i) ++ [.iface 99 (.pointer (some ⟨R1, 0, none⟩))])) (k1 : Kept (a.S i).ownBlock.toList w w1) (l1 : Lies w (a.S i) V1) (b2 : w2.heap[a.X i]? = some (.cells #[.pointer (some ⟨a.P (a.mu i), 0, none⟩), .pointer (some ⟨a.D (a.mu i), 0, none⟩), V1, a.T i] 41 (0, 0))) (k2 : Kept [a.X i] w1 w2)
    (o3 : w3.ownsRow 0 85 1 V2 (a.n i + 1) (pts (a.dp i) (a.n i) ++ [.pointer (some ⟨R2, 0, none⟩)])) (k3 : Kept (a.T i).ownBlock.toList w2 w3) (l3 : Lies w2 (a.T i) V2) (b4 : w4.heap[a.X i]? = some (.cells #[.pointer (some ⟨a.P (a.mu i), 0, none⟩), .pointer (some ⟨a.D (a.mu i), 0, none⟩), V1, V2] 41 (0, 0))) (k4 : Kept [a.X i] w3 w4) : SepI W w4 (a.addP i V1 V2 R1 R2 c x l).Dm (a.addP i V1 V2 R1 R2 c x l).R := by
  have n6 : ¬ a.Dm (6 + i, a.n i) := by
    rcases (by omega : i = 0 ∨ i = 1) with rfl | rfl <;> exact fun e => absurd e (Nat.lt_irrefl _)
  have n8 : ¬ (a.Dm (8 + i, a.n i) ∨ (8 + i, a.n i) = (6 + i, a.n i)) := by
    rintro (e | e)
    · rcases (by omega : i = 0 ∨ i = 1) with rfl | rfl <;> exact absurd e (Nat.lt_irrefl _)
    · simp at e
  have h1 := SepI.add (r := obj R1 (.cells #[.pointer (some ⟨a.P c, 0, none⟩), .int .i64 x, .int .i64 l] 101 (0, 0))) h (6 + i, a.n i) n6 hp (fun y hy => by
    have hy : y ∈ [R1] := hy
    simp only [List.mem_singleton] at hy
    subst hy; exact f1)
  have h2 := SepI.add (r := obj R2 (.cells #[.pointer (some ⟨a.D c, 0, none⟩), .int .i64 x, .int .i64 l] 104 (0, 0))) h1 (8 + i, a.n i) n8 hd (fun y hy => by
    have hy : y ∈ [R2] := hy
    simp only [List.mem_singleton] at hy
    subst hy
    refine ⟨f2.1, fun j hj hm => ?_⟩
    rcases hj with hj | rfl
    · rw [updI_far _ _ _ _ (fun e => n6 (by rw [← e]; exact hj))] at hm; exact f2.2 j hj hm
    · rw [updI_at] at hm
      have hm : y ∈ [R1] := hm
      simp only [List.mem_singleton] at hm
      exact hne hm.symm)
  have g3 : (3, i) ≠ (6 + i, a.n i) ∧ (3, i) ≠ (8 + i, a.n i) := ⟨fun e => by simp only [Prod.mk.injEq] at e; omega, fun e => by simp only [Prod.mk.injEq] at e; omega⟩
  have g2 : (2, i) ≠ (6 + i, a.n i) ∧ (2, i) ≠ (8 + i, a.n i) := ⟨fun e => by simp only [Prod.mk.injEq] at e; omega, fun e => by simp only [Prod.mk.injEq] at e; omega⟩
  have g4 : (4, i) ≠ (6 + i, a.n i) ∧ (4, i) ≠ (8 + i, a.n i) := ⟨fun e => by simp only [Prod.mk.injEq] at e; omega, fun e => by simp only [Prod.mk.injEq] at e; omega⟩
  rw [ifs_snoc] at o1
  rw [pts_snoc] at o3
  have h3 := SepI.step (r := lstR 59 1 V1 (a.n i + 1) (ifs (updI (a.rp i) (a.n i) R1) (a.n i + 1))) h2 (3, i) (.inl (.inl hi)) k1 (fun y hy => .inl (by rw [updI_far _ _ _ _ g3.2, updI_far _ _ _ _ g3.1]; exact hy)) o1 (fun y hy => by rw [updI_far _ _ _ _ g3.2, updI_far _ _ _ _ g3.1]; exact l1.mem y hy)
  have h4 := SepI.step (r := obj (a.X i) (.cells #[.pointer (some ⟨a.P (a.mu i), 0, none⟩), .pointer (some ⟨a.D (a.mu i), 0, none⟩), V1, a.T i] 41 (0, 0))) h3 (2, i) (.inl (.inl hi)) k2 (fun y hy => .inl (by rw [updI_far _ _ _ _ (by simp), updI_far _ _ _ _ g2.2, updI_far _ _ _ _ g2.1]; exact hy)) b2 (fun y hy => .inl (by rw [updI_far _ _ _ _ (by simp), updI_far _ _ _ _ g2.2, updI_far _ _ _ _ g2.1]; exact hy))
  have h5 := SepI.step (r := lstR 85 1 V2 (a.n i + 1) (pts (updI (a.dp i) (a.n i) R2) (a.n i + 1))) h4 (4, i) (.inl (.inl hi)) k3 (fun y hy => .inl (by rw [updI_far _ _ _ _ (by simp), updI_far _ _ _ _ (by simp), updI_far _ _ _ _ g4.2, updI_far _ _ _ _ g4.1]; exact hy)) o3 (fun y hy => by rw [updI_far _ _ _ _ (by simp), updI_far _ _ _ _ (by simp), updI_far _ _ _ _ g4.2, updI_far _ _ _ _ g4.1]; exact l3.mem y hy)
  have h6 := SepI.step (r := obj (a.X i) (.cells #[.pointer (some ⟨a.P (a.mu i), 0, none⟩), .pointer (some ⟨a.D (a.mu i), 0, none⟩), V1, V2] 41 (0, 0))) h5 (2, i) (.inl (.inl hi)) k4 (fun y hy => .inl (by rw [updI_far _ _ _ _ (by simp), updI_at]; exact hy)) b4 (fun y hy => .inl (by rw [updI_far _ _ _ _ (by simp), updI_at]; exact hy))
  clear h h1 h2 h3 h4 h5
  refine h6.congr (fun j hj => ?_) (fun j hj => ?_)
  · obtain ⟨n, j⟩ := j
    rcases (by omega : i = 0 ∨ i = 1) with rfl | rfl
    · match n, hj with
      | 0, hj => exact .inl (.inl hj)
      | 1, hj => exact .inl (.inl hj)
      | 2, hj => exact .inl (.inl hj)
      | 3, hj => exact .inl (.inl hj)
      | 4, hj => exact .inl (.inl hj)
      | 5, hj => exact .inl (.inl hj)
      | 6, hj =>
        have hj : j < a.n 0 + 1 := hj
        by_cases e : j = a.n 0
        · exact .inl (.inr (by rw [e]))
        · exact .inl (.inl (show j < a.n 0 by omega))
      | 7, hj => exact .inl (.inl hj)
      | 8, hj =>
        have hj : j < a.n 0 + 1 := hj
        by_cases e : j = a.n 0
        · exact .inr (by rw [e])
        · exact .inl (.inl (show j < a.n 0 by omega))
      | 9, hj => exact .inl (.inl hj)
      | 10, hj => exact .inl (.inl hj)
    · match n, hj with
      | 0, hj => exact .inl (.inl hj)
      | 1, hj => exact .inl (.inl hj)
      | 2, hj => exact .inl (.inl hj)
      | 3, hj => exact .inl (.inl hj)
      | 4, hj => exact .inl (.inl hj)
      | 5, hj => exact .inl (.inl hj)
      | 6, hj => exact .inl (.inl hj)
      | 7, hj =>
        have hj : j < a.n 1 + 1 := hj
        by_cases e : j = a.n 1
        · exact .inl (.inr (by rw [e]))
        · exact .inl (.inl (show j < a.n 1 by omega))
      | 8, hj => exact .inl (.inl hj)
      | 9, hj =>
        have hj : j < a.n 1 + 1 := hj
        by_cases e : j = a.n 1
        · exact .inr (by rw [e])
        · exact .inl (.inl (show j < a.n 1 by omega))
      | 10, hj => exact .inl (.inl hj)
  · obtain ⟨n, j⟩ := j
    rcases (by omega : i = 0 ∨ i = 1) with rfl | rfl
    · match n, hj with
      | 0, hj => simp [updI, Sta.R, Sta.addP]
      | 1, hj => simp [updI, Sta.R, Sta.addP]
      | 2, hj => by_cases e : j = 0 <;> simp [updI, Sta.R, Sta.addP, e]
      | 3, hj => by_cases e : j = 0 <;> simp [updI, Sta.R, Sta.addP, e]
      | 4, hj => by_cases e : j = 0 <;> simp [updI, Sta.R, Sta.addP, e]
      | 5, hj => simp [updI, Sta.R, Sta.addP]
      | 6, hj => by_cases e : j = a.n 0 <;> simp [updI, Sta.R, Sta.addP, e]
      | 7, hj => simp [updI, Sta.R, Sta.addP]
      | 8, hj => by_cases e : j = a.n 0 <;> simp [updI, Sta.R, Sta.addP, e]
      | 9, hj => simp [updI, Sta.R, Sta.addP]
      | 10, hj => simp [updI, Sta.R, Sta.addP]
    · match n, hj with
      | 0, hj => simp [updI, Sta.R, Sta.addP]
      | 1, hj => simp [updI, Sta.R, Sta.addP]
      | 2, hj => by_cases e : j = 1 <;> simp [updI, Sta.R, Sta.addP, e]
      | 3, hj => by_cases e : j = 1 <;> simp [updI, Sta.R, Sta.addP, e]
      | 4, hj => by_cases e : j = 1 <;> simp [updI, Sta.R, Sta.addP, e]
      | 5, hj => simp [updI, Sta.R, Sta.addP]
      | 6, hj => simp [updI, Sta.R, Sta.addP]
      | 7, hj => by_cases e : j = a.n 1 <;> simp [updI, Sta.R, Sta.addP, e]
      | 8, hj => simp [updI, Sta.R, Sta.addP]
      | 9, hj => by_cases e : j = a.n 1 <;> simp [updI, Sta.R, Sta.addP, e]
      | 10, hj => simp [updI, Sta.R, Sta.addP]
theorem piece_ok_st {a : Sta} {k z i c R1 R2 : Nat} {x l : Int} {V1 V2 : Value} (ok : a.Ok k z) (hc : c < a.C) (hx : 0 ≤ x ∧ x ≤ 268435456 ∧ 0 ≤ l ∧ l ≤ 268435456) (hk : k + 1 ≤ 2600000000000) : (a.addP i V1 V2 R1 R2 c x l).Ok (k + 1) z := by
  refine ⟨ok.alk, ok.mok, ok.mokt, ok.len, fun d hd => by have := ok.log d hd; show (a.s d).g.length ≤ k + 1; omega, ok.mu, fun j hj m hm => ?_, fun j hj => ?_, ok.bok, ⟨?_, ?_⟩, ok.z, hk⟩
  · have hm : m < updI a.n i (a.n i + 1) j := hm
    show updI a.pi i (updI (a.pi i) (a.n i) c) j m < a.C ∧ 0 ≤ updI a.pa i (updI (a.pa i) (a.n i) x) j m ∧ updI a.pa i (updI (a.pa i) (a.n i) x) j m ≤ 268435456 ∧ 0 ≤ updI a.pl i (updI (a.pl i) (a.n i) l) j m ∧ updI a.pl i (updI (a.pl i) (a.n i) l) j m ≤ 268435456
    by_cases e : j = i
    · subst e
      simp only [updI_at] at hm ⊢
      by_cases e2 : m = a.n j
      · subst e2
        simp only [updI_at]
        exact ⟨hc, hx⟩
      · simp only [updI_far _ _ _ _ e2]
        exact ok.pi j hj m (by omega)
    · simp only [updI_far _ _ _ _ e] at hm ⊢
      exact ok.pi j hj m hm
  · show updI a.n i (a.n i + 1) j ≤ k + 1
    by_cases e : j = i
    · subst e; rw [updI_at]; have := ok.pn j hj; omega
    · rw [updI_far _ _ _ _ e]; have := ok.pn j hj; omega
  · have := ok.bn.1; show a.b.n + a.b.p ≤ 2 * (k + 1); omega
  · have := ok.bn.2; show a.b.q + a.b.r ≤ 2 * (k + 1); omega
end Go.Proofs.Ytiojcfffhcipnaa

namespace Go.Proofs.Ytiojcfffhcipnaa
open Go.RowKit

/-- A piece of the program's; of both. -/
def Pcd (W u : World) (b : Sta) (c R : Nat) (x l : Int) : Prop := SepI W u b.Dm b.R ∧ Pc u R (b.P c) x l ∧ W.heap.size ≤ R ∧ ∀ j, b.Dm j → R ∉ (b.R j).F
def Pcd2 (W u : World) (b : Sta) (c R Q : Nat) (x l : Int) : Prop := Pcd W u b c R x l ∧ RPc u Q (b.D c) x l ∧ W.heap.size ≤ Q ∧ (∀ j, b.Dm j → Q ∉ (b.R j).F) ∧ R ≠ Q

section
variable {W u : World} {b : Sta} {c : Nat} {x l : Int}
theorem pic_yes (h : SepI W u b.Dm b.R) (hc : c < b.C) (ok : (b.s c).b.length ≤ 268435456) (hx : x ≤ 9223372036854775807) (hin : inB x l ((b.s c).b.length : Int) = true) :
    Calls Try.prog 22 #[.pointer (some ⟨b.P c, 0, none⟩), .agg #[.int .i64 x, .int .i64 l]] u fun e u' => ∃ R, e = .returned (.tuple #[.iface 99 (.pointer (some ⟨R, 0, none⟩)), .int .i64 0]) ∧ Pcd W u' b c R x l := by
  have HM : Med u (b.P c) (b.V c) (b.L c) (b.s c) 0 := h.P (0, c) hc
  refine (piece_any u _ _ _ _ x l HM ok hx).mono ?_
  rintro e u' ⟨hm, hk, ⟨-, R, rfl, hp, hR⟩ | ⟨h0, -⟩⟩
  · obtain ⟨f1, f2⟩ := fresh_new h hR
    exact ⟨R, rfl, StA.asked h hc hk hm, hp, f1, f2⟩
  · rw [hin] at h0; cases h0
theorem pic_no (h : SepI W u b.Dm b.R) (hc : c < b.C) (ok : (b.s c).b.length ≤ 268435456) (hx : x ≤ 9223372036854775807) (hin : inB x l ((b.s c).b.length : Int) = false) :
    Calls Try.prog 22 #[.pointer (some ⟨b.P c, 0, none⟩), .agg #[.int .i64 x, .int .i64 l]] u fun e u' => e = .returned (.tuple #[.nilIface, .int .i64 151]) ∧ SepI W u' b.Dm b.R := by
  have HM : Med u (b.P c) (b.V c) (b.L c) (b.s c) 0 := h.P (0, c) hc
  refine (piece_any u _ _ _ _ x l HM ok hx).mono ?_
  rintro e u' ⟨hm, hk, ⟨h0, -⟩ | ⟨-, rfl⟩⟩
  · rw [hin] at h0; cases h0
  · exact ⟨rfl, StA.asked h hc hk hm⟩
theorem rpic_yes {R : Nat} (h : Pcd W u b c R x l) (hc : c < b.C) (ok : (b.t c).b.length ≤ 268435456) (hx : x ≤ 9223372036854775807) (hin : inB x l ((b.t c).b.length : Int) = true) :
    Calls Try.prog 35 #[.pointer (some ⟨b.D c, 0, none⟩), .agg #[.int .i64 x, .int .i64 l]] u fun e u' => ∃ Q, e = .returned (.tuple #[.pointer (some ⟨Q, 0, none⟩), .int .i64 0]) ∧ Pcd2 W u' b c R Q x l := by
  have HD : Rmd u (b.D c) (b.U c) (b.M c) (b.t c) := h.1.P (1, c) hc
  refine (rpiece_any u _ _ _ _ x l HD ok hx).mono ?_
  rintro e u' ⟨hk, ⟨-, Q, rfl, hp, hQ⟩ | ⟨h0, -⟩⟩
  · obtain ⟨f1, f2⟩ := fresh_new h.1 hQ
    have hR : R < u.heap.size := (Array.getElem?_eq_some_iff.1 h.2.1).1
    exact ⟨Q, rfl, ⟨h.1.keep hk, h.2.1.kept hk (by simp), h.2.2⟩, hp, f1, f2, by omega⟩
  · rw [hin] at h0; cases h0
theorem rpic_no (h : SepI W u b.Dm b.R) (hc : c < b.C) (ok : (b.t c).b.length ≤ 268435456) (hx : x ≤ 9223372036854775807) (hin : inB x l ((b.t c).b.length : Int) = false) :
    Calls Try.prog 35 #[.pointer (some ⟨b.D c, 0, none⟩), .agg #[.int .i64 x, .int .i64 l]] u fun e u' => e = .returned (.tuple #[.pointer none, .int .i64 151]) ∧ SepI W u' b.Dm b.R := by
  have HD : Rmd u (b.D c) (b.U c) (b.M c) (b.t c) := h.P (1, c) hc
  refine (rpiece_any u _ _ _ _ x l HD ok hx).mono ?_
  rintro e u' ⟨hk, ⟨h0, -⟩ | ⟨-, rfl⟩⟩
  · rw [hin] at h0; cases h0
  · exact ⟨rfl, h.keep hk⟩
end

theorem Try.info59 : (Try.prog.info? 59).map (fun i => (i.zero, i.size, i.bytes)) = some (some .nilIface, 1, 16) := by kernel_rfl
theorem Try.info85 : (Try.prog.info? 85).map (fun i => (i.zero, i.size, i.bytes)) = some (some (.pointer none), 1, 8) := by kernel_rfl

/-- Both appends of a piece, as equations; what stands behind them. -/
theorem piece_apps {W w : World} {b : Sta} {i c R Q k z X n : Nat} {x l : Int} (h : Pcd2 W w b c R Q x l) (ok : b.Ok k z) (hi : i < 2) (hc : c < b.C) (eX : b.X i = X) (en : b.n i = n) (hx : 0 ≤ x ∧ x ≤ 268435456 ∧ 0 ≤ l ∧ l ≤ 268435456) (hk : k + 1 ≤ 2600000000000) :
    ∃ so sc to_ tc bo cc w1 w2 do_ dc w3 w4, 
    (w.cell? ⟨X, 2, none⟩ = some (.slice so n sc) ∧ (w.alloc (.cells #[.iface 99 (.pointer (some ⟨R, 0, none⟩))] 59)).cell? ⟨X, 2, none⟩ = some (.slice so n sc) ∧
     Sem.run Try.prog (Builtin.append_ #[38, 38] 38 #[.slice so n sc, .slice (some ⟨w.heap.size, 0, none⟩) 1 1]) (w.alloc (.cells #[.iface 99 (.pointer (some ⟨R, 0, none⟩))] 59)) = .ok (.slice bo (n + 1) cc) w1 ∧
     w1.cell? ⟨X, 2, none⟩ = some (.slice so n sc) ∧ w1.frozen? ⟨X, 2, none⟩ = false ∧ w1.setCell ⟨X, 2, none⟩ (.slice bo (n + 1) cc) = w2) ∧
    (w2.cell? ⟨X, 3, none⟩ = some (.slice to_ n tc) ∧ (w2.alloc (.cells #[.pointer (some ⟨Q, 0, none⟩)] 85)).cell? ⟨X, 3, none⟩ = some (.slice to_ n tc) ∧
     Sem.run Try.prog (Builtin.append_ #[39, 39] 39 #[.slice to_ n tc, .slice (some ⟨w2.heap.size, 0, none⟩) 1 1]) (w2.alloc (.cells #[.pointer (some ⟨Q, 0, none⟩)] 85)) = .ok (.slice do_ (n + 1) dc) w3 ∧
     w3.cell? ⟨X, 3, none⟩ = some (.slice to_ n tc) ∧ w3.frozen? ⟨X, 3, none⟩ = false ∧ w3.setCell ⟨X, 3, none⟩ (.slice do_ (n + 1) dc) = w4) ∧
    ∃ aS : Sta, StA W w4 aS (k + 1) z ∧ aS.X = b.X ∧ aS.b.A = b.b.A ∧ aS.ne = b.ne ∧ aS.e = b.e := by
  obtain ⟨⟨hs, hp, fR, fR2⟩, hd, fQ, fQ2, hne⟩ := h
  have pn := ok.pn i hi
  subst eX en
  have r3 : w.ownsRow 0 59 1 (b.S i) (b.n i) (ifs (b.rp i) (b.n i)) := hs.P (3, i) hi
  have r4 : w.ownsRow 0 85 1 (b.T i) (b.n i) (pts (b.dp i) (b.n i)) := hs.P (4, i) hi
  have hb : w.heap[b.X i]? = some (.cells #[.pointer (some ⟨b.P (b.mu i), 0, none⟩), .pointer (some ⟨b.D (b.mu i), 0, none⟩), b.S i, b.T i] 41 (0, 0)) := hs.P (2, i) hi
  obtain ⟨bo, cc, w1, run1, o1, k1, l1⟩ := app1 w 38 59 16 _ Try.underlying38 Try.info59 rfl (b.S i) (b.n i) _ r3 (.iface 99 (.pointer (some ⟨R, 0, none⟩))) rfl (by omega) (by omega)
  have nX3 : b.X i ∉ (b.S i).ownBlock.toList := fun hm => hs.apart (2, i) (3, i) hi hi (by simp) (b.X i) (by show b.X i ∈ [b.X i]; simp) hm
  have nX4 : b.X i ∉ (b.T i).ownBlock.toList := fun hm => hs.apart (2, i) (4, i) hi hi (by simp) (b.X i) (by show b.X i ∈ [b.X i]; simp) hm
  have hb1 : w1.heap[b.X i]? = some (.cells #[.pointer (some ⟨b.P (b.mu i), 0, none⟩), .pointer (some ⟨b.D (b.mu i), 0, none⟩), b.S i, b.T i] 41 (0, 0)) := k1.heap hb nX3
  have r41 : w1.ownsRow 0 85 1 (b.T i) (b.n i) (pts (b.dp i) (b.n i)) := (b.R (4, i)).keep (hs.P (4, i) hi) k1 (fun y hy hy2 => hs.apart (4, i) (3, i) hi hi (by simp) y hy hy2)
  obtain ⟨w2, e2⟩ : ∃ w2, w1.setCell ⟨b.X i, 2, none⟩ (.slice bo (b.n i + 1) cc) = w2 := ⟨_, rfl⟩
  have k2 : Kept [b.X i] w1 w2 := by rw [← e2]; exact setA_kept _ _ _ _
  have hb2 : w2.heap[b.X i]? = some (.cells #[.pointer (some ⟨b.P (b.mu i), 0, none⟩), .pointer (some ⟨b.D (b.mu i), 0, none⟩), .slice bo (b.n i + 1) cc, b.T i] 41 (0, 0)) := by rw [← e2, heap_setCell_at hb1]; simp
  have r42 : w2.ownsRow 0 85 1 (b.T i) (b.n i) (pts (b.dp i) (b.n i)) := k2.row r41 (fun g hg hm => nX4 (by simp only [List.mem_singleton] at hm; subst hm; simp [hg]))
  obtain ⟨do_, dc, w3, run3, o3, k3, l3⟩ := app1 w2 39 85 8 _ Try.underlying39 Try.info85 rfl (b.T i) (b.n i) _ r42 (.pointer (some ⟨Q, 0, none⟩)) rfl (by omega) (by omega)
  have hb3 : w3.heap[b.X i]? = some (.cells #[.pointer (some ⟨b.P (b.mu i), 0, none⟩), .pointer (some ⟨b.D (b.mu i), 0, none⟩), .slice bo (b.n i + 1) cc, b.T i] 41 (0, 0)) := k3.heap hb2 nX4
  obtain ⟨w4, e4⟩ : ∃ w4, w3.setCell ⟨b.X i, 3, none⟩ (.slice do_ (b.n i + 1) dc) = w4 := ⟨_, rfl⟩
  have k4 : Kept [b.X i] w3 w4 := by rw [← e4]; exact setA_kept _ _ _ _
  have hb4 : w4.heap[b.X i]? = some (.cells #[.pointer (some ⟨b.P (b.mu i), 0, none⟩), .pointer (some ⟨b.D (b.mu i), 0, none⟩), .slice bo (b.n i + 1) cc, .slice do_ (b.n i + 1) dc] 41 (0, 0)) := by rw [← e4, heap_setCell_at hb3]; simp
  have sp := piece_sep hs hi hp hd ⟨fR, fR2⟩ ⟨fQ, fQ2⟩ hne o1 k1 l1 hb2 k2 o3 k3 l3 hb4 k4
  obtain ⟨so, sc, es, -, -, -, -⟩ := row_form2 r3
  obtain ⟨to_, tc, et, -, -, -, -⟩ := row_form2 r4
  have ka := ((Kept.refl [] w).alloc (.cells #[.iface 99 (.pointer (some ⟨R, 0, none⟩))] 59)).heap hb (by simp)
  have kb := ((Kept.refl [] w2).alloc (.cells #[.pointer (some ⟨Q, 0, none⟩)] 85)).heap hb2 (by simp)
  refine ⟨so, sc, to_, tc, bo, cc, w1, w2, do_, dc, w3, w4, ⟨?_, ?_, ?_, ?_, ?_, e2⟩, ⟨?_, ?_, ?_, ?_, ?_, e4⟩, _, ⟨sp, piece_ok_st ok hc hx hk⟩, rfl, rfl, rfl, rfl⟩
  · simp [World.cell?, hb, es]
  · simp [World.cell?, ka, es]
  · rw [← es]; exact run1
  · simp [World.cell?, hb1, es]
  · simp [World.frozen?, hb1]
  · simp [World.cell?, hb2, et]
  · simp [World.cell?, kb, et]
  · rw [← et]; exact run3
  · simp [World.cell?, hb3, et]
  · simp [World.frozen?, hb3]
end Go.Proofs.Ytiojcfffhcipnaa
