import Derived.Test.YtiojcfffhcipnaaEf
import Derived.Test.YtiojcfffhcipnaaCc
import Derived.Test.YtiojcfffhcipnaaSp
namespace Go.Proofs.Ytiojcfffhcipnaa
open Go.RowKit

/-- A reading of any kind. -/
theorem reads_any (W w : World) (a : Sta) (k z i : Nat) (q : Stp) (h : StA W w a k z) (hi : i < 2) (hk : k + 1 ≤ 2600000000000) (hp : a.b.p ≤ 2) (hr : a.b.r ≤ 2) (hq : q.n ≤ 9223372036854775807) (kd : q.kd = 1 ∨ q.kd = 11 ∨ q.kd = 7 ∨ q.kd = 10) :
    Calls Try.prog 11 #[.pointer (some ⟨a.X i, 0, none⟩), .pointer (some ⟨a.b.A, 0, none⟩), opv q] w (ReadsP W a k z) := by
  rcases kd with e | e | e | e
  · exact reads_read W w a k z i q h hi hk hp hr hq e
  · exact reads_bytes W w a k z i q h hi hk hp hr e
  · exact reads_log W w a k z i q h hi hk hp hr e
  · exact reads_piece W w a k z i q h hi hk hp hr hq e

/-- The Book looks at its own. -/
theorem own_st {W w : World} {a : Sta} {k z : Nat} (h : StA W w a k z) :
    Calls Try.prog 12 #[.pointer (some ⟨a.b.A, 0, none⟩)] w fun e w' => e = .returned (.bool true) ∧ ∃ a', Same a a' ∧ a'.s = a.s ∧ a'.t = a.t ∧ a'.b.p = 0 ∧ a'.b.r = 0 ∧ StA W w' a' k z := by
  have ok := h.ok
  have hB : BkAt w a.b := h.sep.P (5, 0) rfl
  refine (own_bk hB ok.bok (by have := ok.bn.1; have := ok.k; omega) (by have := ok.bn.2; have := ok.k; omega)).mono ?_
  rintro e w' ⟨rfl, b', eA, hb', ok', ⟨e1, e2, e3, e4⟩, hF, hk⟩
  refine ⟨rfl, ({ a with b := b' } : Sta), ⟨rfl, rfl, rfl, rfl, rfl, eA, rfl, rfl, rfl, rfl, rfl, rfl, rfl, rfl, rfl, rfl⟩, rfl, rfl, e2, e4, ⟨StA.stepB h.sep hk (fun c hc => .inl hc) hb' (fun c hc => ?_), ⟨ok.alk, ok.mok, ok.mokt, ok.len, ok.log, ok.mu, ok.pi, ok.pn, ok', ⟨?_, ?_⟩, ok.z, ok.k⟩⟩⟩
  · rcases hF c hc with q | q
    · exact .inl q
    · exact .inr (.inl q)
  · show b'.n + b'.p ≤ 2 * k
    rw [e1, e2]; exact ok.bn.1
  · show b'.q + b'.r ≤ 2 * k
    rw [e3, e4]; exact ok.bn.2

/-- A state whose media are told of is as it was. -/
theorem StA.cells {W w : World} {a : Sta} {k z i : Nat} (h : StA W w a k z) (hi : i < 2) : w.cell? ⟨a.X i, 0, none⟩ = some (.pointer (some ⟨a.P (a.mu i), 0, none⟩)) ∧ w.cell? ⟨a.X i, 1, none⟩ = some (.pointer (some ⟨a.D (a.mu i), 0, none⟩)) := by
  obtain ⟨p0, p1, -, -⟩ := pair_cells h.sep hi
  exact ⟨p0, p1⟩
theorem StA.kept {W w w' : World} {a : Sta} {k z : Nat} (h : StA W w a k z) (hk : Kept [] w w') : StA W w' a k z := ⟨h.sep.keep hk, h.ok⟩

/-- What both sides tell of a pair's media. -/
theorem both_tell (W : World) (a : Sta) (k z i : Nat) (hi : i < 2) : ∃ (n : Int) (d : Bool), ∀ w, StA W w a k z →
    (Calls Try.prog 16 #[.pointer (some ⟨a.P (a.mu i), 0, none⟩)] w fun e w' => e = .returned (.int .i64 n) ∧ StA W w' a k z) ∧
    (Calls Try.prog 38 #[.pointer (some ⟨a.D (a.mu i), 0, none⟩)] w fun e w' => e = .returned (.int .i64 n) ∧ StA W w' a k z) ∧
    (Calls Try.prog 17 #[.pointer (some ⟨a.P (a.mu i), 0, none⟩)] w fun e w' => e = .returned (.bool d) ∧ StA W w' a k z) ∧
    Calls Try.prog 39 #[.pointer (some ⟨a.D (a.mu i), 0, none⟩)] w fun e w' => e = .returned (.bool d) ∧ StA W w' a k z := by
  refine ⟨((a.s (a.mu i)).b.length : Int), (a.s (a.mu i)).dead, fun w h => ?_⟩
  have hc : a.mu i < a.C := h.ok.mu i hi
  have HM : Med w (a.P (a.mu i)) (a.V (a.mu i)) (a.L (a.mu i)) (a.s (a.mu i)) 0 := h.sep.P (0, a.mu i) hc
  have HD : Rmd w (a.D (a.mu i)) (a.U (a.mu i)) (a.M (a.mu i)) (a.t (a.mu i)) := h.sep.P (1, a.mu i) hc
  have al := h.ok.alk _ hc
  refine ⟨(size_any w _ _ _ _ HM).mono ?_, (rsize_any w _ _ _ _ HD).mono ?_, (dead_any w _ _ _ _ HM).mono ?_, (rdead_any w _ _ _ _ HD).mono ?_⟩
  · rintro e w' ⟨rfl, h1, h2⟩
    exact ⟨rfl, StA.asked h.sep hc h2 h1, h.ok⟩
  · rintro e w' ⟨rfl, rfl⟩
    exact ⟨by rw [al.b], h⟩
  · rintro e w' ⟨rfl, h1, h2⟩
    exact ⟨rfl, StA.asked h.sep hc h2 h1, h.ok⟩
  · rintro e w' ⟨rfl, rfl⟩
    exact ⟨by rw [al.dead], h⟩
/-- The play's things and a step's own: the op's box and what was lent. -/
def Sta.tmp (a : Sta) (B : Nat) (q : Stp) (g : Nat) (f : Nat → Nat) (T : Nat) : Sta := { a with ne := 2, e := fun j => if j = 0 then obj B (.cells #[.int .i64 q.kd, .int .i64 q.n, .int .i64 q.m, .bool q.two, .slice q.ao q.mm q.cp] 43 (0, 0)) else obj g (.cells ((rgf f T).map byt).toArray 5 (0, 0)) }
def Sta.bare (a : Sta) : Sta := { a with ne := 0 }
theorem Sta.name_cases (a : Sta) (i : Nat × Nat) (h : a.Dm i) : (i.1 = 10 ∧ i.2 < a.ne) ∨ (i.1 ≠ 10 ∧ ∀ b : Sta, b.C = a.C → b.n = a.n → b.Dm i) := by
  obtain ⟨k, j⟩ := i
  match k, h with
  | 0, h => exact .inr ⟨by simp, fun b h1 h2 => by show j < b.C; rw [h1]; exact h⟩
  | 1, h => exact .inr ⟨by simp, fun b h1 h2 => by show j < b.C; rw [h1]; exact h⟩
  | 2, h => exact .inr ⟨by simp, fun b h1 h2 => h⟩
  | 3, h => exact .inr ⟨by simp, fun b h1 h2 => h⟩
  | 4, h => exact .inr ⟨by simp, fun b h1 h2 => h⟩
  | 5, h => exact .inr ⟨by simp, fun b h1 h2 => h⟩
  | 6, h => exact .inr ⟨by simp, fun b h1 h2 => by show j < b.n 0; rw [h2]; exact h⟩
  | 7, h => exact .inr ⟨by simp, fun b h1 h2 => by show j < b.n 1; rw [h2]; exact h⟩
  | 8, h => exact .inr ⟨by simp, fun b h1 h2 => by show j < b.n 0; rw [h2]; exact h⟩
  | 9, h => exact .inr ⟨by simp, fun b h1 h2 => by show j < b.n 1; rw [h2]; exact h⟩
  | 10, h => exact .inl ⟨rfl, h⟩
theorem Sta.own_R (a : Sta) (n : Nat) (e : Nat → Rsc) (i : Nat × Nat) (h : i.1 < 10) : ({ a with ne := n, e := e } : Sta).R i = a.R i := by
  obtain ⟨k, j⟩ := i
  match k, h with
  | 0, _ => rfl
  | 1, _ => rfl
  | 2, _ => rfl
  | 3, _ => rfl
  | 4, _ => rfl
  | 5, _ => rfl
  | 6, _ => rfl
  | 7, _ => rfl
  | 8, _ => rfl
  | 9, _ => rfl
theorem Sta.Dm_lt (a : Sta) (i : Nat × Nat) (h : a.Dm i) : i.1 ≤ 10 := by
  obtain ⟨k, j⟩ := i
  match k, h with
  | 0, _ => simp
  | 1, _ => simp
  | 2, _ => simp
  | 3, _ => simp
  | 4, _ => simp
  | 5, _ => simp
  | 6, _ => simp
  | 7, _ => simp
  | 8, _ => simp
  | 9, _ => simp
  | 10, _ => simp
theorem Sta.tmp_cases (a : Sta) (B : Nat) (q : Stp) (g : Nat) (f : Nat → Nat) (T : Nat) (i : Nat × Nat) (h : (a.tmp B q g f T).Dm i) : (a.Dm i ∧ i.1 < 10 ∧ (a.tmp B q g f T).R i = a.R i) ∨ i = (10, 0) ∨ i = (10, 1) := by
  have h10 := Sta.Dm_lt _ i h
  rcases Sta.name_cases _ i h with ⟨e1, e2⟩ | ⟨e1, e2⟩
  · have e2 : i.2 < 2 := e2
    obtain ⟨k, j⟩ := i
    have e1 : k = 10 := e1
    subst e1
    have : j = 0 ∨ j = 1 := by omega
    rcases this with rfl | rfl <;> simp
  · exact .inl ⟨e2 a rfl rfl, by omega, Sta.own_R a _ _ i (by omega)⟩
theorem Sta.tmp_sep {W w w2 : World} {a : Sta} (h : SepI W w a.Dm a.R) {B g T : Nat} {q : Stp} {f : Nat → Nat} (hk : Kept [] w w2) (hB : w.heap.size ≤ B) (hg : w.heap.size ≤ g) (hn : B ≠ g) (pB : opb w2 B q) (pg : Rw w2 g f T) : SepI W w2 (a.tmp B q g f T).Dm (a.tmp B q g f T).R := by
  have h2 := h.keep hk
  have hs := h.old.size
  have lt : ∀ i, a.Dm i → ∀ x ∈ (a.R i).F, x < w.heap.size := fun i hi x hx => (a.R i).lt (h.P i hi) hx
  have F0 : ∀ x ∈ ((a.tmp B q g f T).R (10, 0)).F, x = B := fun x hx => by
    have hx : x ∈ [B] := hx
    simpa using hx
  have F1 : ∀ x ∈ ((a.tmp B q g f T).R (10, 1)).F, x = g := fun x hx => by
    have hx : x ∈ [g] := hx
    simpa using hx
  refine ⟨h2.old, fun i hi => ?_, fun i hi x hx => ?_, fun i j hi hj hij x hx hx2 => ?_⟩
  · rcases Sta.tmp_cases _ _ _ _ _ _ i hi with ⟨h3, -, h4⟩ | rfl | rfl
    · rw [h4]; exact h2.P i h3
    · exact pB
    · exact pg
  · rcases Sta.tmp_cases _ _ _ _ _ _ i hi with ⟨h3, -, h4⟩ | rfl | rfl
    · rw [h4] at hx; exact h2.new i h3 x hx
    · have := F0 x hx; omega
    · have := F1 x hx; omega
  · rcases Sta.tmp_cases _ _ _ _ _ _ i hi with ⟨h3, -, h4⟩ | rfl | rfl <;> rcases Sta.tmp_cases _ _ _ _ _ _ j hj with ⟨h5, -, h6⟩ | rfl | rfl
    · rw [h4] at hx; rw [h6] at hx2; exact h2.apart i j h3 h5 hij x hx hx2
    · rw [h4] at hx; have := lt i h3 x hx; have := F0 x hx2; omega
    · rw [h4] at hx; have := lt i h3 x hx; have := F1 x hx2; omega
    · rw [h6] at hx2; have := lt j h5 x hx2; have := F0 x hx; omega
    · exact hij rfl
    · have := F0 x hx; have := F1 x hx2; omega
    · rw [h6] at hx2; have := lt j h5 x hx2; have := F1 x hx; omega
    · have := F1 x hx; have := F0 x hx2; omega
    · exact hij rfl
/-- What is the step's own changes, and is let go. -/
theorem StA.drop {W w w' : World} {a : Sta} {k z : Nat} {ks : List Nat} (h : StA W w a k z) (hk : Kept ks w w') (ho : ∀ x ∈ ks, ∃ j, j < a.ne ∧ x ∈ (a.e j).F) : StA W w' a.bare k z := by
  have sub : ∀ i, a.bare.Dm i → a.Dm i ∧ i.1 < 10 ∧ a.bare.R i = a.R i := fun i hi => by
    have h10 := Sta.Dm_lt _ i hi
    rcases Sta.name_cases _ i hi with ⟨e1, e2⟩ | ⟨e1, e2⟩
    · exact absurd e2 (by show ¬ i.2 < 0; omega)
    · exact ⟨e2 a rfl rfl, by omega, Sta.own_R a 0 a.e i (by omega)⟩
  have ok := h.ok
  refine ⟨⟨h.sep.old.step hk (fun x hx => .inr ?_), fun i hi => ?_, fun i hi x hx => ?_, fun i j hi hj hij x hx hx2 => ?_⟩, ⟨ok.alk, ok.mok, ok.mokt, ok.len, ok.log, ok.mu, ok.pi, ok.pn, ok.bok, ok.bn, ok.z, ok.k⟩⟩
  · obtain ⟨j, hj, hx⟩ := ho x hx
    exact h.sep.new (10, j) hj x hx
  · obtain ⟨h1, h2, h3⟩ := sub i hi
    rw [h3]
    refine (a.R i).keep (h.sep.P i h1) hk (fun x hx hm => ?_)
    obtain ⟨j, hj, hm⟩ := ho x hm
    exact h.sep.apart i (10, j) h1 hj (fun e => by rw [e] at h2; simp at h2) x hx hm
  · obtain ⟨h1, h2, h3⟩ := sub i hi
    rw [h3] at hx
    exact h.sep.new i h1 x hx
  · obtain ⟨h1, h2, h3⟩ := sub i hi
    obtain ⟨h4, h5, h6⟩ := sub j hj
    rw [h3] at hx
    rw [h6] at hx2
    exact h.sep.apart i j h1 h4 hij x hx hx2
end Go.Proofs.Ytiojcfffhcipnaa
