import Derived.Test.YtgjjnkhkjnkahaaDoorPv
namespace Go.Proofs.YtgjjnkhkjnkahaaDoor
open Go.RowKit

theorem rw1_mem {x : Fm} {r : Nat × Nat} (h : r ∈ rw1 x) : ∃ p, p < x.n ∧ r = (x.bs p, x.ln p) := by
  simp [rw1] at h
  obtain ⟨p, hp, e⟩ := h
  exact ⟨p, hp, e.symm⟩
theorem rws_pw {O : List Fm} (h : ∀ x ∈ O, ∀ i j, i < j → j < x.n → x.bs i < x.bs j) (ha : O.Pairwise (fun x y => ∀ p, p < x.n → ∀ p', p' < y.n → x.bs p < y.bs p')) : (rws O).Pairwise (fun r s => r.1 < s.1) := by
  induction O with
  | nil => simp [rws]
  | cons x t ih =>
    simp only [rws, List.flatMap_cons]
    rw [List.pairwise_append]
    rw [List.pairwise_cons] at ha
    refine ⟨?_, ih (fun y hy => h y (by simp [hy])) ha.2, fun r hr s hs => ?_⟩
    · unfold rw1
      rw [List.pairwise_map]
      refine (List.pairwise_lt_range (n := x.n)).imp_of_mem ?_
      intro i j hi hj hij
      exact h x (by simp) i j hij (by simpa using hj)
    · obtain ⟨p, hp, rfl⟩ := rw1_mem hr
      simp only [List.mem_flatMap] at hs
      obtain ⟨y, hy, hs⟩ := hs
      obtain ⟨p', hp', rfl⟩ := rw1_mem hs
      exact ha.1 y hy p hp p' hp'
/-- How the rows stand: those ahead of k are all their mark. -/
def RwS (w : World) (R : List (Nat × Nat)) (k : Nat) : Prop := ∀ (i : Nat) r, R[i]? = some r → ∃ f, Row w r.1 r.2 f ∧ (i < k → ∀ j, j < r.2 → f j = (5000 + i) % 65536)
theorem RwS.start {B : Nat} {w : World} {O : List Fm} (h : ∀ x ∈ O, Fmk B w x) : RwS w (rws O) 0 := fun i r hr => by
  have hm := List.mem_of_getElem? hr
  simp only [rws, List.mem_flatMap] at hm
  obtain ⟨x, hx, hm⟩ := hm
  obtain ⟨p, hp, rfl⟩ := rw1_mem hm
  exact ⟨_, (h x hx).row p hp, fun h => by omega⟩
theorem RwS.keep {w w' : World} {R : List (Nat × Nat)} {k : Nat} (h : RwS w R k) (hk : Kept [] w w') : RwS w' R k := fun i r hr => by
  obtain ⟨f, h1, h2⟩ := h i r hr
  exact ⟨f, h1.keep hk (by simp), h2⟩
theorem RwS.step {w w' : World} {R : List (Nat × Nat)} {k : Nat} {r : Nat × Nat} {f : Nat → Nat} (h : RwS w R k) (hp : R.Pairwise (fun r s => r.1 < s.1)) (hr : R[k]? = some r) (hk : Kept [r.1] w w') (hf : Row w' r.1 r.2 f) (hv : ∀ j, j < r.2 → f j = (5000 + k) % 65536) : RwS w' R (k + 1) := fun i s hs => by
  by_cases e : i = k
  · subst e
    rw [hr] at hs
    cases hs
    exact ⟨f, hf, fun _ => hv⟩
  · obtain ⟨g, h1, h2⟩ := h i s hs
    refine ⟨g, h1.keep hk ?_, fun hi => h2 (by omega)⟩
    obtain ⟨a1, a2⟩ := List.getElem?_eq_some_iff.1 hr
    obtain ⟨b1, b2⟩ := List.getElem?_eq_some_iff.1 hs
    simp
    intro e2
    rw [List.pairwise_iff_getElem] at hp
    rcases Nat.lt_or_gt_of_ne e with h3 | h3
    · have := hp i k b1 a1 h3; rw [a2, b2] at this; omega
    · have := hp k i a1 b1 h3; rw [a2, b2] at this; omega
/-- `all`, and what it names. -/
theorem all_at {w : World} {B : Nat} {ao : Option Addr} {c : Nat} {R : List (Nat × Nat)} {i : Nat} {r : Nat × Nat} (h : w.ownsRow B 37 1 (.slice ao R.length c) R.length (R.map sv)) (hr : R[i]? = some r) : ∃ g, ao = some ⟨g, 0, none⟩ ∧ w.cell? ⟨g, i, none⟩ = some (slv r.1 r.2 r.2) := by
  rcases h.2 with ⟨_, h0⟩ | ⟨g, cap, cur, e, _⟩
  · have := (List.getElem?_eq_some_iff.1 hr).1
    omega
  · cases e
    have hc := h.cells (g := g) rfl i (sv r) (by rw [List.getElem?_map, hr]; rfl)
    rw [show (⟨g, 0, none⟩ : Addr).add i = ⟨g, 0 + i, none⟩ by unfold Addr.add; split <;> simp_all, Nat.zero_add] at hc
    exact ⟨g, rfl, hc⟩
theorem own_slice {w : World} {B e n : Nat} {V : Value} {xs : List Value} (h : w.ownsRow B e 1 V n xs) : ∃ ao c, V = .slice ao n c := by
  rcases h.2 with ⟨rfl, rfl⟩ | ⟨g, cap, cur, rfl, _⟩
  · exact ⟨_, _, rfl⟩
  · exact ⟨_, _, rfl⟩
end Go.Proofs.YtgjjnkhkjnkahaaDoor
