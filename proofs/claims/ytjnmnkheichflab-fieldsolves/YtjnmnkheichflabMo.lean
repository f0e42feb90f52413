import Derived.Test.YtjnmnkheichflabHd
import Derived.Test.YtjnmnkheichflabOu
namespace Go.Proofs.Ytjnmnkheichflab
open Go.RowKit

/-- A matrix that came out, new to blocks from S on; nil where there are no rows. -/
structure Mo (w : World) (S : Nat) (ao : Option Addr) (n : Nat) (bs : Nat → Nat) (wd : Nat) (F : Nat → Nat → Nat) : Prop where
  nil : ao = none → n = 0
  mt : n = 0 ∨ ∃ g, ao = some ⟨g, 0, none⟩ ∧ Mt w g n bs wd F ∧ S ≤ g
  lo : ∀ i, i < n → S ≤ bs i

theorem Mo.nix (w : World) (S : Nat) (bs : Nat → Nat) (wd : Nat) (F : Nat → Nat → Nat) : Mo w S none 0 bs wd F := ⟨fun _ => rfl, .inl rfl, fun i h => by omega⟩
theorem Mo.keep {w w' : World} {S : Nat} {ao : Option Addr} {n : Nat} {bs : Nat → Nat} {wd : Nat} {F : Nat → Nat → Nat} (h : Mo w S ao n bs wd F) (hk : Kept [] w w') : Mo w' S ao n bs wd F :=
  ⟨h.nil, h.mt.imp id (fun ⟨g, h1, h2, h3⟩ => ⟨g, h1, h2.keep0 hk, h3⟩), h.lo⟩
theorem Mo.reads {w : World} {S : Nat} {ao : Option Addr} {n : Nat} {bs : Nat → Nat} {wd : Nat} {F : Nat → Nat → Nat} (h : Mo w S ao n bs wd F) : MR w ao (mf F n wd) := by
  rcases h.mt with h0 | ⟨g, h1, h2, _⟩
  · subst h0; exact .inl rfl
  · rw [h1]; exact h2.reads
/-- All its blocks lie below T. -/
def Up (ao : Option Addr) (n : Nat) (bs : Nat → Nat) (T : Nat) : Prop := (0 < n → ∀ g, ao = some ⟨g, 0, none⟩ → g < T) ∧ ∀ i, i < n → bs i < T
theorem Mo.up {w : World} {S : Nat} {ao : Option Addr} {n : Nat} {bs : Nat → Nat} {wd : Nat} {F : Nat → Nat → Nat} (h : Mo w S ao n bs wd F) : Up ao n bs w.heap.size := by
  rcases h.mt with h0 | ⟨g, h1, h2, _⟩
  · subst h0; exact ⟨fun h => by omega, fun i h => by omega⟩
  · exact ⟨fun hp g2 e => by rw [h1] at e; cases e; exact h2.glt hp, fun i hi => h2.lt hi⟩
theorem Up.mono {ao : Option Addr} {n : Nat} {bs : Nat → Nat} {T T2 : Nat} (h : Up ao n bs T) (hT : T ≤ T2) : Up ao n bs T2 := ⟨fun hp g e => Nat.lt_of_lt_of_le (h.1 hp g e) hT, fun i hi => Nat.lt_of_lt_of_le (h.2 i hi) hT⟩
theorem Mo.hl {wD : World} {S Bk : Nat} {ao : Option Addr} {n : Nat} {bs : Nat → Nat} {wd : Nat} {F : Nat → Nat → Nat} (h : Mo wD S ao n bs wd F) (hB : Bk < S) : Hl wD Bk ao n bs wd F :=
  ⟨h.mt.imp id (fun ⟨g, h1, h2, h3⟩ => ⟨g, h1, h2, by omega⟩), fun i hi => by have := h.lo i hi; omega⟩

/-- The lists of a book lie from S to T. -/
def Bt (V : Nat → Value) (cnt S T : Nat) : Prop := ∀ i, i < cnt → ∀ x, (V i).ownBlock = some x → S ≤ x ∧ x < T
theorem Bt.zero (V : Nat → Value) (S T : Nat) : Bt V 0 S T := fun i h => by omega
theorem Bt.vc {V : Nat → Value} {cnt S T S2 T2 n wd : Nat} {bs : Nat → Nat} (h : Bt V cnt S T) (h1 : ∀ j, j < n → S2 ≤ bs j) (h2 : ∀ j, j < n → bs j < T2) (hS : S ≤ S2) (hT : T ≤ T2) : Bt (vc V cnt bs wd) (cnt + n) S T2 := by
  intro i hi x hx
  unfold Go.Proofs.Ytjnmnkheichflab.vc at hx
  by_cases hc : i < cnt
  · rw [if_pos hc] at hx
    have := h i hc x hx
    omega
  · rw [if_neg hc] at hx
    simp [Value.ownBlock] at hx
    have := h1 (i - cnt) (by omega)
    have := h2 (i - cnt) (by omega)
    omega
theorem Bt.apart {V : Nat → Value} {cnt S T n : Nat} {bs : Nat → Nat} (h : Bt V cnt S T) (h1 : ∀ j, j < n → T ≤ bs j) : ∀ i, i < cnt → ∀ x, (V i).ownBlock = some x → ∀ j, j < n → x ≠ bs j := fun i hi x hx j hj => by
  have := h i hi x hx
  have := h1 j hj
  omega
theorem Bt.blk {V : Nat → Value} {cnt S T : Nat} (h : Bt V cnt S T) : ∀ x, x ∈ blk V cnt → S ≤ x ∧ x < T := fun x hx => by
  obtain ⟨i, hi, e⟩ := mem_blk.1 hx
  exact h i hi x e
/-- Whose own list is none of the lists. -/
def No (V : Nat → Value) (cnt : Nat) (ao : Option Addr) : Prop := ∀ g, ao = some ⟨g, 0, none⟩ → ∀ i, i < cnt → (V i).ownBlock ≠ some g
theorem No.zero (V : Nat → Value) (ao : Option Addr) : No V 0 ao := fun _ _ i h => by omega
theorem No.vc {V : Nat → Value} {cnt n wd : Nat} {bs : Nat → Nat} {ao : Option Addr} (h : No V cnt ao) (h1 : ∀ g, ao = some ⟨g, 0, none⟩ → ∀ j, j < n → bs j ≠ g) : No (vc V cnt bs wd) (cnt + n) ao := by
  intro g hg i hi
  unfold Go.Proofs.Ytjnmnkheichflab.vc
  by_cases hc : i < cnt
  · rw [if_pos hc]; exact h g hg i hc
  · rw [if_neg hc]
    simp [Value.ownBlock]
    exact h1 g hg (i - cnt) (by omega)
theorem Mo.no {w : World} {S : Nat} {ao : Option Addr} {n : Nat} {bs : Nat → Nat} {wd : Nat} {F : Nat → Nat → Nat} (h : Mo w S ao n bs wd F) : ∀ g, ao = some ⟨g, 0, none⟩ → ∀ j, j < n → bs j ≠ g := by
  intro g hg j hj
  rcases h.mt with h0 | ⟨g2, h1, h2, _⟩
  · omega
  · rw [hg] at h1; cases h1; exact h2.ne j hj
/-- Its list may be written still. -/
theorem Mo.wr {w w' : World} {S : Nat} {ao : Option Addr} {n : Nat} {bs : Nat → Nat} {wd : Nat} {F : Nat → Nat → Nat} {ks : List Nat} (h : Mo w S ao n bs wd F) (hk : Kept ks w w') (hn : 0 < n → ∀ g, ao = some ⟨g, 0, none⟩ → g ∉ ks) : Wr w' ao n := by
  rcases h.mt with h0 | ⟨g, h1, h2, _⟩
  · exact .inl h0
  · refine .inr ⟨g, h1, fun i hi => ?_⟩
    have hg := hn (by omega) g h1
    exact ⟨⟨_, cell_keep hk (h2.out i hi) hg⟩, fz_keep hk (h2.out i hi) (h2.fz i hi) hg⟩
theorem lc_len {ls : Nat → List Nat} {cnt wd M : Nat} {F : Nat → Nat → Nat} (h : ∀ i, (ls i).length ≤ M) (hw : wd ≤ M) : ∀ i, (lc ls cnt F wd i).length ≤ M := by
  intro i
  unfold lc
  split
  · exact h i
  · rw [rg_length]; exact hw
theorem bko_in {ao : Option Addr} {n S T x : Nat} {w : World} {bs : Nat → Nat} {wd : Nat} {F : Nat → Nat → Nat} (h : Mo w S ao n bs wd F) (hu : Up ao n bs T) (hx : x ∈ bko ao n) : S ≤ x ∧ x < T ∧ ao = some ⟨x, 0, none⟩ ∧ 0 < n := by
  obtain ⟨hp, a, ha, rfl⟩ := bko_mem hx
  rcases h.mt with h0 | ⟨g, h1, h2, h3⟩
  · omega
  · rw [h1] at ha
    cases ha
    exact ⟨h3, hu.1 hp g h1, h1, hp⟩
/-- The lists of a book of four matrices. -/
def v1 (_N K : Nat) (bx : Nat → Nat) : Nat → Value := vc (fun _ => .slice none 0 0) 0 bx K
def v2 (N K _NO KO : Nat) (bx bq : Nat → Nat) : Nat → Value := vc (v1 N K bx) (0 + N) bq KO
def v3 (N K NO KO : Nat) (bx bq b3 : Nat → Nat) : Nat → Value := vc (v2 N K NO KO bx bq) (0 + N + NO) b3 K
def v4 (N K NO KO : Nat) (bx bq b3 b4 : Nat → Nat) : Nat → Value := vc (v3 N K NO KO bx bq b3) (0 + N + NO + N) b4 K

theorem Mo.ge {w : World} {S : Nat} {ao : Option Addr} {n : Nat} {bs : Nat → Nat} {wd : Nat} {F : Nat → Nat → Nat} (h : Mo w S ao n bs wd F) (hp : 0 < n) {g : Nat} (hg : ao = some ⟨g, 0, none⟩) : S ≤ g := by
  rcases h.mt with h0 | ⟨g2, h1, _, h3⟩
  · omega
  · rw [hg] at h1; cases h1; exact h3

theorem four_in {w : World} {S1 S2 S3 S4 S5 N K NO KO : Nat} {ax aq ay aw : Option Addr} {bx bq b3 b4 : Nat → Nat} {F FO : Nat → Nat → Nat} (X : Mo w S1 ax N bx K F) (UX : Up ax N bx S2) (O : Mo w S2 aq NO bq KO FO) (UO : Up aq NO bq S3) (Y : Mo w S3 ay N b3 K F) (UY : Up ay N b3 S4) (W : Mo w S4 aw N b4 K F) (UW : Up aw N b4 S5)
    (h1 : S1 ≤ S2) (h2 : S2 ≤ S3) (h3 : S3 ≤ S4) (h4 : S4 ≤ S5) :
    Bt (v1 N K bx) (0 + N) S1 S2 ∧ Bt (v2 N K NO KO bx bq) (0 + N + NO) S1 S3 ∧ Bt (v3 N K NO KO bx bq b3) (0 + N + NO + N) S1 S4 ∧ Bt (v4 N K NO KO bx bq b3 b4) (0 + N + NO + N + N) S1 S5 ∧
      (0 < N → No (v4 N K NO KO bx bq b3 b4) (0 + N + NO + N + N) ax ∧ No (v4 N K NO KO bx bq b3 b4) (0 + N + NO + N + N) ay ∧ No (v4 N K NO KO bx bq b3 b4) (0 + N + NO + N + N) aw) := by
  have t1 : Bt (v1 N K bx) (0 + N) S1 S2 := (Bt.zero _ S1 S1).vc X.lo UX.2 (Nat.le_refl _) h1
  have t2 : Bt (v2 N K NO KO bx bq) (0 + N + NO) S1 S3 := t1.vc O.lo UO.2 h1 h2
  have t3 : Bt (v3 N K NO KO bx bq b3) (0 + N + NO + N) S1 S4 := t2.vc Y.lo UY.2 (by omega) h3
  have t4 : Bt (v4 N K NO KO bx bq b3 b4) (0 + N + NO + N + N) S1 S5 := t3.vc W.lo UW.2 (by omega) h4
  refine ⟨t1, t2, t3, t4, fun hp => ⟨?_, ?_, ?_⟩⟩
  · refine ((((No.zero _ ax).vc X.no).vc (fun g hg j hj => ?_)).vc (fun g hg j hj => ?_)).vc (fun g hg j hj => ?_)
    · have := UX.1 hp g hg; have := O.lo j hj; omega
    · have := UX.1 hp g hg; have := Y.lo j hj; omega
    · have := UX.1 hp g hg; have := W.lo j hj; omega
  · refine ((((No.zero _ ay).vc (fun g hg j hj => ?_)).vc (fun g hg j hj => ?_)).vc Y.no).vc (fun g hg j hj => ?_)
    · have := Y.ge hp hg; have := UX.2 j hj; omega
    · have := Y.ge hp hg; have := UO.2 j hj; omega
    · have := UY.1 hp g hg; have := W.lo j hj; omega
  · refine ((((No.zero _ aw).vc (fun g hg j hj => ?_)).vc (fun g hg j hj => ?_)).vc (fun g hg j hj => ?_)).vc W.no
    · have := W.ge hp hg; have := UX.2 j hj; omega
    · have := W.ge hp hg; have := UO.2 j hj; omega
    · have := W.ge hp hg; have := UY.2 j hj; omega
theorem No.blk {V : Nat → Value} {cnt : Nat} {ao : Option Addr} (h : No V cnt ao) {g : Nat} (hg : ao = some ⟨g, 0, none⟩) : g ∉ blk V cnt := fun hm => by
  obtain ⟨i, hi, e⟩ := mem_blk.1 hm
  exact h g hg i hi e
end Go.Proofs.Ytjnmnkheichflab
