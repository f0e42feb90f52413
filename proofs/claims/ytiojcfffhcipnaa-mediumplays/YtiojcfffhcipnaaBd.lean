import Derived.Test.YtiojcfffhcipnaaBc
import Derived.Test.YtiojcfffhcipnaaRe
namespace Go.Proofs.Ytiojcfffhcipnaa
open Go.RowKit

def sl (h : Hd) : Value := .slice h.a h.l h.c
def blk (h : Hd) : List Nat := (sl h).ownBlock.toList
def ocs (f : Nat → Hd) (n : Nat) : List Value := (List.range n).map (fun i => sl (f i))
theorem ocs_at (f : Nat → Hd) (n i : Nat) (h : i < n) : (ocs f n)[i]? = some (sl (f i)) := by simp [ocs, h]
/-- The blocks of all. -/
def blks (f : Nat → Hd) (n : Nat) : List Nat := (List.range n).flatMap (fun i => blk (f i))
theorem mem_blks {f : Nat → Hd} {n i x : Nat} (hi : i < n) (hx : x ∈ blk (f i)) : x ∈ blks f n := List.mem_flatMap.2 ⟨i, List.mem_range.2 hi, hx⟩
/-- The mark of the hold of number j. -/
def mkB (j : Nat) : Int := ((1 + j % 250 : Nat) : Int)
/-- The holds, and behind them what came out, marked. -/
def jn (f fo : Nat → Hd) (n : Nat) (j : Nat) : Hd := if j < n then f j else ⟨(fo (j - n)).a, (fo (j - n)).l, (fo (j - n)).c, mkB j⟩
theorem jn_new (f fo : Nat → Hd) (n i : Nat) : jn f fo n (n + i) = ⟨(fo i).a, (fo i).l, (fo i).c, mkB (n + i)⟩ := by
  unfold jn
  rw [if_neg (by omega), Nat.add_sub_cancel_left]
theorem jn_old (f fo : Nat → Hd) (n j : Nat) (h : j < n) : jn f fo n j = f j := by unfold jn; rw [if_pos h]

/-- What the marking goes by: ahead of round i. -/
structure Mk1 (w wr : World) (A : Nat) (s o t k u ks us l0 : Value) (n p i : Nat) (f fo : Nat → Hd) : Prop where
  bx : ∃ lo lc, Bx wr A (.slice lo (n + i) lc) s o t k u ks us ∧ Hs wr (.slice lo (n + i) lc) (n + i) (jn f fo n) ∧ Lies w l0 (.slice lo (n + i) lc)
  oo : wr.ownsRow 0 29 1 o p (ocs fo p)
  rows : ∀ j, i ≤ j → j < p → ∃ xs, wr.ownsRow 0 5 1 (sl (fo j)) (fo j).l xs
  kept : Kept (A :: (l0.ownBlock.toList ++ blks fo p)) w wr

theorem Bx_sl {w : World} {A : Nat} {l s o t k u ks us : Value} (h : Bx w A l s o t k u ks us) (v : Value) : Bx (w.setCell ⟨A, 0, none⟩ v) A v s o t k u ks us := by unfold Bx at *; rw [heap_setCell_at h]; simp
theorem Mk1.next {w w0 wr w1 : World} {A : Nat} {s o t k u ks us l0 : Value} {n p x lc1 bc r0 : Nat} {f fo : Nat → Hd} {lo1 bo : Option Addr} (H : Mk1 w w0 A s o t k u ks us l0 n p x f fo)
    (b1 : Bx w0 A (.slice lo1 (n + x) lc1) s o t k u ks us) (hs1 : Hs w0 (.slice lo1 (n + x) lc1) (n + x) (jn f fo n)) (li1 : Lies w l0 (.slice lo1 (n + x) lc1)) (hx : x < p)
    (d1 : ∀ i j, i < p → j < n → ∀ x ∈ blk (fo i), x ∉ blk (f j)) (d2 : ∀ i j, i < p → j < p → i ≠ j → ∀ x ∈ blk (fo i), x ∉ blk (fo j))
    (hj : Kept (blk (fo x)) w0 wr) (hy : wr.ownsRow 0 5 1 (sl (fo x)) (fo x).l (List.replicate (fo x).l (.int .u8 (1 + (r0 : Int))))) (er : (n + x) % 250 = r0)
    (h1 : w1.ownsRow 0 94 2 (.slice bo (n + x + 1) bc) (n + x + 1) (hcs .u8 (jn f fo n) (n + x) ++ [sl (fo x), .int .u8 (1 + (r0 : Int))])) (k1 : Kept (Value.slice lo1 (n + x) lc1).ownBlock.toList wr w1) (li2 : Lies wr (.slice lo1 (n + x) lc1) (.slice bo (n + x + 1) bc)) :
    Mk1 w (w1.setCell ⟨A, 0, none⟩ (.slice bo (n + x + 1) bc)) A s o t k u ks us l0 n p (x + 1) f fo := by
  obtain ⟨xs0, hr0⟩ := H.rows x (Nat.le_refl _) hx
  have nA : A ∉ blk (fo x) := own_ty b1 (by decide) hr0
  have b2 := b1.kept hj nA
  have hL := hj.row hs1.own (own_two hs1.own hr0 (by decide))
  have b3 := b2.kept k1 (own_ty b2 (by decide) hL)
  have b4 := Bx_sl b3 (.slice bo (n + x + 1) bc)
  have fin : ∀ {e sz : Nat} {V : Value} {m : Nat} {xs : List Value}, wr.ownsRow 0 e sz V m xs → e ≠ 94 → e ≠ 32 → (w1.setCell ⟨A, 0, none⟩ (.slice bo (n + x + 1) bc)).ownsRow 0 e sz V m xs := fun hr h94 h32 => by
    have r1 := k1.row hr (own_two hr hL h94)
    exact (setA_kept _ _ _ _).row r1 (fun g hg hm => by have := own_ty b3 (fun q => h32 q.symm) r1; simp at hm; subst hm; simp [hg] at this)
  have h4 : (w1.setCell ⟨A, 0, none⟩ (.slice bo (n + x + 1) bc)).ownsRow 0 94 2 (.slice bo (n + x + 1) bc) (n + x + 1) _ := (setA_kept _ _ _ _).row h1 (fun g hg hm => by have := own_ty b3 (by decide) h1; simp at hm; subst hm; simp [hg] at this)
  have em : mkB (n + x) = 1 + (r0 : Int) := by unfold mkB; rw [er]; simp
  refine ⟨⟨bo, bc, b4, ⟨?_, fun i hi => ?_⟩, ?_⟩, ?_, fun j hj1 hj2 => ?_, ?_⟩
  · show World.ownsRow _ 0 94 2 _ (n + x + 1) (hcs .u8 (jn f fo n) (n + x + 1))
    rw [hcs, jn_new, em]
    exact h4
  · by_cases hlt : i < n + x
    · refine fin (hj.row (hs1.each i hlt) (fun g hg hm => ?_)) (by decide) (by decide)
      by_cases hin : i < n
      · rw [jn_old f fo n i hin] at hg
        exact d1 x i hx hin g hm (by simp [blk, sl, hg])
      · obtain ⟨j, rfl⟩ : ∃ j, i = n + j := ⟨i - n, by omega⟩
        rw [jn_new] at hg
        exact d2 x j hx (by omega) (by omega) g hm (by simp [blk, sl, hg])
    · obtain rfl : i = n + x := by omega
      rw [jn_new]
      simp only [em]
      exact fin hy (by decide) (by decide)
  · exact li1.trans (li2.of_kept hj) (H.kept.size)
  · exact fin (hj.row H.oo (own_two H.oo hr0 (by decide))) (by decide) (by decide)
  · obtain ⟨ys, hys⟩ := H.rows j (by omega) hj2
    exact ⟨ys, fin (hj.row hys (fun g hg hm => d2 x j hx hj2 (by omega) g hm (by simp [blk, hg]))) (by decide) (by decide)⟩
  · have q1 := H.kept.step hj (fun g hg => .inl (by simp only [List.mem_cons, List.mem_append]; exact .inr (.inr (mem_blks hx hg))))
    have q2 := q1.step k1 (fun g hg => by
      rcases li1.mem g hg with q | q
      · exact .inl (by simp only [List.mem_cons, List.mem_append]; exact .inr (.inl q))
      · exact .inr q)
    exact q2.step (setA_kept _ _ _ _) (fun g hg => .inl (by simp at hg; subst hg; simp))

/-- The mark of the spans of number j. -/
def mkS (j : Nat) : Int := -1 - (j : Int)
def jns (g ft : Nat → Hd) (q : Nat) (j : Nat) : Hd := if j < q then g j else ⟨(ft (j - q)).a, (ft (j - q)).l, (ft (j - q)).c, mkS j⟩
theorem jns_new (g ft : Nat → Hd) (q i : Nat) : jns g ft q (q + i) = ⟨(ft i).a, (ft i).l, (ft i).c, mkS (q + i)⟩ := by
  unfold jns
  rw [if_neg (by omega), Nat.add_sub_cancel_left]
theorem jns_old (g ft : Nat → Hd) (q j : Nat) (h : j < q) : jns g ft q j = g j := by unfold jns; rw [if_pos h]
theorem Bx_ss {w : World} {A : Nat} {l s o t k u ks us : Value} (h : Bx w A l s o t k u ks us) (v : Value) : Bx (w.setCell ⟨A, 1, none⟩ v) A l v o t k u ks us := by unfold Bx at *; rw [heap_setCell_at h]; simp
/-- What the marking of the spans goes by: ahead of round i. -/
structure Mk2 (w wr : World) (A : Nat) (l o t k u ks us s0 : Value) (q r i N : Nat) (g ft F : Nat → Hd) : Prop where
  bx : ∃ so sc, Bx wr A l (.slice so (q + i) sc) o t k u ks us ∧ Ss wr (.slice so (q + i) sc) (q + i) (jns g ft q) ∧ Lies w s0 (.slice so (q + i) sc)
  tt : wr.ownsRow 0 30 1 t r (ocs ft r)
  rows : ∀ j, i ≤ j → j < r → ∃ xs, wr.ownsRow 0 63 2 (sl (ft j)) (ft j).l xs
  hs : Hs wr l N F
  kept : Kept (A :: (s0.ownBlock.toList ++ blks ft r)) w wr
theorem Mk2.next {w w0 wr w1 : World} {A : Nat} {l o t k u ks us s0 : Value} {q r x sc1 bc N : Nat} {g ft F : Nat → Hd} {so1 bo : Option Addr} (H : Mk2 w w0 A l o t k u ks us s0 q r x N g ft F)
    (b1 : Bx w0 A l (.slice so1 (q + x) sc1) o t k u ks us) (hs1 : Ss w0 (.slice so1 (q + x) sc1) (q + x) (jns g ft q)) (li1 : Lies w s0 (.slice so1 (q + x) sc1)) (hx : x < r)
    (d1 : ∀ i j, i < r → j < q → ∀ x ∈ blk (ft i), x ∉ blk (g j)) (d2 : ∀ i j, i < r → j < r → i ≠ j → ∀ x ∈ blk (ft i), x ∉ blk (ft j))
    (hj : Kept (blk (ft x)) w0 wr) (hy : wr.ownsRow 0 63 2 (sl (ft x)) (ft x).l (spc (List.replicate (ft x).l (mkS (q + x), 0))))
    (h1 : w1.ownsRow 0 96 2 (.slice bo (q + x + 1) bc) (q + x + 1) (hcs .i64 (jns g ft q) (q + x) ++ [sl (ft x), .int .i64 (mkS (q + x))])) (k1 : Kept (Value.slice so1 (q + x) sc1).ownBlock.toList wr w1) (li2 : Lies wr (.slice so1 (q + x) sc1) (.slice bo (q + x + 1) bc)) :
    Mk2 w (w1.setCell ⟨A, 1, none⟩ (.slice bo (q + x + 1) bc)) A l o t k u ks us s0 q r (x + 1) N g ft F := by
  obtain ⟨xs0, hr0⟩ := H.rows x (Nat.le_refl _) hx
  have nA : A ∉ blk (ft x) := own_ty b1 (by decide) hr0
  have b2 := b1.kept hj nA
  have hL := hj.row hs1.own (own_two hs1.own hr0 (by decide))
  have b3 := b2.kept k1 (own_ty b2 (by decide) hL)
  have b4 := Bx_ss b3 (.slice bo (q + x + 1) bc)
  have fin : ∀ {e sz : Nat} {V : Value} {m : Nat} {xs : List Value}, wr.ownsRow 0 e sz V m xs → e ≠ 96 → e ≠ 32 → (w1.setCell ⟨A, 1, none⟩ (.slice bo (q + x + 1) bc)).ownsRow 0 e sz V m xs := fun hr h96 h32 => by
    have r1 := k1.row hr (own_two hr hL h96)
    exact (setA_kept _ _ _ _).row r1 (fun g hg hm => by have := own_ty b3 (fun q => h32 q.symm) r1; simp at hm; subst hm; simp [hg] at this)
  have h4 : (w1.setCell ⟨A, 1, none⟩ (.slice bo (q + x + 1) bc)).ownsRow 0 96 2 (.slice bo (q + x + 1) bc) (q + x + 1) _ := (setA_kept _ _ _ _).row h1 (fun g hg hm => by have := own_ty b3 (by decide) h1; simp at hm; subst hm; simp [hg] at this)
  refine ⟨⟨bo, bc, b4, ⟨?_, fun i hi => ?_⟩, ?_⟩, ?_, fun j hj1 hj2 => ?_, ⟨?_, fun i hi => ?_⟩, ?_⟩
  · show World.ownsRow _ 0 96 2 _ (q + x + 1) (hcs .i64 (jns g ft q) (q + x + 1))
    rw [hcs, jns_new]
    exact h4
  · by_cases hlt : i < q + x
    · refine fin (hj.row (hs1.each i hlt) (fun b hb hm => ?_)) (by decide) (by decide)
      by_cases hin : i < q
      · rw [jns_old g ft q i hin] at hb
        exact d1 x i hx hin b hm (by simp [blk, sl, hb])
      · obtain ⟨j, rfl⟩ : ∃ j, i = q + j := ⟨i - q, by omega⟩
        rw [jns_new] at hb
        exact d2 x j hx (by omega) (by omega) b hm (by simp [blk, sl, hb])
    · obtain rfl : i = q + x := by omega
      rw [jns_new]
      exact fin hy (by decide) (by decide)
  · exact li1.trans (li2.of_kept hj) (H.kept.size)
  · exact fin (hj.row H.tt (own_two H.tt hr0 (by decide))) (by decide) (by decide)
  · obtain ⟨ys, hys⟩ := H.rows j (by omega) hj2
    exact ⟨ys, fin (hj.row hys (fun b hb hm => d2 x j hx hj2 (by omega) b hm (by simp [blk, hb]))) (by decide) (by decide)⟩
  · exact fin (hj.row H.hs.own (own_two H.hs.own hr0 (by decide))) (by decide) (by decide)
  · exact fin (hj.row (H.hs.each i hi) (own_two (H.hs.each i hi) hr0 (by decide))) (by decide) (by decide)
  · have q1 := H.kept.step hj (fun b hb => .inl (by simp only [List.mem_cons, List.mem_append]; exact .inr (.inr (mem_blks hx hb))))
    have q2 := q1.step k1 (fun b hb => by
      rcases li1.mem b hb with z | z
      · exact .inl (by simp only [List.mem_cons, List.mem_append]; exact .inr (.inl z))
      · exact .inr z)
    exact q2.step (setA_kept _ _ _ _) (fun b hb => .inl (by simp at hb; subst hb; simp))
/-- A cell of a row is set. -/
theorem own_setG {w : World} {B e z G n c : Nat} {xs : List Value} (h : w.ownsRow B e z (.slice (some ⟨G, 0, none⟩) n c) n xs) (i : Nat) (v : Value) : (w.setCell ⟨G, i, none⟩ v).ownsRow B e z (.slice (some ⟨G, 0, none⟩) n c) n (xs.set i v) := by
  refine ⟨by rw [List.length_set]; exact h.1, ?_⟩
  rcases h.2 with ⟨h2, _⟩ | ⟨g, cap, cur, h2, h3, h4, h5, h6, h7, h8⟩
  · cases h2
  · simp only [Value.slice.injEq, Option.some.injEq, Addr.mk.injEq] at h2
    obtain ⟨⟨rfl, -, -⟩, -, rfl⟩ := h2
    refine .inr ⟨G, c, cur.setIfInBounds i v, rfl, h3, heap_setCell_at h4, h5, h6, by simpa using h7, ?_⟩
    rw [← h8]
    simp only [Array.toList_setIfInBounds]
    rw [List.take_set]
/-- Rows of other kinds stand as they did when the holds have been marked. -/
theorem first_keep {w w0 : World} {A : Nat} {l0 s o t k u ks us : Value} {n p : Nat} {xs : List Value} {fo : Nat → Hd} (hk : Kept (A :: (l0.ownBlock.toList ++ blks fo p)) w w0) (h : Bx w A l0 s o t k u ks us) (hL : w.ownsRow 0 94 2 l0 n xs) (hO : ∀ i, i < p → ∃ xs, w.ownsRow 0 5 1 (sl (fo i)) (fo i).l xs)
    {e z m : Nat} {V : Value} {ys : List Value} (hr : w.ownsRow 0 e z V m ys) (h32 : e ≠ 32) (h94 : e ≠ 94) (h5 : e ≠ 5) : w0.ownsRow 0 e z V m ys := hk.row hr (fun g hg hm => by
  simp only [List.mem_cons, List.mem_append] at hm
  rcases hm with rfl | hm | hm
  · exact own_ty h (fun q => h32 q.symm) hr (by simp [hg])
  · exact own_two hr hL h94 g hg hm
  · obtain ⟨i, hi, hb⟩ := List.mem_flatMap.1 hm
    obtain ⟨zs, hz⟩ := hO i (List.mem_range.1 hi)
    exact own_two hr hz h5 g hg hb)
/-- The marking of the spans begins. -/
theorem Mk1.second {w w0 : World} {A : Nat} {l0 o t k u ks us : Value} {n p q r sc : Nat} {so : Option Addr} {xs : List Value} {f fo g ft : Nat → Hd} (H : Mk1 w w0 A (.slice so q sc) o t k u ks us l0 n p p f fo) (h : Bx w A l0 (.slice so q sc) o t k u ks us) (hL : w.ownsRow 0 94 2 l0 n xs) (hO : ∀ i, i < p → ∃ xs, w.ownsRow 0 5 1 (sl (fo i)) (fo i).l xs)
    (hS : Ss w (.slice so q sc) q g) (hT : w.ownsRow 0 30 1 t r (ocs ft r)) (hTr : ∀ i, i < r → ∃ xs, w.ownsRow 0 63 2 (sl (ft i)) (ft i).l xs) :
    ∃ lo1 lc1, Mk2 w0 w0 A (.slice lo1 (n + p) lc1) o t k u ks us (.slice so q sc) q r 0 (n + p) g ft (jn f fo n) ∧ Lies w l0 (.slice lo1 (n + p) lc1) := by
  obtain ⟨lo1, lc1, b1, hs1, li1⟩ := H.bx
  refine ⟨lo1, lc1, ⟨⟨so, sc, b1, ⟨?_, fun i hi => ?_⟩, Lies.refl _ _⟩, ?_, fun j _ hj => ?_, hs1, Kept.refl _ _⟩, li1⟩
  · rw [hcs_congr .i64 (jns g ft q) g (q + 0) (fun i hi => jns_old g ft q i (by omega))]
    exact first_keep H.kept h hL hO hS.own (by decide) (by decide) (by decide)
  · rw [jns_old g ft q i (by omega)]
    exact first_keep H.kept h hL hO (hS.each i (by omega)) (by decide) (by decide) (by decide)
  · exact first_keep H.kept h hL hO hT (by decide) (by decide) (by decide)
  · obtain ⟨ys, hys⟩ := hTr j hj
    exact ⟨ys, first_keep H.kept h hL hO hys (by decide) (by decide) (by decide)⟩
theorem spc_rep (ys : List Value) (n : Nat) (m : Int) (hl : ys.length = n * 2) (h : ∀ z, z < n → ys[z * 2]? = some (.int .i64 m) ∧ ys[z * 2 + 1]? = some (.int .i64 0)) : ys = spc (List.replicate n (m, 0)) := by
  induction n generalizing ys with
  | zero => simp at hl; subst hl; rfl
  | succ n ih =>
    match ys, hl with
    | [], hl => simp at hl
    | [_], hl => simp only [List.length_cons, List.length_nil] at hl; omega
    | a :: b :: t, hl =>
      have h0 := h 0 (by omega)
      simp at h0
      obtain ⟨rfl, rfl⟩ := h0
      rw [List.replicate_succ, show ((m, (0 : Int)) :: List.replicate n (m, 0)) = [(m, 0)] ++ List.replicate n (m, 0) from rfl, spc_append, spc_one, ← ih t (by simp at hl; omega) (fun z hz => by
        have := h (z + 1) (by omega)
        rw [show (z + 1) * 2 = z * 2 + 1 + 1 by omega] at this
        simpa using this)]
      rfl
end Go.Proofs.Ytiojcfffhcipnaa
