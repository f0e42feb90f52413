import Derived.Test.YtmgfapooanpgfaaSb
namespace Go.Proofs.Ytmgfapooanpgfaa
open Go.RowKit

/-- The second rows, the sums, the column. -/
def bF (M : Nat → ByteArray) (nm_ i x : Nat) : Nat := if i < nm_ then (byl (M i)).getD x 0 else 0
def sLb (L : Nat → List Nat) (M : Nat → ByteArray) (nm_ i : Nat) : List Nat := rg (bF M nm_ i) (L i).length
def sLs (L : Nat → List Nat) (M : Nat → ByteArray) (nm_ i : Nat) : List Nat := rg (fun x => (L i).getD x 0 ^^^ bF M nm_ i x) (L i).length
def sLc (L : Nat → List Nat) (X i : Nat) : List Nat := if X < (L i).length then [(L i).getD X 0] else []
def v3 {A : Type} (b s c : A) : Nat → A := fun a => if a = 0 then b else if a = 1 then s else c
theorem v3_0 {A : Type} {x x' y z : A} {b : Nat} (h : b ≠ 0) : v3 x y z b = v3 x' y z b := by unfold v3; rw [if_neg h, if_neg h]
theorem v3_1 {A : Type} {x y y' z : A} {b : Nat} (h : b ≠ 1) : v3 x y z b = v3 x y' z b := by unfold v3; rw [if_neg h, if_neg h]
theorem v3_2 {A : Type} {x y z z' : A} {b : Nat} (hb : b < 3) (h : b ≠ 2) : v3 x y z b = v3 x y z' b := by
  unfold v3
  by_cases h0 : b = 0
  · rw [if_pos h0, if_pos h0]
  · rw [if_neg h0, if_neg h0, if_pos (by omega), if_pos (by omega)]
theorem bF_lt (M : Nat → ByteArray) (nm_ i x : Nat) : bF M nm_ i x < 256 := by
  unfold bF
  split
  · exact getD_lt _ _ (byl_byts _)
  · decide

theorem one_new (w8 : World) (o1 o2 : Obj) (vv : Nat) (cs : Array Value) (hcs : cs[0]? = some (byt vv)) : Reads (((w8.alloc o1).alloc o2).alloc (.cells cs 5)).drew (some ⟨w8.heap.size + 1 + 1, 0, none⟩) [vv] ∧ w8.heap.size ≤ w8.heap.size + 1 + 1 ∧ w8.heap.size + 1 + 1 < (((w8.alloc o1).alloc o2).alloc (.cells cs 5)).drew.heap.size ∧ Kept [] w8 (((w8.alloc o1).alloc o2).alloc (.cells cs 5)).drew := by
  have hs : ((w8.alloc o1).alloc o2).heap.size = w8.heap.size + 1 + 1 := by rw [World.size_alloc, World.size_alloc]
  refine ⟨?_, by omega, ?_, ((((Kept.refl _ w8).alloc _).alloc _).alloc _).drew⟩
  · have h1 : Reads (((w8.alloc o1).alloc o2).alloc (.cells cs 5)) (some ⟨w8.heap.size + 1 + 1, 0, none⟩) [vv] := .inr ⟨_, _, rfl, fun i hi => by
      obtain rfl : i = 0 := by simpa using hi
      rw [← hs]
      exact alloc_cell _ _ _ _ _ hcs⟩
    exact h1.keep (Kept.refl _ _).drew
  · show _ < (((w8.alloc o1).alloc o2).alloc (.cells cs 5)).heap.size
    rw [World.size_alloc, hs]
    omega
theorem cut_ge (t : Nat) : 1 ≤ (Question.appendCap 1 0 5).cut t := Nat.le_add_right _ _
theorem nil_new (w8 : World) (cs : Array Value) : Reads (w8.alloc (.cells cs 5)) (some ⟨w8.heap.size, 0, none⟩) [] ∧ w8.heap.size < (w8.alloc (.cells cs 5)).heap.size ∧ Kept [] w8 (w8.alloc (.cells cs 5)) := by
  refine ⟨.inl rfl, ?_, alloc_kept _ _⟩
  rw [World.size_alloc]
  omega
theorem Tri.congr {w : World} {B : Nat} {V V2 : Nat → Value} {kk kk2 : Nat → Nat} {f : Nat → Nat → Value} {L : Nat → Nat → List Nat} (h : Tri w B V kk f L) (e1 : ∀ a, a < 3 → V2 a = V a) (e2 : ∀ a, a < 3 → kk2 a = kk a) : Tri w B V2 kk2 f L :=
  ⟨fun a ha => by rw [e1 a ha, e2 a ha]; exact h.own a ha, fun a b ha hb => by rw [e1 a ha, e1 b hb]; exact h.dis a b ha hb, fun a ha i hi => by
    rw [e2 a ha] at hi
    obtain ⟨g, c, h1, h2, h3, h4, h5, h6⟩ := h.row a ha i hi
    exact ⟨g, c, h1, h2, h3, h4, h5, fun b hb => by rw [e1 b hb]; exact h6 b hb⟩⟩


/-- A list of rows more, as it is read. -/
def Mr (w : World) (g P W : Nat) (F : Nat → Nat → Nat) : Prop := ∀ i, i < P → ∃ B o, w.cell? ⟨g, i, none⟩ = some (.slice (some ⟨B, o, none⟩) W W) ∧ ∀ x, x < W → w.cell? ⟨B, o + x, none⟩ = some (.int .u8 (F i x : Nat))
theorem Mr.keep {w w' : World} {g P W : Nat} {F : Nat → Nat → Nat} (h : Mr w g P W F) (hk : Kept [] w w') : Mr w' g P W F := fun i hi => by
  obtain ⟨B, o, h1, h2⟩ := h i hi
  exact ⟨B, o, cell_keep hk h1 (by simp), fun x hx => cell_keep hk (h2 x hx) (by simp)⟩
theorem make_good (ao : Option Addr) (n c P : Nat) (L : Nat → List Nat) (w u : World) (hm : MC w ao (ll L n)) (hb : Bm (ll L n)) (hn : n ≤ 200) (hP : P ≤ 16) (hL : ∀ i, i < n → (L i).length ≤ 16777216) (hu : Kept [] w u) :
    Calls Try.prog 13 #[.slice ao n c, .int .i64 (P : Int)] u fun e w' => ∃ g, e = .returned (.tuple #[.slice (some ⟨g, 0, none⟩) P P, .int .i64 0]) ∧ Mr w' g P (wx (fun i => (L i).length) n) (mk (ll L n)) ∧ Kept [] u w' := by
  have hW : wdt (ll L n) ≤ 16777216 := by rw [wdt_ll]; exact wx_le hL
  refine (make_any ao n c P (ll L n) u (hm.keep hu) hb (ll_length _ _) hn hP (fun j hj => by rw [ll_getD _ _ _ hj]; have := hL j hj; omega)).mono ?_
  intro e w3 h
  unfold MkPost at h
  rw [if_pos hW] at h
  obtain ⟨g, B, Z, he, hct, hcn, hZ, hg, hB, hk⟩ := h
  rw [wdt_ll] at hct hcn
  refine ⟨g, he, fun i hi => ?_, hk⟩
  obtain ⟨h1, h2⟩ := hct.at hcn hi
  refine ⟨_, _, h1, fun x hx => ?_⟩
  obtain ⟨g2, o2, e2, h3⟩ := h2.cell (j := x) (by rw [rg_length]; exact hx)
  cases e2
  rw [rg_getD _ _ _ hx] at h3
  exact h3
theorem wx_ex {f : Nat → Nat} {n X : Nat} (h : X < wx f n) : ∃ i, i < n ∧ X < f i := by
  induction n with
  | zero => exact absurd h (by simp [wx])
  | succ n ih =>
    have e : wx f (n + 1) = max (wx f n) (f n) := rfl
    rw [e] at h
    by_cases h1 : X < f n
    · exact ⟨n, by omega, h1⟩
    · obtain ⟨i, hi, hX⟩ := ih (by omega)
      exact ⟨i, by omega, hX⟩
theorem sLb_wx (L : Nat → List Nat) (M : Nat → ByteArray) (nm_ n : Nat) : wx (fun i => (sLb L M nm_ i).length) n = wx (fun i => (L i).length) n := wx_congr (fun i _ => by rw [sLb, rg_length])
theorem sLs_wx (L : Nat → List Nat) (M : Nat → ByteArray) (nm_ n : Nat) : wx (fun i => (sLs L M nm_ i).length) n = wx (fun i => (L i).length) n := wx_congr (fun i _ => by rw [sLs, rg_length])
theorem sLc_len (L : Nat → List Nat) (X i : Nat) : (sLc L X i).length ≤ 1 := by unfold sLc; split <;> simp
theorem sLc_wx (L : Nat → List Nat) (X n : Nat) (h : X < wx (fun i => (L i).length) n) : wx (fun i => (sLc L X i).length) n = 1 := by
  have h1 : wx (fun i => (sLc L X i).length) n ≤ 1 := wx_le (fun i _ => sLc_len L X i)
  obtain ⟨i, hi, hX⟩ := wx_ex h
  have h2 := wx_ge (fun i => (sLc L X i).length) hi
  have h3 : (sLc L X i).length = 1 := by unfold sLc; rw [if_pos hX]; rfl
  simp only [h3] at h2
  omega
theorem fn_ll (L : Nat → List Nat) (n j x : Nat) (h : j < n) : fn (ll L n) j x = (L j).getD x 0 := by
  unfold fn
  rw [ll_getD _ _ _ h]
theorem getD_out (l : List Nat) (x : Nat) (h : l.length ≤ x) : l.getD x 0 = 0 := by
  rw [List.getD_eq_getElem?_getD, List.getElem?_eq_none h]; rfl
theorem sums_mk (L : Nat → List Nat) (M : Nat → ByteArray) (nm_ n i x : Nat) : mk (ll (sLs L M nm_) n) i x = mk (ll L n) i x ^^^ mk (ll (sLb L M nm_) n) i x :=
  mk_sum (ll_length _ _) (ll_length _ _) (ll_length _ _) (fun j hj x => by
    rw [fn_ll _ _ _ _ hj, fn_ll _ _ _ _ hj, fn_ll _ _ _ _ hj, sLs, sLb]
    by_cases h : x < (L j).length
    · rw [rg_getD _ _ _ h, rg_getD _ _ _ h]
    · rw [getD_out _ _ (by rw [rg_length]; omega), getD_out _ _ (by omega), getD_out _ _ (by rw [rg_length]; omega)]; rfl) i x
theorem col_mk (L : Nat → List Nat) (X n i : Nat) : mk (ll (sLc L X) n) i 0 = mk (ll L n) i X :=
  mk_col (ll_length _ _) (ll_length _ _) (fun j hj => by
    rw [fn_ll _ _ _ _ hj, fn_ll _ _ _ _ hj, sLc]
    by_cases h : X < (L j).length
    · rw [if_pos h]; rfl
    · rw [if_neg h, getD_out (L j) X (by omega)]; rfl) i

end Go.Proofs.Ytmgfapooanpgfaa
