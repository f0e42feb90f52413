import Derived.Test.YtgjjnkhkjnkahaaDoorFm
import Derived.Test.YtgjjnkhkjnkahaaDoorCp
import Derived.Test.YtgjjnkhkjnkahaaDoorSt
import Derived.Test.YtgjjnkhkjnkahaaDoorOv
namespace Go.Proofs.YtgjjnkhkjnkahaaDoor
open Go.RowKit

/-- A frame that came in. -/
structure Fi where
  W : Int
  H : Int
  D : Int
  A : Bool
  po : Option Addr
  n : Nat
  c : Nat
  ln : Nat → Nat
  F : Nat → Nat → Nat
abbrev fiv (x : Fi) : Value := frv x.W x.H x.D x.A x.po x.n x.c
structure Fi.Ok (w : World) (x : Fi) : Prop where
  pn : Pn w x.po x.n x.ln x.F
  n1 : x.n ≤ 1048576
  l1 : ∀ i, i < x.n → x.ln i ≤ 1048576
  f1 : ∀ i, i < x.n → ∀ j, j < x.ln i → x.F i j < 65536
theorem Fi.Ok.keep {w w' : World} {x : Fi} (h : x.Ok w) (hk : Kept [] w w') : x.Ok w' := ⟨h.pn.keep hk, h.n1, h.l1, h.f1⟩
/-- Two frames, by which part of which number. -/
structure Mi where
  a : Fi
  b : Fi
  p : Int
  o : Int
/-- The list that came in. -/
def Ms (w : World) (lo : Option Addr) (L : List Mi) : Prop := L = [] ∨ ∃ g off, lo = some ⟨g, off, none⟩ ∧ ∀ i x, L[i]? = some x →
    (w.cell? ⟨g, off + i * 12, none⟩ = some (.int .i64 x.a.W) ∧ w.cell? ⟨g, off + i * 12 + 1, none⟩ = some (.int .i64 x.a.H) ∧ w.cell? ⟨g, off + i * 12 + 2, none⟩ = some (.int .i64 x.a.D) ∧ w.cell? ⟨g, off + i * 12 + 3, none⟩ = some (.bool x.a.A) ∧ w.cell? ⟨g, off + i * 12 + 4, none⟩ = some (.slice x.a.po x.a.n x.a.c)) ∧
    (w.cell? ⟨g, off + i * 12 + 5, none⟩ = some (.int .i64 x.b.W) ∧ w.cell? ⟨g, off + i * 12 + 6, none⟩ = some (.int .i64 x.b.H) ∧ w.cell? ⟨g, off + i * 12 + 7, none⟩ = some (.int .i64 x.b.D) ∧ w.cell? ⟨g, off + i * 12 + 8, none⟩ = some (.bool x.b.A) ∧ w.cell? ⟨g, off + i * 12 + 9, none⟩ = some (.slice x.b.po x.b.n x.b.c)) ∧
    w.cell? ⟨g, off + i * 12 + 10, none⟩ = some (.int .i64 x.p) ∧ w.cell? ⟨g, off + i * 12 + 11, none⟩ = some (.int .i64 x.o)
/-- A frame's cells. -/
def fmc (x : Fm) : List Value := [.int .i64 x.W, .int .i64 x.H, .int .i64 x.D, .bool x.A, x.V]
theorem fmc_len (O : List Fm) : (O.flatMap fmc).length = O.length * 5 := by
  induction O with
  | nil => rfl
  | cons x t ih => rw [List.flatMap_cons, List.length_append, ih]; simp [fmc]; omega
theorem fmc_at {O : List Fm} {q : Nat} {x : Fm} (h : O[q]? = some x) (j : Nat) (hj : j < 5) : (O.flatMap fmc)[q * 5 + j]? = (fmc x)[j]? := by
  induction O generalizing q with
  | nil => simp at h
  | cons y t ih =>
    rw [List.flatMap_cons]
    cases q with
    | zero =>
      simp at h
      subst h
      rw [Nat.zero_mul, Nat.zero_add, List.getElem?_append_left (by simpa [fmc] using hj)]
    | succ q =>
      rw [List.getElem?_append_right (by simp [fmc]; omega)]
      rw [show (q + 1) * 5 + j - (fmc y).length = q * 5 + j by simp [fmc]; omega]
      exact ih (by simpa using h)
theorem Fmk.base {B B' : Nat} {w : World} {x : Fm} (h : Fmk B' w x) (hB : B ≤ B') : Fmk B w x := by
  refine ⟨⟨h.own.1, ?_⟩, h.row, h.mon, fun i hi => Nat.le_trans hB (h.lo i hi)⟩
  rcases h.own.2 with h1 | ⟨g, cap, cur, e, hb, h2⟩
  · exact .inl h1
  · exact .inr ⟨g, cap, cur, e, Nat.le_trans hB hb, h2⟩
theorem Fmk.keep {B : Nat} {w w' : World} {x : Fm} (h : Fmk B w x) (hk : Kept [] w w') : Fmk B w' x := Gx.keep0 h hk
/-- What has been made so far. -/
structure Ph (w0 w : World) (OV WV : Value) (O Y : List Fm) : Prop where
  oo : w.ownsRow w0.heap.size 29 5 OV O.length (O.flatMap fmc)
  yo : w.ownsRow w0.heap.size 29 5 WV Y.length (Y.flatMap fmc)
  ofm : ∀ x ∈ O, Fmk w0.heap.size w x
  yfm : ∀ x ∈ Y, Fmk w0.heap.size w x
  len : O.length = Y.length
  al : ∀ (q : Nat) x y, O[q]? = some x → Y[q]? = some y → Alk x y
  ap : O.Pairwise (fun x y => ∀ p, p < x.n → ∀ p', p' < y.n → x.bs p < y.bs p')
  ne : ∀ g, OV.ownBlock = some g → WV.ownBlock ≠ some g
  kept : Kept [] w0 w
theorem Ph.start (w : World) : Ph w w (.slice none 0 0) (.slice none 0 0) [] [] :=
  ⟨⟨rfl, .inl ⟨rfl, rfl⟩⟩, ⟨rfl, .inl ⟨rfl, rfl⟩⟩, by simp, by simp, rfl, by simp, .nil, fun g h => by simp [Value.ownBlock] at h, Kept.refl _ _⟩
theorem Ph.keep {w0 w w' : World} {OV WV : Value} {O Y : List Fm} (h : Ph w0 w OV WV O Y) (hk : Kept [] w w') : Ph w0 w' OV WV O Y :=
  ⟨hk.row h.oo (by simp), hk.row h.yo (by simp), fun x hx => (h.ofm x hx).keep hk, fun x hx => (h.yfm x hx).keep hk, h.len, h.al, h.ap, h.ne, h.kept.trans hk⟩
theorem Ph.from {w0 w1 w : World} {OV WV : Value} {O Y : List Fm} (h : Ph w1 w OV WV O Y) (hk : Kept [] w0 w1) : Ph w0 w OV WV O Y := by
  have hs := hk.size
  have f : ∀ {V : Value} {n : Nat} {xs : List Value}, w.ownsRow w1.heap.size 29 5 V n xs → w.ownsRow w0.heap.size 29 5 V n xs := fun h => by
    refine ⟨h.1, ?_⟩
    rcases h.2 with h1 | ⟨g, cap, cur, e, hb, h2⟩
    · exact .inl h1
    · exact .inr ⟨g, cap, cur, e, Nat.le_trans hs hb, h2⟩
  exact ⟨f h.oo, f h.yo, fun x hx => (h.ofm x hx).base hs, fun x hx => (h.yfm x hx).base hs, h.len, h.al, h.ap, h.ne, hk.trans h.kept⟩
theorem own5_ty {w : World} {B n : Nat} {V : Value} {xs : List Value} (h : w.ownsRow B 29 5 V n xs) : ∀ x, V.ownBlock = some x → B ≤ x ∧ x < w.heap.size ∧ ∃ cs, w.heap[x]? = some (.cells cs 29 (0, 0)) := fun x hx => by
  rcases h.2 with ⟨rfl, _⟩ | ⟨g, cap, cur, rfl, hb, hg, _⟩
  · simp [Value.ownBlock] at hx
  · simp [Value.ownBlock] at hx
    subst hx
    exact ⟨hb, lt_of_block hg, _, hg⟩
theorem Tryd.infoF : (Tryd.prog.info? 29).map (fun i => (i.zero, i.size, i.bytes)) = some (some (.agg #[.int .i64 0, .int .i64 0, .int .i64 0, .bool false, .slice none 0 0]), 5, 56) := by kernel_rfl
theorem gx_one {B : Nat} {w : World} {V : Value} {k : Nat} {bs ln : Nat → Nat} {F : Nat → Nat → Nat} (h : Gx B w V k bs ln F) : V.oneCell' = true := by
  rcases h.own.2 with ⟨rfl, _⟩ | ⟨g, cap, cur, rfl, _⟩ <;> rfl
set_option maxRecDepth 100000 in
/-- append of two frames. -/
theorem wpList_fm (w : World) {ops : Array Oper} {rest : List Oper} {o : Oper} {a : Act} {Q : Exit → Act → World → Prop} (hgd : o.guard = none) (s x : Operand) (B : Nat)
    (ho : o.op = .call { callee := .builtin .append, args := #[s, x], argTypes := #[24, 24] })
    (v : Value) (O : List Fm) (hs : a.eval s = v) (hown : w.ownsRow B 29 5 v O.length (O.flatMap fmc)) (f t : Fm) (hx : a.eval x = .slice (some ⟨w.heap.size, 0, none⟩) 2 2) (h1 : f.V.oneCell' = true) (h2 : t.V.oneCell' = true) (hB : B ≤ w.heap.size) (hb : O.length ≤ 100000000)
    (h : ∀ v' w', w'.ownsRow B 29 5 v' (O ++ [f, t]).length ((O ++ [f, t]).flatMap fmc) → Kept v.ownBlock.toList w w' → Lies w v v' → wpList Tryd.prog ops Q rest (a.put o.dst v') w') :
    wpList Tryd.prog ops Q (o :: rest) a (w.alloc (.cells #[.int .i64 f.W, .int .i64 f.H, .int .i64 f.D, .bool f.A, f.V, .int .i64 t.W, .int .i64 t.H, .int .i64 t.D, .bool t.A, t.V] 29)) := by
  obtain ⟨j0, gi, gz0, gz1, gz2⟩ := info_parts Tryd.infoF
  have hb2 := heap_alloc_new w (.cells #[.int .i64 f.W, .int .i64 f.H, .int .i64 f.D, .bool f.A, f.V, .int .i64 t.W, .int .i64 t.H, .int .i64 t.D, .bool t.A, t.V] 29)
  refine wpList_append_own_at _ hgd s x 24 ho B 29 j0 _ 5 56 Tryd.underlying24 gi gz0 gz1 gz2 rfl (by decide) v O.length (O.flatMap fmc) hs (hown.alloc _) ⟨w.heap.size, 0, none⟩ 2 2 (fmc f ++ fmc t) hx rfl (fun j u hj => ?_) (fun u hu => ?_) (by unfold maxLen; omega) (by omega) (by rw [World.size_alloc]; omega) ?_
  · rw [show (⟨w.heap.size, 0, none⟩ : Addr).add j = ⟨w.heap.size, j, none⟩ by unfold Addr.add; split <;> simp_all, cell_of_row _ _ _ _ _ _ hb2]
    simpa [fmc] using hj
  · simp [fmc] at hu
    rcases hu with rfl | rfl | rfl | rfl | rfl | rfl | rfl | rfl | rfl | rfl <;> first | rfl | assumption
  · intro v' w' g2 g3 _ g5
    refine h v' w' (by simpa [List.flatMap_append] using g2) (((Kept.refl _ w).alloc _).step (Kept.of_grown g3) (fun x hx => .inl hx)) ?_
    rcases g5 with h | h
    · exact .inl h
    · exact .inr ⟨_, h, by rw [World.size_alloc]; omega⟩
/-- Two frames more, of both. -/
theorem Ph.app {w0 w wA w1 w2 : World} {OV WV OV' WV' : Value} {O Y : List Fm} {f g t v : Fm} (h : Ph w0 w OV WV O Y) (hk : Kept [] w wA) (hf : Fmk w.heap.size wA f) (ht : Fmk w.heap.size wA t) (hg : Fmk w.heap.size wA g) (hv : Fmk w.heap.size wA v) (hft : ∀ p, p < f.n → ∀ p', p' < t.n → f.bs p < t.bs p') (a1 : Alk f g) (a2 : Alk t v)
    (o1 : w1.ownsRow w0.heap.size 29 5 OV' (O ++ [f, t]).length ((O ++ [f, t]).flatMap fmc)) (k1 : Kept OV.ownBlock.toList wA w1) (l1 : Lies wA OV OV')
    (o2 : w2.ownsRow w0.heap.size 29 5 WV' (Y ++ [g, v]).length ((Y ++ [g, v]).flatMap fmc)) (k2 : Kept WV.ownBlock.toList w1 w2) (l2 : Lies w1 WV WV') : Ph w0 w2 OV' WV' (O ++ [f, t]) (Y ++ [g, v]) := by
  have hA := h.keep hk
  have hs := h.kept.size
  have ty1 : ∀ x ∈ OV.ownBlock.toList, wA.heap.size ≤ x ∨ ∃ cs, wA.heap[x]? = some (.cells cs 29 (0, 0)) := fun x hx => by rw [mem_own] at hx; exact .inr (own5_ty hA.oo x hx).2.2
  have hY1 : w1.ownsRow w0.heap.size 29 5 WV Y.length (Y.flatMap fmc) := k1.row hA.yo (fun g0 hg0 hm => by rw [mem_own] at hm; exact hA.ne g0 hm hg0)
  have ty2 : ∀ x ∈ WV.ownBlock.toList, w1.heap.size ≤ x ∨ ∃ cs, w1.heap[x]? = some (.cells cs 29 (0, 0)) := fun x hx => by rw [mem_own] at hx; exact .inr (own5_ty hY1 x hx).2.2
  have fr : ∀ {x : Fm}, Fmk w0.heap.size wA x → Fmk w0.heap.size w2 x := fun hx => Gx.keept (Gx.keept hx k1 ty1) k2 ty2
  have ne1 : ∀ b, OV'.ownBlock = some b → WV.ownBlock ≠ some b := fun b hb hw => by
    rcases l1 with h1 | ⟨b1, h1, h2⟩
    · exact hA.ne b (h1 ▸ hb) hw
    · rw [h1] at hb
      cases hb
      have := (own5_ty hA.yo b hw).2.1
      omega
  have lt : ∀ x ∈ O, ∀ p, p < x.n → x.bs p < w.heap.size := fun x hx p hp => ((h.ofm x hx).row p hp).lt
  refine ⟨k2.row o1 (fun g0 hg0 hm => by rw [mem_own] at hm; exact ne1 g0 hg0 hm), o2, fun x hx => ?_, fun x hx => ?_, by simp [h.len], fun q x y hx hy => ?_, ?_, fun b hb hw => ?_, ?_⟩
  · simp at hx
    rcases hx with hx | rfl | rfl
    · exact fr (hA.ofm x hx)
    · exact fr (hf.base hs)
    · exact fr (ht.base hs)
  · simp at hx
    rcases hx with hx | rfl | rfl
    · exact fr (hA.yfm x hx)
    · exact fr (hg.base hs)
    · exact fr (hv.base hs)
  · by_cases hq : q < O.length
    · rw [List.getElem?_append_left hq] at hx
      rw [List.getElem?_append_left (by rw [← h.len]; exact hq)] at hy
      exact h.al q x y hx hy
    · rw [List.getElem?_append_right (by omega)] at hx
      rw [List.getElem?_append_right (by rw [← h.len]; omega), ← h.len] at hy
      rcases e : q - O.length with _ | _ | j
      · rw [e] at hx hy; simp at hx hy; subst hx hy; exact a1
      · rw [e] at hx hy; simp at hx hy; subst hx hy; exact a2
      · rw [e] at hx; simp at hx
  · rw [List.pairwise_append]
    refine ⟨h.ap, ?_, fun x hx y hy p hp p' hp' => ?_⟩
    · simp only [List.pairwise_cons, List.mem_singleton, forall_eq, List.not_mem_nil, false_implies, implies_true, List.Pairwise.nil, and_true]
      exact hft
    · have h1 := lt x hx p hp
      simp at hy
      rcases hy with rfl | rfl
      · have := hf.lo p' hp'; omega
      · have := ht.lo p' hp'; omega
  · rcases l2 with h1 | ⟨b1, h1, h2⟩
    · exact ne1 b hb (h1 ▸ hw)
    · rw [h1] at hw
      cases hw
      have := (own5_ty o1 b hb).2.1
      omega
  · exact (hA.kept.step k1 (fun x hx => by rw [mem_own] at hx; exact .inr (own5_ty hA.oo x hx).1)).step k2 (fun x hx => by rw [mem_own] at hx; exact .inr (own5_ty hY1 x hx).1)
end Go.Proofs.YtgjjnkhkjnkahaaDoor
