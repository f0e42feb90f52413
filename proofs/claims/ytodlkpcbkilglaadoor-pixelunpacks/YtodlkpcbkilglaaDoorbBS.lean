import Derived.Test.YtodlkpcbkilglaaDoorbBPZ
import Derived.Deep.LoopGhost
namespace Go.Proofs.YtodlkpcbkilglaaDoor.Bt
open Go.RowKit

/-- The mark of list i. -/
def mk (i : Nat) : Nat := (37 * i + 11) % 256

/-- The blocks of the lists. -/
def blk (V : Nat → Value) (n : Nat) : List Nat := (List.range n).flatMap fun i => (V i).ownBlock.toList
theorem mem_blk {V : Nat → Value} {n x : Nat} : x ∈ blk V n ↔ ∃ i, i < n ∧ (V i).ownBlock = some x := by
  simp [blk]

/-- A book of n lists. -/
structure BookAt (w : World) (Bk gl cl gw cw n : Nat) (V U : Nat → Value) (ls : Nat → List Nat) : Prop where
  box : w.heap[Bk]? = some (.cells #[.slice (some ⟨gl, 0, none⟩) n cl, .slice (some ⟨gw, 0, none⟩) n cw] 35 (0, 0))
  l : w.ownsRow 0 37 1 (.slice (some ⟨gl, 0, none⟩) n cl) n ((List.range n).map V)
  was : w.ownsRow 0 37 1 (.slice (some ⟨gw, 0, none⟩) n cw) n ((List.range n).map U)
  v : ∀ i, i < n → Lst w (V i) (ls i)
  u : ∀ i, i < n → w.ownsRow 0 5 1 (U i) (ls i).length ((ls i).map byt)
  apart : ∀ i j, i < n → j < n → i ≠ j → ∀ g, (V i).ownBlock = some g → (V j).ownBlock ≠ some g

theorem row_val {w : World} {g cap n : Nat} {V : Nat → Value} (h : w.ownsRow 0 37 1 (.slice (some ⟨g, 0, none⟩) n cap) n ((List.range n).map V)) (i : Nat) (hi : i < n) : w.cell? ⟨g, i, none⟩ = some (V i) := by
  rw [h.cellAt i (by omega)]
  simp [hi]

theorem run_str_drew {w : World} {v : Value} {l : List Nat} (h : Lst w v l) : ∀ q, Sem.run Tryd.prog (convert 37 9 v) (w.drewN q) = .ok (.string (bstr l)) (w.drewN q) :=
  fun q => (h.keep ((Kept.refl [] w).drewN q)).str

theorem run_str_row {w : World} {v : Value} {n : Nat} {l : List Nat} (h : w.ownsRow 0 5 1 v n (l.map byt)) : ∀ q, Sem.run Tryd.prog (convert 37 9 v) (w.drewN q) = .ok (.string (bstr l)) (w.drewN q) := by
  intro q
  have h2 := ((Kept.refl [] w).drewN q).row h (by simp)
  obtain ⟨ao, cap, rfl⟩ := row_form h2
  have hl : l.length = n := by have := h2.1; simpa using this
  exact reads_str' (reads_row h2) hl cap

theorem drewN_two (w : World) (a b : Nat) : (w.drewN a).drewN b = w.drewN (a + b) := by
  induction b with
  | zero => rfl
  | succ b ih => show ((w.drewN a).drewN b).drew = (w.drewN (a + b)).drew; rw [ih]

/-- What list j holds when the first i are written full. -/
def fill (ls : Nat → List Nat) (i j : Nat) : List Nat := if j < i then List.replicate (ls j).length (mk j) else ls j
theorem fill_length (ls : Nat → List Nat) (i j : Nat) : (fill ls i j).length = (ls j).length := by
  unfold fill; split <;> simp

structure Ph2 (w wr : World) (Bk gl cl gw cw n : Nat) (V : Nat → Value) (ls : Nat → List Nat) (i : Nat) : Prop where
  box : wr.heap[Bk]? = some (.cells #[.slice (some ⟨gl, 0, none⟩) n cl, .slice (some ⟨gw, 0, none⟩) n cw] 35 (0, 0))
  l : wr.ownsRow 0 37 1 (.slice (some ⟨gl, 0, none⟩) n cl) n ((List.range n).map V)
  v : ∀ j, j < n → Lst wr (V j) (fill ls i j)
  keep : Kept (blk V n) w wr

theorem ph2_start {w : World} {Bk gl cl gw cw n : Nat} {V U : Nat → Value} {ls : Nat → List Nat} (h : BookAt w Bk gl cl gw cw n V U ls) (q : Nat) : Ph2 w (w.drewN q) Bk gl cl gw cw n V ls 0 := by
  have hk := (Kept.refl [] w).drewN q
  exact ⟨hk.heap h.box (by simp), hk.row h.l (by simp), fun j hj => by simpa [fill] using (h.v j hj).keep hk, hk.mono (by simp)⟩

theorem ph2_apart {w : World} {Bk gl cl gw cw n : Nat} {V U : Nat → Value} {ls : Nat → List Nat} (h : BookAt w Bk gl cl gw cw n V U ls) : ∀ i j, i < n → j < n → i ≠ j → ∀ g, (V i).ownBlock = some g → (V j).ownBlock ≠ some g := h.apart

theorem ph2_at {w wr : World} {Bk gl cl gw cw n : Nat} {V : Nat → Value} {ls : Nat → List Nat} {i : Nat} (h : Ph2 w wr Bk gl cl gw cw n V ls i) (j : Nat) (hj : j < n) :
    ∃ L ao, V j = .slice ao L L ∧ L = (ls j).length ∧ (0 < L → ∃ g, ao = some ⟨g, 0, none⟩ ∧ wr.heap[g]? = some (.cells ((fill ls i j).map byt).toArray 5 (0, 0))) := by
  rcases h.v j hj with ⟨hv, hl⟩ | ⟨g, hv, hg⟩
  · have e : (ls j).length = 0 := by rw [← fill_length ls i j, hl]; rfl
    exact ⟨(ls j).length, none, by rw [hv, e], rfl, fun h => by omega⟩
  · exact ⟨(ls j).length, some ⟨g, 0, none⟩, by rw [hv, fill_length], rfl, fun _ => ⟨g, rfl, hg⟩⟩

theorem fill_one (l : List Nat) (m k : Nat) (hk : k < l.length) : ((List.replicate k m ++ l.drop k).map byt).set k (byt m) = (List.replicate (k + 1) m ++ l.drop (k + 1)).map byt := by
  have h1 : l.drop k = l[k] :: l.drop (k + 1) := List.drop_eq_getElem_cons hk
  rw [h1, List.map_append, List.map_cons, set_mid _ _ _ _ k (by simp), List.replicate_succ', List.map_append, List.map_append]
  simp

theorem cell_far_set {w : World} {B i g k : Nat} {u v : Value} (h : w.cell? ⟨B, i, none⟩ = some v) (hne : ¬ B = g) : (w.setCell ⟨g, k, none⟩ u).drew.cell? ⟨B, i, none⟩ = some v := by
  show (w.setCell ⟨g, k, none⟩ u).cell? ⟨B, i, none⟩ = some v
  rw [World.cell?_of_block (w := w) (a := ⟨B, i, none⟩) (Below.heap_setCell _ _ _ _ hne)]
  exact h

theorem mk_val (i : Nat) : Value.int .u8 ((37 * (i : Int) + 11) % 256) = byt (mk i) := by
  unfold byt mk
  congr 1

theorem fill_new (ls : Nat → List Nat) (i j : Nat) (h : j ≠ i) : fill ls (i + 1) j = fill ls i j := by
  unfold fill
  by_cases c2 : j < i
  · rw [if_pos c2, if_pos (by omega)]
  · rw [if_neg c2, if_neg (by omega)]

theorem ph2_step {w wr wx : World} {Bk gl cl gw cw n : Nat} {V : Nat → Value} {ls : Nat → List Nat} {i g L : Nat} (h : Ph2 w wr Bk gl cl gw cw n V ls i) (hi : i < n)
    (hd : ∀ i j, i < n → j < n → i ≠ j → ∀ g, (V i).ownBlock = some g → (V j).ownBlock ≠ some g) (hV : V i = .slice (some ⟨g, 0, none⟩) L L) (hL : L = (ls i).length)
    (hrow : wx.heap[g]? = some (.cells ((List.replicate L (mk i) ++ (ls i).drop L).map byt).toArray 5 (0, 0))) (hk : Kept [g] wr wx) : Ph2 w wx Bk gl cl gw cw n V ls (i + 1) := by
  have hg0 : ∃ cs, wr.heap[g]? = some (.cells cs 5 (0, 0)) := by
    rcases h.v i hi with ⟨hv, _⟩ | ⟨g', hv, hg'⟩
    · rw [hV] at hv; simp at hv
    · rw [hV] at hv; simp at hv; obtain ⟨rfl, _⟩ := hv; exact ⟨_, hg'⟩
  obtain ⟨cs, hg0⟩ := hg0
  have hgB : ¬ Bk = g := by intro e; subst e; have h1 := h.box; rw [hg0] at h1; simp at h1
  refine ⟨hk.heap h.box (by simpa using hgB), hk.row h.l (fun y hy => ?_), fun j hj => ?_, h.keep.step hk ?_⟩
  · simp [Value.ownBlock] at hy
    subst hy
    simp only [List.mem_singleton]
    intro e
    subst e
    exact own_ne2 hg0 (by decide) h.l rfl
  · by_cases c : j = i
    · subst c
      right
      have e : fill ls (j + 1) j = List.replicate L (mk j) := by unfold fill; rw [if_pos (by omega), hL]
      refine ⟨g, ?_, ?_⟩
      · rw [hV, e]; simp
      · rw [hrow, e, hL]; simp
    · rw [fill_new ls i j c]
      exact (h.v j hj).kept hk (fun y hy => by simp only [List.mem_singleton]; intro e; subst e; exact hd i j hi hj (Ne.symm c) y (by rw [hV]; rfl) hy)
  · intro x hx
    simp at hx
    subst hx
    exact .inl (mem_blk.2 ⟨i, hi, by rw [hV]; rfl⟩)

theorem ph2_skip {w wr : World} {Bk gl cl gw cw n : Nat} {V : Nat → Value} {ls : Nat → List Nat} {i : Nat} (h : Ph2 w wr Bk gl cl gw cw n V ls i) (_hj : i < n) (hl : 0 = (ls i).length) : Ph2 w wr Bk gl cl gw cw n V ls (i + 1) := by
  refine ⟨h.box, h.l, fun j hj => ?_, h.keep⟩
  have e : fill ls (i + 1) j = fill ls i j := by
    unfold fill
    by_cases c : j = i
    · subst c
      have : ls j = [] := List.eq_nil_of_length_eq_zero hl.symm
      simp [this]
    · by_cases c2 : j < i
      · rw [if_pos c2, if_pos (by omega)]
      · rw [if_neg c2, if_neg (by omega)]
  rw [e]
  exact h.v j hj

theorem ph2_keep {w wr wx : World} {Bk gl cl gw cw n : Nat} {V : Nat → Value} {ls : Nat → List Nat} {i : Nat} (h : Ph2 w wr Bk gl cl gw cw n V ls i) (hk : Kept [] wr wx) : Ph2 w wx Bk gl cl gw cw n V ls i :=
  ⟨hk.heap h.box (by simp), hk.row h.l (by simp), fun j hj => (h.v j hj).keep hk, h.keep.step hk (by simp)⟩

/-- How long list m of the long ones is. -/
def cnt (ls : Nat → List Nat) (m : Nat) : Nat := (ls (m / 2)).length + (if m % 2 = 0 then 20 else 80)

structure Ph3 (w wr : World) (Bk gl cl gw cw n : Nat) (V : Nat → Value) (ls : Nat → List Nat) (i : Nat) (lv : Value) (Gs : List Value) : Prop where
  p2 : Ph2 w wr Bk gl cl gw cw n V ls n
  long : wr.ownsRow w.heap.size 37 1 lv (2 * i) Gs
  rows : ∀ m v, Gs[m]? = some v → wr.ownsRow 0 5 1 v (cnt ls m) (List.replicate (cnt ls m) (byt (mk (m / 2))))

theorem ph3_start {w wr : World} {Bk gl cl gw cw n : Nat} {V : Nat → Value} {ls : Nat → List Nat} (h : Ph2 w wr Bk gl cl gw cw n V ls n) : Ph3 w wr Bk gl cl gw cw n V ls 0 (.slice none 0 0) [] :=
  ⟨h, World.ownsRow_nil _ _ _ _, by simp⟩

theorem ph3_grow {w wr : World} {Bk gl cl gw cw n : Nat} {V : Nat → Value} {ls : Nat → List Nat} {i L : Nat} {ao : Option Addr} (_h : Ph2 w wr Bk gl cl gw cw n V ls n) (hi : i < n) (hL : L = (ls i).length)
    (hV2 : 0 < L → ∃ g, ao = some ⟨g, 0, none⟩ ∧ wr.heap[g]? = some (.cells ((fill ls n i).map byt).toArray 5 (0, 0))) : Grow wr wr (.slice ao L L) L (byt (mk i)) := by
  refine .inl ⟨ao, rfl, fun e => ?_, fun b hb j u hu => ?_⟩
  · by_cases h0 : L = 0
    · exact h0
    · obtain ⟨g, h1, _⟩ := hV2 (by omega)
      rw [e] at h1; cases h1
  · have hj : j < L := by
      rcases Nat.lt_or_ge j L with h | h
      · exact h
      · rw [List.getElem?_eq_none (by simpa using h)] at hu; cases hu
    obtain ⟨g, h1, hg⟩ := hV2 (by omega)
    rw [hb] at h1
    have hb2 : b = ⟨g, 0, none⟩ := by simpa using h1
    subst hb2
    have e : fill ls n i = List.replicate L (mk i) := by unfold fill; rw [if_pos hi, hL]
    rw [e] at hg
    exact news_of hg j u (by rw [List.map_replicate]; exact hu)

theorem cells_new2 (w : World) (x y : Value) : ∀ j u, [x, y][j]? = some u → (w.alloc (.cells #[x, y] 37)).cell? ((⟨w.heap.size, 0, none⟩ : Addr).add j) = some u := by
  intro j u hu
  match j, hu with
  | 0, hu => simp at hu; subst hu; simp [Addr.add]
  | 1, hu => simp at hu; subst hu; simp [Addr.add]

theorem ph3_rows {w wr wx : World} {Bk gl cl gw cw n : Nat} {V : Nat → Value} {ls : Nat → List Nat} {i : Nat} {lv : Value} {Gs : List Value} (h : Ph3 w wr Bk gl cl gw cw n V ls i lv Gs) (hk : Kept [] wr wx) :
    ∀ m v, Gs[m]? = some v → wx.ownsRow 0 5 1 v (cnt ls m) (List.replicate (cnt ls m) (byt (mk (m / 2)))) := fun m v hv => hk.row (h.rows m v hv) (by simp)

theorem own_base {w : World} {b : Nat} {e : TypeId} {v : Value} {n : Nat} {xs : List Value} (h : w.ownsRow b e 1 v n xs) : w.ownsRow 0 e 1 v n xs := by
  refine ⟨h.1, ?_⟩
  rcases h.2 with h2 | ⟨g, cap, cur, e1, _, e3⟩
  · exact .inl h2
  · exact .inr ⟨g, cap, cur, e1, Nat.zero_le _, e3⟩

theorem ph3_step {w wr wy : World} {Bk gl cl gw cw n : Nat} {V : Nat → Value} {ls : Nat → List Nat} {i L b8 b10 : Nat} {lv v' x8 x10 : Value} {Gs : List Value} (h2 : Ph2 w wr Bk gl cl gw cw n V ls n) (hgl : gl < w.heap.size) (hL : L = (ls i).length)
    (hrows : ∀ m v, Gs[m]? = some v → wr.ownsRow 0 5 1 v (cnt ls m) (List.replicate (cnt ls m) (byt (mk (m / 2))))) (hlong : wr.ownsRow w.heap.size 37 1 lv (2 * i) Gs)
    (h8 : wr.ownsRow b8 5 1 x8 (L + 20) (List.replicate (L + 20) (.int .u8 ((37 * (i : Int) + 11) % 256)))) (h10 : wr.ownsRow b10 5 1 x10 (L + 80) (List.replicate (L + 80) (.int .u8 ((37 * (i : Int) + 11) % 256))))
    (ho : wy.ownsRow w.heap.size 37 1 v' (2 * i + 2) (Gs ++ [x8, x10])) (hg : (wr.alloc (.cells #[x8, x10] 37)).grownBy wy lv.ownBlock) : Ph3 w wy Bk gl cl gw cw n V ls (i + 1) v' (Gs ++ [x8, x10]) := by
  have hk : Kept lv.ownBlock.toList wr wy := ((Kept.refl _ wr).alloc _).step (Kept.of_grown hg) (fun _ hx => .inl hx)
  have hnew : ∀ x, lv.ownBlock = some x → w.heap.size ≤ x := fun x hx => (hlong.lt x hx).1
  have hlen : Gs.length = 2 * i := by have := hlong.1; omega
  rw [mk_val] at h8 h10
  refine ⟨⟨?_, ?_, ?_, ?_⟩, ho, ?_⟩
  · exact hk.heap h2.box (by rw [mem_own]; exact own_ne2 h2.box (by decide) (own_base hlong))
  · exact hk.row h2.l (fun y hy => by rw [mem_own]; intro e; have := hnew y e; simp [Value.ownBlock] at hy; omega)
  · exact fun j hj => (h2.v j hj).kept hk (fun y hy => by
      rw [mem_own]
      rcases h2.v j hj with ⟨hv, _⟩ | ⟨g, hv, hgg⟩
      · rw [hv] at hy; simp [Value.ownBlock] at hy
      · rw [hv] at hy; simp [Value.ownBlock] at hy; subst hy
        exact own_ne2 hgg (by decide) (own_base hlong))
  · exact h2.keep.step hk (fun x hx => by rw [mem_own] at hx; exact .inr (hnew x hx))
  · intro m v hv
    have key : ∀ (k : Nat) (x : Value) (b : Nat) (c : Value), wr.ownsRow b 5 1 x k (List.replicate k c) → wy.ownsRow 0 5 1 x k (List.replicate k c) := fun k x b c hx =>
      hk.row (own_base hx) (fun y hy => by rw [mem_own]; exact rows_apart (own_base hx) (own_base hlong) (by decide) y hy)
    rcases Nat.lt_or_ge m Gs.length with h | h
    · rw [List.getElem?_append_left h] at hv
      exact key _ _ _ _ (hrows m v hv)
    · rw [List.getElem?_append_right h] at hv
      have hm : m = 2 * i ∨ m = 2 * i + 1 := by
        rcases Nat.lt_or_ge (m - Gs.length) 2 with h3 | h3
        · omega
        · rw [List.getElem?_eq_none (by simpa using h3)] at hv; cases hv
      rcases hm with rfl | rfl
      · rw [show 2 * i - Gs.length = 0 by omega] at hv
        simp at hv; subst hv
        have e : cnt ls (2 * i) = L + 20 := by unfold cnt; rw [show 2 * i / 2 = i by omega, if_pos (by omega), hL]
        rw [e, show 2 * i / 2 = i by omega]
        exact key _ _ _ _ h8
      · rw [show 2 * i + 1 - Gs.length = 1 by omega] at hv
        simp at hv; subst hv
        have e : cnt ls (2 * i + 1) = L + 80 := by unfold cnt; rw [show (2 * i + 1) / 2 = i by omega, if_neg (by omega), hL]
        rw [e, show (2 * i + 1) / 2 = i by omega]
        exact key _ _ _ _ h10

/-- All cells of a slice are m. -/
def FullOf (w : World) (ao : Option Addr) (n : Nat) (m : Int) : Prop := n = 0 ∨ ∃ g off, ao = some ⟨g, off, none⟩ ∧ ∀ i, i < n → w.cell? ⟨g, off + i, none⟩ = some (.int .u8 m)

theorem kept_cell {w w' : World} {a : Addr} {v : Value} (hk : Kept [] w w') (h : w.cell? a = some v) : w'.cell? a = some v :=
  (World.cell?_of_block (w := w) (a := a) (hk.block a.block (World.block_lt_of_cell? w _ h) (by simp))).trans h

theorem full_keep {w w' : World} {ao : Option Addr} {n : Nat} {m : Int} (h : FullOf w ao n m) (hk : Kept [] w w') : FullOf w' ao n m := by
  rcases h with h | ⟨g, off, h1, h2⟩
  · exact .inl h
  · exact .inr ⟨g, off, h1, fun i hi => kept_cell hk (h2 i hi)⟩

theorem full_row {w : World} {b : Nat} {ao : Option Addr} {n cap i : Nat} (h : w.ownsRow b 5 1 (.slice ao n cap) n (List.replicate n (byt (mk i)))) : FullOf w ao n ((37 * (i : Int) + 11) % 256) := by
  have e : List.replicate n (byt (mk i)) = (List.replicate n (mk i)).map byt := by rw [List.map_replicate]
  rw [e] at h
  rcases reads_row h with h1 | ⟨g, off, h1, h2⟩
  · left
    have := congrArg List.length h1
    simpa using this
  · refine .inr ⟨g, off, h1, fun j hj => ?_⟩
    rw [h2 j (by simpa using hj), mk_val]
    simp [hj]

theorem ph4_v {w wr : World} {Bk gl cl gw cw n : Nat} {V : Nat → Value} {ls : Nat → List Nat} (hlb : ∀ i, (ls i).length ≤ 140737488351232) (h : Ph2 w wr Bk gl cl gw cw n V ls n) (j : Nat) (hj : j < n) :
    ∃ L ao cap, wr.cell? ⟨gl, j, none⟩ = some (.slice ao L cap) ∧ L ≤ 9223372036854775807 ∧ FullOf wr ao L ((37 * (j : Int) + 11) % 256) := by
  obtain ⟨L, ao, hV, hL, hV2⟩ := ph2_at h j hj
  have hc := row_val h.l j hj
  rw [hV] at hc
  refine ⟨L, ao, L, hc, by have := hlb j; omega, ?_⟩
  by_cases h0 : L = 0
  · exact .inl h0
  · obtain ⟨g, rfl, hg⟩ := hV2 (by omega)
    have e : fill ls n j = List.replicate L (mk j) := by unfold fill; rw [if_pos hj, hL]
    rw [e] at hg
    refine .inr ⟨g, 0, rfl, fun i hi => ?_⟩
    have h1 := row_at hg i (by simpa using hi)
    rw [Nat.zero_add, h1, mk_val]
    simp [hi]

theorem ph4_long {w wr : World} {Bk gl cl gw cw n gz cz : Nat} {V : Nat → Value} {ls : Nat → List Nat} {Gs : List Value} (hlb : ∀ i, (ls i).length ≤ 140737488351232) (h : Ph3 w wr Bk gl cl gw cw n V ls n (.slice (some ⟨gz, 0, none⟩) (2 * n) cz) Gs) (m : Nat) (hm : m < 2 * n) :
    ∃ L ao cap, wr.cell? ⟨gz, m, none⟩ = some (.slice ao L cap) ∧ L ≤ 9223372036854775807 ∧ FullOf wr ao L ((37 * ((m / 2 : Nat) : Int) + 11) % 256) := by
  have hlen : Gs.length = 2 * n := by have := h.long.1; omega
  have hget : Gs[m]? = some Gs[m] := List.getElem?_eq_getElem (by omega)
  have hr := h.rows m _ hget
  obtain ⟨ao, cap, hv⟩ := row_form hr
  have hc := h.long.cellAt m (by omega)
  rw [hget, hv] at hc
  rw [hv] at hr
  refine ⟨cnt ls m, ao, cap, hc, ?_, full_row hr⟩
  have := hlb (m / 2)
  unfold cnt
  split <;> omega

set_option maxHeartbeats 4000000 in
set_option maxRecDepth 1000000 in
theorem ends_any (Bk gl cl gw cw n : Nat) (V U : Nat → Value) (ls : Nat → List Nat) (w : World) (hn : 0 < n) (hnb : n ≤ 1000000) (hlb : ∀ i, (ls i).length ≤ 140737488351232) (hb : BookAt w Bk gl cl gw cw n V U ls) :
    Calls Tryd.prog 21 #[.pointer (some ⟨Bk, 0, none⟩)] w fun e w' => e = .returned (.bool true) ∧ w'.heap[Bk]? = some (.cells #[.slice none 0 0, .slice none 0 0] 35 (0, 0)) ∧ Kept (Bk :: blk V n) w w' := by
  obtain ⟨c0, c1, fz⟩ := cells_two hb.box
  obtain ⟨e0, he, hq0, hq1, hq2⟩ := info_parts Tryd.infoR
  have hglw : gl < w.heap.size := (hb.l.lt gl rfl).2
  have Hb := Hid.mk hb
  have Hlb := Hid.mk hlb
  clear hb hlb
  go_enter Tryd.func21, Tryd.ntmps21
  go_wp2
  go_loopw [3] (fun i wr => ∃ k : Nat, k ≤ n ∧ i = .int .i64 k ∧ ∃ q, wr = w.drewN q) (fun i _ => n - (intOf i).toNat)
  case atStart => exact ⟨0, Nat.zero_le _, rfl, 0, rfl⟩
  case round =>
    obtain ⟨k, hk, rfl, q, rfl⟩ := hrel
    by_cases hlt : k < n
    · have v1 := row_val Hb.out.l k hlt
      have v2 := row_val Hb.out.was k hlt
      have s1 := run_str_drew (Hb.out.v k hlt)
      have s2 := run_str_row (Hb.out.u k hlt)
      have i1 : (k : Int) < (n : Int) := by omega
      go_wp2
      go_cut [41] (fun s wc => s = .bool false ∧ ∃ q, wc = w.drewN q)
      case first =>
        go_quiet (fail)
        go_wp2
        all_goals go_meet
        all_goals exact ⟨rfl, q + nq, drewN_two _ _ _⟩
      case rest =>
        obtain ⟨rfl, q2, rfl⟩ := hcut
        go_wp2
        go_roundw
        case rel => exact ⟨k + 1, by omega, by go_num, q2, rfl⟩
        case measure => simp [intOf]; omega
    · go_wp2
      have P0 : Ph2 w (w.drewN q) Bk gl cl gw cw n V ls 0 := ph2_start Hb.out q
      have Hd := Hid.mk (ph2_apart Hb.out)
      have HP0 := Hid.mk P0
      clear P0 c0 c1 fz hlt hk
      go_loopw [4, 5] (fun i s5 wr => ∃ (i' : Nat), i' ≤ n ∧ i = .int .i64 i' ∧ Ph2 w wr Bk gl cl gw cw n V ls i') (fun i _ _ => n - (intOf i).toNat)
      case atStart => exact ⟨0, Nat.zero_le _, rfl, HP0.out⟩
      case round =>
        obtain ⟨i, hi, rfl, hP⟩ := hrel
        have c0 := (cells_two hP.box).1
        have HP := Hid.mk hP
        by_cases hlt : i < n
        · obtain ⟨L, ao, hV, hL, hV2⟩ := ph2_at hP i hlt
          have v1 := row_val hP.l i hlt
          rw [hV] at v1
          have HV := Hid.mk hV
          have HV2 := Hid.mk hV2
          have HL := Hid.mk hL
          have hLb : L ≤ 140737488351232 := by rw [hL]; exact Hlb.out i
          have i1 : (i : Int) < (n : Int) := by omega
          have hgl := lt_of_block hP.box
          have glB := own_ne2 hP.box (by decide) hP.l
          clear hP hV hV2 hL
          go_wp2
          by_cases hL0 : L = 0
          · subst hL0
            refine wp_loop_rounds 1 ?_
            rw [rounds_succ]
            go_wp2
            go_roundw
            case rel => exact ⟨i + 1, by omega, by go_num, ph2_skip HP.out hlt HL.out⟩
            case measure => simp [intOf]; omega
          · obtain ⟨g, hao, hg⟩ := HV2.out (by omega)
            subst hao
            have hgB : ¬ Bk = g := by intro e; subst e; have h1 := HP.out.box; rw [hg] at h1; simp at h1
            have hggl : ¬ gl = g := by
              intro e; subst e
              exact own_ne2 hg (by decide) HP.out.l rfl
            have Hg := Hid.mk hg
            clear hg
            go_loopw [5] (fun s5 wx => ∃ (kk : Nat), kk ≤ L ∧ s5 = .int .i64 kk ∧ wx.heap[g]? = some (.cells ((List.replicate kk (mk i) ++ (ls i).drop kk).map byt).toArray 5 (0, 0)) ∧ Kept [g] wr wx) (fun s5 _ => L - (intOf s5).toNat)
            case atStart => exact ⟨0, Nat.zero_le _, rfl, by rw [Hg.out]; simp [fill], Kept.refl _ _⟩
            case round =>
              obtain ⟨kk, hkk, rfl, hrow, hkx⟩ := hrel
              have hBx := hkx.heap HP.out.box (by simpa using hgB)
              have x0 := (cells_two hBx).1
              have x1 := row_val (hkx.row HP.out.l (fun y hy => by simp [Value.ownBlock] at hy; simp; omega)) i hlt
              rw [HV.out] at x1
              have hlenx : ((List.replicate kk (mk i) ++ (ls i).drop kk).map byt).length = L := by have := HL.out; simp; omega
              by_cases hk2 : kk < L
              · obtain ⟨u, hu⟩ := row_cell_at hrow (j := kk) (by rw [hlenx]; exact hk2)
                have hfz : wr.frozen? ⟨g, kk, none⟩ = false := by simp [World.frozen?, hrow]
                have kk1 : (kk : Int) < (L : Int) := by omega
                have kk0 : (0 : Int) ≤ (kk : Int) := by omega
                have i0' : (0 : Int) ≤ (i : Int) := by omega
                have Hrow := Hid.mk hrow
                have Hkx := Hid.mk hkx
                have Hst := Hid.mk (fill_one (ls i) (mk i) kk (by have := HL.out; omega))
                clear hrow hkx hBx hlenx
                go_wp2
                go_region_held3 (fun w' => w'.cell? ⟨Bk, 0, none⟩ = some (.slice (some ⟨gl, 0, none⟩) n cl) ∧ w'.cell? ⟨gl, i, none⟩ = some (.slice (some ⟨g, 0, none⟩) L L)) (first | exact ⟨x0, x1⟩ | exact ⟨cell_far_set x0 hgB, cell_far_set x1 hggl⟩ | go_keep)
                  (first | (go_at_call 45; refine (mark_any _ _ (by omega) (by omega)).mono ?_; rintro e wm ⟨rfl, rfl⟩))
                go_wp2
                go_roundw
                case rel =>
                  refine ⟨kk + 1, by omega, by go_num, ?_, (Hkx.out.setCell (p := ⟨g, kk, none⟩) (by simp) _).drew⟩
                  show (World.setCell _ _ _).heap[g]? = _
                  rw [heap_setCell_at Hrow.out, List.setIfInBounds_toArray, mk_val, Hst.out]
                case measure => simp [intOf]; omega
              · obtain rfl : kk = L := by omega
                have Hnew := Hid.mk (ph2_step HP.out hlt Hd.out HV.out HL.out hrow hkx)
                clear hrow hkx hBx hlenx
                go_wp2
                go_roundw
                case rel => exact ⟨i + 1, by omega, by go_num, Hnew.out⟩
                case measure => simp [intOf]; omega
        · obtain rfl : n = i := by omega
          clear hP
          go_wp2
          clear c0 hlt hi
          go_loopw [6, 7, 8, 9, 10, 11] (fun lv s7 s8 s9 s10 s11 wr => ∃ (i' : Nat) (Gs : List Value), i' ≤ n ∧ s7 = .int .i64 i' ∧ Ph3 w wr Bk gl cl gw cw n V ls i' lv Gs) (fun _ s7 _ _ _ _ _ => n - (intOf s7).toNat)
          case atStart => exact ⟨0, [], Nat.zero_le _, rfl, ph3_start HP.out⟩
          case round =>
            obtain ⟨i, Gs, hi, rfl, hP3⟩ := hrel
            have HP3 := Hid.mk hP3
            have c0 := (cells_two hP3.p2.box).1
            by_cases hlt : i < n
            · obtain ⟨L, ao, hV, hL, hV2⟩ := ph2_at hP3.p2 i hlt
              have v1 := row_val hP3.p2.l i hlt
              have HG0 := Hid.mk (ph3_grow hP3.p2 hlt hL hV2)
              rw [hV] at v1
              have hLb : L ≤ 140737488351232 := by rw [hL]; exact Hlb.out i
              have i1 : (i : Int) < (n : Int) := by omega
              have HV := Hid.mk hV
              have HL := Hid.mk hL
              clear hP3 hV hV2 hL
              go_wp2
              go_loopw [8, 9] (fun s8 s9 wx => ∃ (kk : Nat), kk ≤ 20 ∧ s9 = .int .i64 kk ∧ Grow wr wx s8 (L + kk) (.int .u8 ((37 * (i : Int) + 11) % 256)) ∧ (0 < kk → wx.ownsRow wr.heap.size 5 1 s8 (L + kk) (List.replicate (L + kk) (.int .u8 ((37 * (i : Int) + 11) % 256)))) ∧ Kept [] wr wx) (fun _ s9 _ => 20 - (intOf s9).toNat)
              case atStart => exact ⟨0, Nat.zero_le _, rfl, by rw [mk_val]; exact HG0.out, fun h => by omega, Kept.refl _ _⟩
              case round =>
                obtain ⟨kk, hkk, rfl, hgr, hown, hkx⟩ := hrel
                by_cases hk2 : kk < 20
                · have Hgr := Hid.mk hgr
                  have Hkx := Hid.mk hkx
                  clear hgr hown hkx
                  go_wp2_with (first
                    | (go_at_call 45; refine (mark_any _ _ (by omega) (by omega)).mono ?_; rintro e wm ⟨rfl, rfl⟩)
                    | (at_builtin; refine wpList_grow _ rfl _ _ rfl _ (Hkx.out.alloc _) _ (L + kk) (.int .u8 ((37 * (i : Int) + 11) % 256)) rfl rfl (Hgr.out.alloc _) ⟨wm.heap.size, 0, none⟩ rfl (cell_one_new _ _ _) (by omega) ?_))
                  intro v' wy hown' hkx'
                  go_wp2
                  go_roundw
                  case rel => exact ⟨kk + 1, by omega, by go_num, .inr hown', fun _ => hown', hkx'⟩
                  case measure => simp [intOf]; omega
                · obtain ⟨k5, hk5⟩ : ∃ k5, k5 = kk := ⟨_, rfl⟩
                  have Hk5 : Hid (k5 = 20) := by rw [Hid, hk5]; omega
                  have hk5a : 20 ≤ k5 := by rw [hk5]; omega
                  have hk5b : k5 ≤ 20 := by rw [hk5]; omega
                  rw [← hk5] at hown hgr ⊢
                  clear hk5 hkk hk2
                  have P25 := ph2_keep HP3.out.p2 hkx
                  have hO8 := hown (by omega)
                  obtain ⟨a8, c8, rfl⟩ := row_form hO8
                  have HO8 := Hid.mk hO8
                  have Hk8 := Hid.mk hkx
                  have HP25 := Hid.mk P25
                  have c0 := (cells_two P25.box).1
                  have v1 := row_val P25.l i hlt
                  rw [HV.out] at v1
                  obtain ⟨L', ao', hV', hL', hV2'⟩ := ph2_at P25 i hlt
                  rw [HV.out] at hV'
                  obtain ⟨rfl, rfl⟩ : ao = ao' ∧ L = L' := by simpa using hV'
                  have HG1 := Hid.mk (ph3_grow P25 hlt hL' hV2')
                  clear hgr hown hkx P25 hO8 hV' hL' hV2'
                  go_wp2
                  go_loopw [10, 11] (fun s8 s9 wx => ∃ (kk : Nat), kk ≤ 80 ∧ s9 = .int .i64 kk ∧ Grow wr wx s8 (L + kk) (.int .u8 ((37 * (i : Int) + 11) % 256)) ∧ (0 < kk → wx.ownsRow wr.heap.size 5 1 s8 (L + kk) (List.replicate (L + kk) (.int .u8 ((37 * (i : Int) + 11) % 256)))) ∧ Kept [] wr wx) (fun _ s9 _ => 80 - (intOf s9).toNat)
                  case atStart => exact ⟨0, Nat.zero_le _, rfl, by rw [mk_val]; exact HG1.out, fun h => by omega, Kept.refl _ _⟩
                  case round =>
                    obtain ⟨kk, hkk, rfl, hgr, hown, hkx⟩ := hrel
                    by_cases hk2 : kk < 80
                    · have Hgr := Hid.mk hgr
                      have Hkx := Hid.mk hkx
                      clear hgr hown hkx
                      go_wp2_with (first
                        | (go_at_call 45; refine (mark_any _ _ (by omega) (by omega)).mono ?_; rintro e wm ⟨rfl, rfl⟩)
                        | (at_builtin; refine wpList_grow _ rfl _ _ rfl _ (Hkx.out.alloc _) _ (L + kk) (.int .u8 ((37 * (i : Int) + 11) % 256)) rfl rfl (Hgr.out.alloc _) ⟨wm.heap.size, 0, none⟩ rfl (cell_one_new _ _ _) (by omega) ?_))
                      intro v' wy hown' hkx'
                      go_wp2
                      go_roundw
                      case rel => exact ⟨kk + 1, by omega, by go_num, .inr hown', fun _ => hown', hkx'⟩
                      case measure => simp [intOf]; omega
                    · obtain rfl : kk = 80 := by omega
                      have P26 := ph2_keep HP25.out hkx
                      have hO10 := hown (by omega)
                      obtain ⟨a10, c10, rfl⟩ := row_form hO10
                      have HO10 := Hid.mk hO10
                      have HO8' := Hid.mk (hkx.row HO8.out (by simp))
                      have HK6 := Hid.mk (Hk8.out.trans hkx)
                      have HP26 := Hid.mk P26
                      have hown3 := HK6.out.row HP3.out.long (by simp)
                      have HL3 := Hid.mk hown3
                      clear hgr hown hkx P26 hO10 hown3 c0 v1
                      go_wp2_with (at_builtin; refine wpList_append_own_at _ rfl _ _ 33 rfl w.heap.size 37 e0 (.slice none 0 0) 1 24 Tryd.underlying33 he hq0 hq1 hq2 rfl (by decide) _ (2 * i) Gs rfl (HL3.out.alloc _) ⟨wr.heap.size, 0, none⟩ 2 2 [.slice a8 (L + k5) c8, .slice a10 (L + 80) c10] rfl rfl ?c1 ?c2 ?c3 ?c4 ?c5 ?_)
                      case c1 => exact cells_new2 _ _ _
                      case c2 => intro u hu; simp at hu; rcases hu with rfl | rfl <;> rfl
                      case c3 => unfold maxLen; omega
                      case c4 => omega
                      case c5 => have := HP26.out.keep.size; simp; omega
                      intro v' wy ho' hg' _ _
                      have HP3' := Hid.mk (ph3_step HP26.out hglw HL.out (ph3_rows HP3.out HK6.out) HL3.out (by have := HO8'.out; rw [Hk5.out] at this ⊢; exact this) HO10.out ho' hg')
                      clear ho' hg'
                      go_wp2
                      go_roundw
                      case rel => exact ⟨i + 1, _, by omega, by go_num, HP3'.out⟩
                      case measure => simp [intOf]; omega
            · obtain rfl : n = i := by omega
              obtain ⟨gz, cz, rfl⟩ := row_some hP3.long (by omega)
              go_wp2
              have HF := Hid.mk (fun j (hj : j < n) => ph4_v Hlb.out hP3.p2 j hj)
              have HG := Hid.mk (fun m (hm : m < 2 * n) => ph4_long Hlb.out hP3 m hm)
              have HK7 := Hid.mk hP3.p2.keep
              have hBx := hP3.p2.box
              have f0 := (cells_two hBx).2.2 0
              have f1 := (cells_two hBx).2.2 1
              have x1' := (cells_two hBx).2.1
              clear hP3 hlt hi
              have hc0 := (cells_two hBx).1
              have HBx := Hid.mk hBx
              clear hBx c0
              go_loopw [12, 13, 14, 15] (fun s12 _ _ _ wx => ∃ i : Nat, i ≤ n ∧ s12 = .int .i64 i ∧ Kept [] wr wx) (fun s12 _ _ _ _ => n - (intOf s12).toNat)
              case atStart => exact ⟨0, Nat.zero_le _, rfl, Kept.refl _ _⟩
              case round =>
                obtain ⟨i, hi, rfl, hkx⟩ := hrel
                have c0 := kept_cell hkx hc0
                have Hkx := Hid.mk hkx
                by_cases hlt : i < n
                · obtain ⟨L, ao, cpv, v1, hLv, hF⟩ := HF.out i hlt
                  obtain ⟨La, aa, ca, va, hLa, hFa⟩ := HG.out (2 * i) (by omega)
                  obtain ⟨Lb, ab, cb, vb, hLb, hFb⟩ := HG.out (2 * i + 1) (by omega)
                  rw [show 2 * i / 2 = i by omega] at hFa
                  rw [show (2 * i + 1) / 2 = i by omega] at hFb
                  have HF1 := Hid.mk (full_keep hF hkx)
                  have HFa := Hid.mk (full_keep hFa hkx)
                  have HFb := Hid.mk (full_keep hFb hkx)
                  have v1' := kept_cell hkx v1
                  have va' := kept_cell hkx va
                  have vb' := kept_cell hkx vb
                  have i1 : (i : Int) < (n : Int) := by omega
                  have i2 : 2 * (i : Int) < 2 * (n : Int) := by omega
                  have i3 : 2 * (i : Int) + 1 < 2 * (n : Int) := by omega
                  clear hF hFa hFb hkx v1 va vb
                  go_wp2
                  go_cut [13] (fun s wc => s = .bool true ∧ Kept [] wr wc)
                  case first =>
                    go_quiet ((first | (go_at_call 45; exact Calls.quiet_of_same (mark_any _ _ (by omega) (by omega))) | (go_at_call 46; refine Calls.quiet_of_same (full_any _ _ _ _ _ hLv ?_); exact full_keep HF1.out ((Kept.refl _ _).drewN _))))
                    go_wp2
                    all_goals go_meet
                    all_goals exact ⟨rfl, (Kept.refl _ _).drewN _⟩
                  case rest =>
                    obtain ⟨rfl, hk8⟩ := hcut
                    have Hk8 := Hid.mk (Hkx.out.trans hk8)
                    have HFa8 := Hid.mk (full_keep HFa.out hk8)
                    have HFb8 := Hid.mk (full_keep HFb.out hk8)
                    have va8 := kept_cell hk8 va'
                    have vb8 := kept_cell hk8 vb'
                    clear hk8 va' vb' v1' c0 HFa HFb HF1 Hkx
                    go_wp2
                    go_cut [14] (fun s wd => s = .bool true ∧ Kept [] wc wd)
                    case first =>
                      go_quiet ((first | (go_at_call 45; exact Calls.quiet_of_same (mark_any _ _ (by omega) (by omega))) | (go_at_call 46; refine Calls.quiet_of_same (full_any _ _ _ _ _ hLa ?_); exact full_keep HFa8.out ((Kept.refl _ _).drewN _))))
                      go_wp2
                      all_goals go_meet
                      all_goals exact ⟨rfl, (Kept.refl _ _).drewN _⟩
                    case rest =>
                      obtain ⟨rfl, hk9⟩ := hcut
                      have Hk9 := Hid.mk (Hk8.out.trans hk9)
                      have HFb9 := Hid.mk (full_keep HFb8.out hk9)
                      have vb9 := kept_cell hk9 vb8
                      clear hk9 va8 vb8 HFa8 HFb8 Hk8
                      go_wp2
                      go_cut [15] (fun s we => s = .bool true ∧ Kept [] wc we)
                      case first =>
                        go_quiet ((first | (go_at_call 45; exact Calls.quiet_of_same (mark_any _ _ (by omega) (by omega))) | (go_at_call 46; refine Calls.quiet_of_same (full_any _ _ _ _ _ hLb ?_); exact full_keep HFb9.out ((Kept.refl _ _).drewN _))))
                        go_wp2
                        all_goals go_meet
                        all_goals exact ⟨rfl, (Kept.refl _ _).drewN _⟩
                      case rest =>
                        obtain ⟨rfl, hk10⟩ := hcut
                        have Hk10 := Hid.mk (Hk9.out.trans hk10)
                        clear hk10 vb9 HFb9 Hk9
                        go_wp2
                        go_roundw
                        case rel => exact ⟨i + 1, by omega, by go_num, Hk10.out⟩
                        case measure => simp [intOf]; omega
                · have hB7 := hkx.heap HBx.out (by simp)
                  have g0 := (cells_two hB7).2.2 0
                  have g1 := (cells_two hB7).2.2 1
                  have y1 := (cells_two hB7).2.1
                  have HB7 := Hid.mk hB7
                  clear hkx hB7
                  go_wp2
                  go_ret
                  refine ⟨rfl, ?_, ?_⟩
                  · rw [heap_setCell_at (heap_setCell_at HB7.out)]; simp
                  · exact (((HK7.out.mono (fun x hx => .inl (List.mem_cons_of_mem _ hx))).step Hkx.out (by simp)).setCell (p := ⟨Bk, 0, none⟩) (by simp) _).setCell (p := ⟨Bk, 1, none⟩) (by simp) _
end Go.Proofs.YtodlkpcbkilglaaDoor.Bt
