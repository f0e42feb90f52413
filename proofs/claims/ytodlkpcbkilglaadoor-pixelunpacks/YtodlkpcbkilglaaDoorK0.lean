import Derived.Test.YtodlkpcbkilglaaDoorRows
import Derived.WalkKit
import Derived.WalkSpells
import Derived.WalkLawsBesides
import Derived.Maps.AppendAt
import Derived.Deep.RegionHeld3
import Derived.Deep.RegionWith
import Derived.Deep.DeepCutAuto
import Derived.Deep.QuietTactic
import Derived.BigQuiet
import Derived.Laws.CopyOwn
import Derived.Laws.OwnMore
namespace Go.Proofs.YtodlkpcbkilglaaDoor
open Go.RowKit

/-- A byte as a value. -/
def byt (b : Nat) : Value := .int .u16 (b : Int)

/-- The world w' is w with new blocks and with writes to the blocks of l alone. -/
structure Kept (l : List Nat) (w w' : World) : Prop where
  os : w'.os = w.os
  tape : w'.tape = w.tape
  output : w'.output = w.output
  size : w.heap.size ≤ w'.heap.size
  block : ∀ k, k < w.heap.size → k ∉ l → w'.heap[k]? = w.heap[k]?

theorem Kept.refl (l : List Nat) (w : World) : Kept l w w := ⟨rfl, rfl, rfl, Nat.le_refl _, fun _ _ _ => rfl⟩

theorem Kept.trans {l : List Nat} {a b c : World} (h : Kept l a b) (k : Kept l b c) : Kept l a c :=
  ⟨k.os.trans h.os, k.tape.trans h.tape, k.output.trans h.output, Nat.le_trans h.size k.size,
    fun i hi hl => (k.block i (Nat.lt_of_lt_of_le hi h.size) hl).trans (h.block i hi hl)⟩

/-- What a second step writes must lie in l, or be new to the first world. -/
theorem Kept.step {l l2 : List Nat} {a b c : World} (h : Kept l a b) (k : Kept l2 b c) (hs : ∀ x, x ∈ l2 → x ∈ l ∨ a.heap.size ≤ x) : Kept l a c :=
  ⟨k.os.trans h.os, k.tape.trans h.tape, k.output.trans h.output, Nat.le_trans h.size k.size,
    fun i hi hl => (k.block i (Nat.lt_of_lt_of_le hi h.size) (fun hm => by rcases hs i hm with h1 | h1; exact hl h1; omega)).trans (h.block i hi hl)⟩

theorem Kept.mono {l l2 : List Nat} {a b : World} (h : Kept l a b) (hs : ∀ x, x ∈ l → x ∈ l2 ∨ a.heap.size ≤ x) : Kept l2 a b :=
  ⟨h.os, h.tape, h.output, h.size, fun i hi hl => h.block i hi (fun hm => by rcases hs i hm with h1 | h1; exact hl h1; omega)⟩

theorem Kept.drew {l : List Nat} {a w : World} (h : Kept l a w) : Kept l a w.drew := ⟨h.os, h.tape, h.output, h.size, h.block⟩
theorem Kept.undrew {l : List Nat} {a w : World} (h : Kept l a.drew w) : Kept l a w := ⟨h.os, h.tape, h.output, h.size, h.block⟩
theorem Kept.drewN {l : List Nat} {a w : World} (h : Kept l a w) (n : Nat) : Kept l a (w.drewN n) := by
  induction n with
  | zero => exact h
  | succ n ih => exact ih.drew

theorem Kept.alloc {l : List Nat} {a w : World} (h : Kept l a w) (o : Obj) : Kept l a (w.alloc o) :=
  h.step (l2 := []) ⟨rfl, rfl, rfl, by simp, fun k hk _ => Below.heap_alloc _ _ _ hk⟩ (fun x hx => by simp at hx)

theorem Kept.setCell {l : List Nat} {a w : World} (h : Kept l a w) {p : Addr} (hp : p.block ∈ l ∨ a.heap.size ≤ p.block) (u : Value) : Kept l a (w.setCell p u) :=
  h.step (l2 := [p.block]) ⟨rfl, rfl, rfl, by simp [World.setCell], fun k _ hm => Below.heap_setCell _ _ _ _ (by simpa using hm)⟩ (fun x hx => by simp at hx; subst hx; exact hp)

theorem Kept.of_grown {w w' : World} {row : Option Nat} (h : w.grownBy w' row) : Kept row.toList w w' :=
  ⟨h.os, h.tape, h.output, h.size, fun k hk hl => h.block k hk (fun e => hl (by rw [← e]; simp))⟩

theorem Kept.below {l : List Nat} {w w' : World} {B : Nat} (h : Kept l w w') (hB : B ≤ w.heap.size) (hl : ∀ x ∈ l, B ≤ x) : Below B w w' :=
  ⟨h.os, h.tape, h.output, h.size, fun k hk => h.block k (by omega) (fun hm => by have := hl k hm; omega)⟩

theorem Kept.of_below {w w' : World} (h : Below w.heap.size w w') : Kept [] w w' := ⟨h.os, h.tape, h.output, h.size, fun k hk _ => h.block k hk⟩

theorem Kept.heap {l : List Nat} {w w' : World} (h : Kept l w w') {k : Nat} {o : Obj} (hk : w.heap[k]? = some o) (hl : k ∉ l) : w'.heap[k]? = some o := by
  rw [h.block k (Array.getElem?_eq_some_iff.1 hk).1 hl]; exact hk

theorem Kept.row {l : List Nat} {w w' : World} (h : Kept l w w') {base : Nat} {e : TypeId} {size : Nat} {v : Value} {n : Nat} {xs : List Value}
    (ho : w.ownsRow base e size v n xs) (hne : ∀ g, v.ownBlock = some g → g ∉ l) : w'.ownsRow base e size v n xs := by
  refine ⟨ho.1, ?_⟩
  rcases ho.2 with hn | ⟨g, cap, cur, rfl, hb, hgg, rest⟩
  · exact .inl hn
  · exact .inr ⟨g, cap, cur, rfl, hb, h.heap hgg (hne g rfl), rest⟩

/-- Where a slice that was appended to lies: as before, or in new memory. -/
def Lies (w : World) (v v' : Value) : Prop := v'.ownBlock = v.ownBlock ∨ ∃ g, v'.ownBlock = some g ∧ w.heap.size ≤ g

theorem Lies.refl (w : World) (v : Value) : Lies w v v := .inl rfl
theorem Lies.trans {w w1 : World} {v v1 v2 : Value} (h : Lies w v v1) (h2 : Lies w1 v1 v2) (hs : w.heap.size ≤ w1.heap.size) : Lies w v v2 := by
  rcases h2 with h2 | ⟨g, hg, hl⟩
  · rcases h with h | ⟨g, hg, hl⟩
    · exact .inl (h2.trans h)
    · exact .inr ⟨g, h2.trans hg, hl⟩
  · exact .inr ⟨g, hg, by omega⟩
theorem Lies.mem {w : World} {v v' : Value} (h : Lies w v v') : ∀ x, x ∈ v'.ownBlock.toList → x ∈ v.ownBlock.toList ∨ w.heap.size ≤ x := by
  intro x hx
  rcases h with h | ⟨g, hg, hl⟩
  · rw [h] at hx; exact .inl hx
  · rw [hg] at hx; simp at hx; subst hx; exact .inr hl

theorem Tryd.info65 : (Tryd.prog.info? 70).map (fun i => (i.zero, i.size, i.bytes)) = some (some (.int .u16 0), 1, 2) := by kernel_rfl

theorem ret_int {k : IntKind} {a b : Int} (h : a = b) : Ending.returned (.int k a) = .returned (.int k b) := by rw [h]

theorem ret_bool {a b : Bool} (h : a = b) : Ending.returned (.bool a) = .returned (.bool b) := by rw [h]

theorem heap_setCell_at {w : World} {B i : Nat} {u : Value} {cs : Array Value} {t : TypeId} (h : w.heap[B]? = some (.cells cs t (0, 0))) :
    (w.setCell ⟨B, i, none⟩ u).heap[B]? = some (.cells (cs.setIfInBounds i u) t (0, 0)) := by
  have hlt := lt_of_block h
  have h' : w.heap[B] = .cells cs t (0, 0) := by simpa [Array.getElem?_eq_getElem hlt] using h
  show (w.heap.modify B _)[B]? = _
  rw [Array.getElem?_eq_getElem (by simpa using hlt), Array.getElem_modify_self, h']
  rfl

theorem madeBytes (n : Nat) : (madeCells (Value.int .u16 0).cells (n * 1)).toList = List.replicate n (byt 0) := by
  rw [Nat.mul_one]; exact toList_madeCells_one _ _

theorem row_heap {w : World} {base e n cap g : Nat} {xs : List Value} (h : w.ownsRow base e 1 (.slice (some ⟨g, 0, none⟩) n cap) n xs) (hc : cap = n) : w.heap[g]? = some (.cells xs.toArray e (0, 0)) := by
  subst hc
  rcases h.2 with ⟨h1, _⟩ | ⟨g', cap', cur, h1, _, hg, _, _, hs, ht⟩
  · simp at h1
  · simp at h1
    obtain ⟨rfl, rfl⟩ := h1
    rw [hg]
    have : cur.toList.take (cap * 1) = cur.toList := List.take_of_length_le (by simp; omega)
    rw [this] at ht
    rw [← ht]

theorem bytes_one (l : List Nat) : ∀ v ∈ l.map byt, v.oneCell' = true := by
  intro v hv
  simp only [List.mem_map] at hv
  obtain ⟨b, _, rfl⟩ := hv
  rfl

theorem Hid.mk {p : Prop} (h : p) : Hid p := h

theorem copy_run (w : World) (g n dcap : Nat) (ao : Option Addr) (m cp : Nat) (cur cs : List Value) (hr : w.heap[g]? = some (.cells cur.toArray 70 (0, 0))) (hcur : cur.length = n) (hm : cs.length = m) (hmn : m ≤ n)
    (hpos : 0 < m → ∃ ad, ao = some ad ∧ ∀ j u, cs[j]? = some u → w.cell? (ad.add j) = some u) (hone : ∀ v ∈ cs, v.oneCell' = true) :
    ∃ w2, Sem.run Tryd.prog (Builtin.copy_ #[68, 68] 3 #[.slice (some ⟨g, 0, none⟩) n dcap, .slice ao m cp]) w = .ok (goInt m) w2 ∧ w2.heap[g]? = some (.cells (cs ++ cur.drop m).toArray 70 (0, 0)) ∧ Kept [g] w w2 := by
  obtain ⟨i0, hi, hz0, hz1, hz2⟩ := info_parts Tryd.info65
  have hsz : (Tryd.prog.info? 70).map (·.size) = some 1 := by rw [hi]; simp [hz1]
  by_cases h0 : m = 0
  · subst h0
    have hcs : cs = [] := List.eq_nil_of_length_eq_zero hm
    subst hcs
    exact ⟨w, run_copy_none w 68 68 3 70 _ _ _ _ _ _ Tryd.underlying68 hsz (by simp), by simpa using hr, Kept.refl _ _⟩
  · obtain ⟨ad, rfl, hsrc⟩ := hpos (by omega)
    have h := run_copy_row (P := Tryd.prog) w 68 68 3 70 g 0 n dcap ad m cp cur.toArray 70 cs Tryd.underlying68 hsz hr (by show _ = min _ _; omega) hsrc (by simp; omega) hone
    rw [hm] at h
    refine ⟨w.setRow g (cs ++ cur.drop m).toArray, ?_, ?_, ?_⟩
    · refine h.trans ?_
      simp
    · exact setRow_heap w g _ _ 70 _ hr
    · exact ⟨rfl, rfl, rfl, by simp [World.setRow], fun k _ hk => setRow_other w g k _ (by simpa using hk)⟩

theorem row_cell_at {w : World} {g j e : Nat} {cs : List Value} (h : w.heap[g]? = some (.cells cs.toArray e (0, 0))) (hj : j < cs.length) : ∃ u, w.cell? ⟨g, j, none⟩ = some u := by
  exact ⟨cs[j], by simp [World.cell?, h, hj]⟩

/-- A slice's elements are these bytes. -/
def Reads (w : World) (ao : Option Addr) (l : List Nat) : Prop :=
  l = [] ∨ ∃ g off, ao = some ⟨g, off, none⟩ ∧ ∀ i, i < l.length → w.cell? ⟨g, off + i, none⟩ = some (byt (l.getD i 0))

def Byts (l : List Nat) : Prop := ∀ b ∈ l, b < 65536

theorem getD_lt (l : List Nat) (k : Nat) (hb : Byts l) : l.getD k 0 < 65536 := by
  rw [List.getD_eq_getElem?_getD]
  rcases h : l[k]? with _ | x
  · simp
  · exact hb x (List.mem_of_getElem? h)

theorem Reads.kept {w w' : World} {ao : Option Addr} {l : List Nat} {ks : List Nat} (h : Reads w ao l) (hk : Kept ks w w') (hn : ∀ g off, ao = some ⟨g, off, none⟩ → g ∉ ks) : Reads w' ao l := by
  rcases h with h | ⟨g, off, rfl, hc⟩
  · exact .inl h
  · refine .inr ⟨g, off, rfl, fun i hi => ?_⟩
    have h1 := hc i hi
    have hlt := World.block_lt_of_cell? w _ h1
    exact (World.cell?_of_block (a := ⟨g, off + i, none⟩) (hk.block g hlt (hn g off rfl))).trans h1

theorem Reads.keep {w w' : World} {ao : Option Addr} {l : List Nat} (h : Reads w ao l) (hk : Kept [] w w') : Reads w' ao l := h.kept hk (by simp)

theorem reads_row {w : World} {ao : Option Addr} {base n cap : Nat} {l : List Nat} (h : w.ownsRow base 70 1 (.slice ao n cap) n (l.map byt)) : Reads w ao l := by
  rcases h.2 with ⟨h1, hn⟩ | ⟨g, cap', cur, h1, _⟩
  · left
    have := h.1
    simp at this
    apply List.eq_nil_of_length_eq_zero
    omega
  · right
    simp at h1
    obtain ⟨rfl, rfl⟩ := h1
    refine ⟨g, 0, rfl, fun i hi => ?_⟩
    have hc := h.cells (g := g) rfl i (byt (l.getD i 0)) (by simp [hi])
    have hadd : (⟨g, 0, none⟩ : Addr).add i = ⟨g, 0 + i, none⟩ := by unfold Addr.add; split <;> simp_all
    rw [hadd] at hc
    exact hc

/-- What is told of a slice of bytes that came in. -/
def IsRow (k : IntKind) (w : World) (a : Option Addr) (len cap : Nat) (zs : List Int) : Prop :=
  (a = none ∧ len = 0 ∧ cap = 0 ∧ zs = []) ∨
  ∃ x, a = some x ∧ len ≤ cap ∧ cap ≤ maxLen ∧ zs.length = cap ∧ (∀ i, i < zs.length → w.cell? (x.add i) = some (.int k (zs.getD i 0))) ∧ ∀ n ∈ zs, (Lit.int k n).wf = true

theorem isRow_reads {w : World} {a : Option Addr} {len cap : Nat} {zs : List Int} (h : IsRow .u16 w a len cap zs) : ∃ l, l.length = len ∧ Byts l ∧ Reads w a l ∧ len ≤ 9223372036854775807 := by
  rcases h with ⟨rfl, rfl, rfl, rfl⟩ | ⟨x, rfl, hl, hm, hz, hc, hw⟩
  · exact ⟨[], rfl, by simp [Byts], .inl rfl, by decide⟩
  · have hwf : ∀ n ∈ zs, 0 ≤ n ∧ n < 65536 := fun n hn => by
      have := hw n hn
      simp [Lit.wf] at this
      have h1 : IntKind.u16.min = 0 := by decide
      have h2 : IntKind.u16.max = 65535 := by decide
      omega
    refine ⟨(zs.take len).map Int.toNat, by simp; omega, ?_, ?_, by unfold maxLen at hm; omega⟩
    · intro b hb
      simp only [List.mem_map] at hb
      obtain ⟨z, hz1, rfl⟩ := hb
      have := hwf z (List.mem_of_mem_take hz1)
      omega
    · by_cases h0 : len = 0
      · subst h0; exact .inl (by simp)
      · right
        obtain ⟨b, off, spot⟩ := x
        have hc0 := hc 0 (by omega)
        have hspot : spot = none := by simpa [Addr.add] using World.cell?_spot hc0
        subst hspot
        refine ⟨b, off, rfl, fun i hi => ?_⟩
        have hil : i < len := by simp at hi; omega
        have h1 := hc i (by omega)
        have hadd : (⟨b, off, none⟩ : Addr).add i = ⟨b, off + i, none⟩ := by unfold Addr.add; split <;> simp_all
        rw [hadd] at h1
        rw [h1]
        have hiz : i < zs.length := by omega
        have := hwf zs[i] (List.getElem_mem hiz)
        simp [byt, hiz, hil]
        omega

theorem reads_src {w : World} {ao : Option Addr} {l : List Nat} (h : Reads w ao l) : 0 < l.length → ∃ ad, ao = some ad ∧ ∀ j u, (l.map byt)[j]? = some u → w.cell? (ad.add j) = some u := by
  intro hp
  rcases h with rfl | ⟨g, off, rfl, hc⟩
  · simp at hp
  · refine ⟨_, rfl, fun j u hu => ?_⟩
    have hj : j < l.length := by
      rcases Nat.lt_or_ge j l.length with h | h
      · exact h
      · rw [List.getElem?_eq_none (by simpa using h)] at hu; cases hu
    have hadd : (⟨g, off, none⟩ : Addr).add j = ⟨g, off + j, none⟩ := by unfold Addr.add; split <;> simp_all
    rw [hadd, hc j hj]
    simp [hj] at hu
    simp [hj, hu]

theorem set_mid {α : Type} (X Z : List α) (y u : α) (j : Nat) (hj : X.length = j) : (X ++ y :: Z).set j u = X ++ u :: Z := by
  subst hj
  rw [List.set_append_right _ _ (Nat.le_refl _), Nat.sub_self, List.set_cons_zero]

theorem row_at {w : World} {g e : Nat} {X : List Nat} (h : w.heap[g]? = some (.cells (X.map byt).toArray e (0, 0))) (j : Nat) (hj : j < X.length) : w.cell? ⟨g, j, none⟩ = some (byt (X.getD j 0)) := by
  simp [World.cell?, h, hj]

theorem own_ne {w : World} {B n : Nat} {V : Value} {xs : List Value} {cs : Array Value} {t : TypeId} (h : w.heap[B]? = some (.cells cs t (0, 0))) (ht : t ≠ 70) (ho : w.ownsRow 0 70 1 V n xs) : V.ownBlock ≠ some B := by
  intro e
  rcases ho.2 with ⟨rfl, _⟩ | ⟨g, cap, cur, rfl, _, hg, _⟩
  · simp [Value.ownBlock] at e
  · simp [Value.ownBlock] at e
    subst e
    rw [hg] at h
    simp at h
    exact ht h.2.symm

end Go.Proofs.YtodlkpcbkilglaaDoor
