import Derived.Test.YtiojcfffhcipnaaBd
namespace Go.Proofs.Ytiojcfffhcipnaa
open Go.RowKit

/-- Lists that are held, of either kind: the list of them of elements el, each of elements er, of z cells. -/
structure Rws (el er z : Nat) (k : IntKind) (ct : Nat → Int → List Value) (w : World) (V : Value) (n : Nat) (f : Nat → Hd) : Prop where
  own : w.ownsRow 0 el 2 V n (hcs k f n)
  each : ∀ i, i < n → w.ownsRow 0 er z (sl (f i)) (f i).l (ct (f i).l (f i).m)
def ctB (l : Nat) (m : Int) : List Value := List.replicate l (.int .u8 m)
def ctS (l : Nat) (m : Int) : List Value := spc (List.replicate l (m, 0))
theorem Hs.rws {w : World} {V : Value} {n : Nat} {f : Nat → Hd} (h : Hs w V n f) : Rws 94 5 1 .u8 ctB w V n f := ⟨h.own, h.each⟩
theorem Rws.hs {w : World} {V : Value} {n : Nat} {f : Nat → Hd} (h : Rws 94 5 1 .u8 ctB w V n f) : Hs w V n f := ⟨h.own, h.each⟩
theorem Ss.rws {w : World} {V : Value} {n : Nat} {f : Nat → Hd} (h : Ss w V n f) : Rws 96 63 2 .i64 ctS w V n f := ⟨h.own, h.each⟩
theorem Rws.ss {w : World} {V : Value} {n : Nat} {f : Nat → Hd} (h : Rws 96 63 2 .i64 ctS w V n f) : Ss w V n f := ⟨h.own, h.each⟩

/-- One of them is another one now. -/
def upd (F : Nat → Hd) (j : Nat) (h : Hd) (i : Nat) : Hd := if i = j then h else F i
theorem upd_at (F : Nat → Hd) (j : Nat) (h : Hd) : upd F j h j = h := by simp [upd]
theorem upd_ne (F : Nat → Hd) (j : Nat) (h : Hd) (i : Nat) (e : i ≠ j) : upd F j h i = F i := by simp [upd, e]
theorem hcs_set (k : IntKind) (F : Nat → Hd) (j : Nat) (h : Hd) (hm : h.m = (F j).m) : ∀ n, j < n → (hcs k F n).set (j * 2) (sl h) = hcs k (upd F j h) n
  | 0, hj => by omega
  | n + 1, hj => by
    have hl := hcs_len k F n
    by_cases e : j = n
    · subst e
      rw [hcs, hcs, List.set_append_right _ _ (by omega), hl, Nat.sub_self, hcs_congr k (upd F j h) F j (fun i hi => upd_ne F j h i (by omega)), upd_at]
      simp [sl, hm]
    · rw [hcs, hcs, List.set_append_left _ _ (by omega), hcs_set k F j h hm n (by omega), upd_ne F j h n (by omega)]

theorem row_cellk {w : World} {g : Nat} {e z n lc i : Nat} {V : Value} {xs : List Value} {el : Nat} {ys : List Value} {N : Nat} (hr : w.ownsRow 0 e z V n xs) (hL : w.ownsRow 0 el 2 (.slice (some ⟨g, 0, none⟩) N lc) N ys) (hne : e ≠ el) (v : Value) : (w.setCell ⟨g, i, none⟩ v).ownsRow 0 e z V n xs :=
  ((Kept.refl [g] w).setCell (.inl (by simp)) v).row hr (fun b hb hm => own_two hr hL hne b hb (by simpa [Value.ownBlock] using hm))

theorem Rws.grow {el er z : Nat} {k : IntKind} {ct : Nat → Int → List Value} {wr w1 : World} {g lc N j : Nat} {F : Nat → Hd} (h : Rws el er z k ct wr (.slice (some ⟨g, 0, none⟩) N lc) N F) (hj : j < N) (hne : er ≠ el)
    (dj : ∀ i, i < N → i ≠ j → ∀ x ∈ blk (F j), x ∉ blk (F i)) (X : Hd) (hX : X.m = (F j).m) (h1 : w1.ownsRow 0 er z (sl X) X.l (ct X.l X.m)) (k1 : Kept (blk (F j)) wr w1) :
    Rws el er z k ct (w1.setCell ⟨g, j * 2, none⟩ (sl X)) (.slice (some ⟨g, 0, none⟩) N lc) N (upd F j X) := by
  have hL : w1.ownsRow 0 el 2 (.slice (some ⟨g, 0, none⟩) N lc) N (hcs k F N) := k1.row h.own (own_two h.own (h.each j hj) (fun e => hne e.symm))
  refine ⟨?_, fun i hi => ?_⟩
  · rw [← hcs_set k F j X hX N hj]
    exact own_setG hL (j * 2) (sl X)
  · by_cases e : i = j
    · subst e
      rw [upd_at]
      exact row_cellk h1 hL hne _
    · rw [upd_ne F j X i e]
      exact row_cellk (k1.row (h.each i hi) (fun b hb hm => dj i hi e b hm (by simp [blk, hb]))) hL hne _

/-- What the growing goes by: x lists are grown, the next one by y. -/
structure Grw (el er z : Nat) (k : IntKind) (ct : Nat → Int → List Value) (w0 wr : World) (g lc N n x y : Nat) (F0 F : Nat → Hd) : Prop where
  rws : Rws el er z k ct wr (.slice (some ⟨g, 0, none⟩) N lc) N F
  dj : ∀ i j, i < N → j < N → n ≤ j → i ≠ j → ∀ b ∈ blk (F j), b ∉ blk (F i)
  lie : ∀ j, j < N → Lies w0 (sl (F0 j)) (sl (F j))
  old : ∀ j, j < n → F j = F0 j
  mrk : ∀ j, j < N → (F j).m = (F0 j).m
  ln : ∀ j, j < N → n ≤ j → (F j).l = (F0 j).l + (if j < n + x then 20 else if j = n + x then y else 0)
  kept : ∀ b, b < w0.heap.size → b ≠ g → (∀ j, n ≤ j → j < N → b ∉ blk (F0 j)) → wr.heap[b]? = w0.heap[b]?
  fr : w0.heap.size ≤ wr.heap.size ∧ wr.os = w0.os ∧ wr.tape = w0.tape ∧ wr.output = w0.output

theorem Grw.start {el er z : Nat} {k : IntKind} {ct : Nat → Int → List Value} {w0 : World} {g lc N n : Nat} {F0 : Nat → Hd} (h : Rws el er z k ct w0 (.slice (some ⟨g, 0, none⟩) N lc) N F0) (dj : ∀ i j, i < N → j < N → n ≤ j → i ≠ j → ∀ b ∈ blk (F0 j), b ∉ blk (F0 i)) : Grw el er z k ct w0 w0 g lc N n 0 0 F0 F0 :=
  ⟨h, dj, fun _ _ => Lies.refl _ _, fun _ _ => rfl, fun _ _ => rfl, fun j _ h2 => by rw [if_neg (by omega)]; simp, fun _ _ _ _ => rfl, Nat.le_refl _, rfl, rfl, rfl⟩

theorem Grw.next {el er z : Nat} {k : IntKind} {ct : Nat → Int → List Value} {w0 wr w1 : World} {g lc N n x y : Nat} {F0 F : Nat → Hd} (h : Grw el er z k ct w0 wr g lc N n x y F0 F) (hne : er ≠ el) (hx : n + x < N) (bo : Option Addr) (bc : Nat)
    (h1 : w1.ownsRow 0 er z (.slice bo ((F (n + x)).l + 1) bc) ((F (n + x)).l + 1) (ct ((F (n + x)).l + 1) (F (n + x)).m)) (k1 : Kept (blk (F (n + x))) wr w1) (l1 : Lies wr (sl (F (n + x))) (.slice bo ((F (n + x)).l + 1) bc)) :
    Grw el er z k ct w0 (w1.setCell ⟨g, (n + x) * 2, none⟩ (.slice bo ((F (n + x)).l + 1) bc)) g lc N n x (y + 1) F0 (upd F (n + x) ⟨bo, (F (n + x)).l + 1, bc, (F (n + x)).m⟩) := by
  have hr := h.rws.grow hx hne (fun i hi e => h.dj i (n + x) hi hx (by omega) e) ⟨bo, (F (n + x)).l + 1, bc, (F (n + x)).m⟩ rfl h1 k1
  have hlt : ∀ i, i < N → ∀ b ∈ blk (F i), b < wr.heap.size := fun i hi b hb => own_lt (h.rws.each i hi) b hb
  refine ⟨hr, fun i j hi hj hn e b hb => ?_, fun j hj => ?_, fun j hj => ?_, fun j hj => ?_, fun j hj hn => ?_, fun b hb hg hf => ?_, ?_⟩
  · by_cases ej : j = n + x
    · subst ej
      rw [upd_at] at hb
      rw [upd_ne _ _ _ _ e]
      rcases Lies.mem l1 b hb with h2 | h2
      · exact h.dj i (n + x) hi hx (by omega) e b h2
      · intro hm
        have := hlt i hi b hm
        omega
    · rw [upd_ne _ _ _ _ ej] at hb
      by_cases ei : i = n + x
      · subst ei
        rw [upd_at]
        intro hm
        rcases Lies.mem l1 b hm with h2 | h2
        · exact h.dj (n + x) j hx hj hn e b hb h2
        · have := hlt j hj b hb
          omega
      · rw [upd_ne _ _ _ _ ei]
        exact h.dj i j hi hj hn e b hb
  · by_cases ej : j = n + x
    · subst ej
      rw [upd_at]
      exact (h.lie (n + x) hx).trans l1 h.fr.1
    · rw [upd_ne _ _ _ _ ej]
      exact h.lie j hj
  · rw [upd_ne _ _ _ _ (by omega)]
    exact h.old j hj
  · by_cases ej : j = n + x
    · subst ej
      rw [upd_at]
      exact h.mrk (n + x) hx
    · rw [upd_ne _ _ _ _ ej]
      exact h.mrk j hj
  · by_cases ej : j = n + x
    · subst ej
      rw [upd_at]
      have := h.ln (n + x) hx (by omega)
      rw [if_neg (by omega), if_pos rfl] at this ⊢
      show (F (n + x)).l + 1 = _
      omega
    · rw [upd_ne _ _ _ _ ej]
      have := h.ln j hj hn
      rw [this, if_neg (c := j = n + x) ej, if_neg (c := j = n + x) ej]
  · have e1 : (w1.setCell ⟨g, (n + x) * 2, none⟩ (.slice bo ((F (n + x)).l + 1) bc)).heap[b]? = w1.heap[b]? := Below.heap_setCell _ _ _ _ (by simpa using hg)
    rw [e1, k1.block b (by have := h.fr.1; omega) (fun hm => ?_)]
    · exact h.kept b hb hg hf
    · rcases Lies.mem (h.lie (n + x) hx) b hm with h2 | h2
      · exact hf (n + x) (by omega) hx h2
      · omega
  · exact ⟨by simp only [World.setCell]; have := h.fr.1; have := k1.size; simp; omega, k1.os.trans h.fr.2.1, k1.tape.trans h.fr.2.2.1, k1.output.trans h.fr.2.2.2⟩

theorem Grw.step {el er z : Nat} {k : IntKind} {ct : Nat → Int → List Value} {w0 wr : World} {g lc N n x : Nat} {F0 F : Nat → Hd} (h : Grw el er z k ct w0 wr g lc N n x 20 F0 F) : Grw el er z k ct w0 wr g lc N n (x + 1) 0 F0 F :=
  ⟨h.rws, h.dj, h.lie, h.old, h.mrk, fun j hj hn => by
    have := h.ln j hj hn
    rw [this]
    by_cases e1 : j < n + x
    · rw [if_pos e1, if_pos (by omega)]
    · by_cases e2 : j = n + x
      · rw [if_neg e1, if_pos e2, if_pos (by omega)]
      · rw [if_neg e1, if_neg e2, if_neg (by omega)]
        by_cases e3 : j = n + (x + 1) <;> simp [e3], h.kept, h.fr⟩
end Go.Proofs.Ytiojcfffhcipnaa
