import Derived.Test.YtiojcfffhcipnaaBg
namespace Go.Proofs.Ytiojcfffhcipnaa
open Go.RowKit

/-- What own leaves. -/
def OwnP (w : World) (A : Nat) (l s : Value) (n p q r : Nat) (k u ks us : Value) (f fo g ft : Nat → Hd) (e : Ending) (w' : World) : Prop :=
  e = .returned (.bool true) ∧ ∃ l' s' F G, Bx w' A l' s' (.slice none 0 0) (.slice none 0 0) k u ks us ∧ Hs w' l' (n + p) F ∧ Ss w' s' (q + r) G ∧ Lies w l l' ∧ Lies w s s' ∧ Kept (A :: (l.ownBlock.toList ++ blks fo p ++ s.ownBlock.toList ++ blks ft r)) w w' ∧
    (∀ j, j < n → F j = f j) ∧ (∀ j, j < p → (∀ b ∈ blk (F (n + j)), b ∈ blk (fo j) ∨ w.heap.size ≤ b) ∧ (F (n + j)).l = (fo j).l + 20) ∧
    (∀ j, j < q → G j = g j) ∧ (∀ j, j < r → (∀ b ∈ blk (G (q + j)), b ∈ blk (ft j) ∨ w.heap.size ≤ b) ∧ (G (q + j)).l = (ft j).l + 20)

/-- The growing, also where there is nothing to be grown. -/
def Gro (el er z : Nat) (k : IntKind) (ct : Nat → Int → List Value) (w0 wr : World) (lo : Option Addr) (lc N n x y : Nat) (F0 : Nat → Hd) : Prop :=
  (x = 0 ∧ y = 0 ∧ wr = w0) ∨ ∃ g F, lo = some ⟨g, 0, none⟩ ∧ Grw el er z k ct w0 wr g lc N n x y F0 F

theorem Gro.get {el er z : Nat} {k : IntKind} {ct : Nat → Int → List Value} {w0 wr : World} {lo : Option Addr} {lc N n x y : Nat} {F0 : Nat → Hd} (h : Gro el er z k ct w0 wr lo lc N n x y F0) (h0 : Rws el er z k ct w0 (.slice lo N lc) N F0) (dj : ∀ i j, i < N → j < N → n ≤ j → i ≠ j → ∀ b ∈ blk (F0 j), b ∉ blk (F0 i)) (hN : 0 < N) : ∃ g F, lo = some ⟨g, 0, none⟩ ∧ Grw el er z k ct w0 wr g lc N n x y F0 F := by
  rcases h with ⟨rfl, rfl, rfl⟩ | h
  · obtain ⟨g, rfl, -⟩ := own_cellsN h0.own hN
    exact ⟨g, F0, rfl, Grw.start h0 dj⟩
  · exact h

theorem Grw.kept' {el er z : Nat} {k : IntKind} {ct : Nat → Int → List Value} {w0 wr : World} {g lc N n x y : Nat} {F0 F : Nat → Hd} (h : Grw el er z k ct w0 wr g lc N n x y F0 F) (ks : List Nat) (hg : g ∈ ks) (hf : ∀ j, n ≤ j → j < N → ∀ b ∈ blk (F0 j), b ∈ ks) : Kept ks w0 wr :=
  ⟨h.fr.2.1, h.fr.2.2.1, h.fr.2.2.2, h.fr.1, fun b hb hn => h.kept b hb (fun e => hn (e ▸ hg)) (fun j h1 h2 hm => hn (hf j h1 h2 b hm))⟩

/-- The blocks that the growing writes to. -/
def gks (lo : Option Addr) (lc N n : Nat) (F0 : Nat → Hd) : List Nat := (Value.slice lo N lc).ownBlock.toList ++ (List.range (N - n)).flatMap (fun j => blk (F0 (n + j)))
theorem Gro.kept {el er z : Nat} {k : IntKind} {ct : Nat → Int → List Value} {w0 wr : World} {lo : Option Addr} {lc N n x y : Nat} {F0 : Nat → Hd} (h : Gro el er z k ct w0 wr lo lc N n x y F0) : Kept (gks lo lc N n F0) w0 wr := by
  rcases h with ⟨rfl, rfl, rfl⟩ | ⟨g, F, rfl, h⟩
  · exact Kept.refl _ _
  · refine h.kept' _ (by simp [gks, Value.ownBlock]) (fun j h1 h2 b hb => ?_)
    unfold gks
    refine List.mem_append_right _ (List.mem_flatMap.2 ⟨j - n, List.mem_range.2 (by omega), ?_⟩)
    rw [show n + (j - n) = j by omega]
    exact hb
/-- Rows of other kinds, and the box, are not written to. -/
theorem gks_row {el er z : Nat} {k : IntKind} {ct : Nat → Int → List Value} {w0 : World} {lo : Option Addr} {lc N n : Nat} {F0 : Nat → Hd} (h0 : Rws el er z k ct w0 (.slice lo N lc) N F0) {e s m : Nat} {V : Value} {xs : List Value} (hr : w0.ownsRow 0 e s V m xs) (h1 : e ≠ el) (h2 : e ≠ er) : ∀ b, V.ownBlock = some b → b ∉ gks lo lc N n F0 := fun b hb hm => by
  rcases List.mem_append.1 hm with h | h
  · exact own_two hr h0.own h1 b hb h
  · obtain ⟨j, hj, hx⟩ := List.mem_flatMap.1 h
    have := List.mem_range.1 hj
    exact own_two hr (h0.each (n + j) (by omega)) h2 b hb hx
theorem gks_box {el er z : Nat} {k : IntKind} {ct : Nat → Int → List Value} {w0 : World} {lo : Option Addr} {lc N n : Nat} {F0 : Nat → Hd} (h0 : Rws el er z k ct w0 (.slice lo N lc) N F0) {B t : Nat} {cs : Array Value} (hb : w0.heap[B]? = some (.cells cs t (0, 0))) (h1 : t ≠ el) (h2 : t ≠ er) : B ∉ gks lo lc N n F0 := fun hm => by
  rcases List.mem_append.1 hm with h | h
  · exact own_ty hb h1 h0.own h
  · obtain ⟨j, hj, hx⟩ := List.mem_flatMap.1 h
    have := List.mem_range.1 hj
    exact own_ty hb h2 (h0.each (n + j) (by omega)) hx
theorem Rws.keep {el er z : Nat} {k : IntKind} {ct : Nat → Int → List Value} {w w' : World} {V : Value} {n : Nat} {f : Nat → Hd} {ks : List Nat} (h : Rws el er z k ct w V n f) (hk : Kept ks w w') (h1 : ∀ b, V.ownBlock = some b → b ∉ ks) (h2 : ∀ i, i < n → ∀ b, (sl (f i)).ownBlock = some b → b ∉ ks) : Rws el er z k ct w' V n f := ⟨hk.row h.own h1, fun i hi => hk.row (h.each i hi) (h2 i hi)⟩
/-- Behind the growing. -/
theorem Gro.done {el er z : Nat} {k : IntKind} {ct : Nat → Int → List Value} {w0 wr : World} {lo : Option Addr} {lc N n : Nat} {F0 : Nat → Hd} (hn : n ≤ N) (h : Gro el er z k ct w0 wr lo lc N n (N - n) 0 F0) (h0 : Rws el er z k ct w0 (.slice lo N lc) N F0) : ∃ F, Rws el er z k ct wr (.slice lo N lc) N F ∧ (∀ j, j < n → F j = F0 j) ∧ (∀ j, n ≤ j → j < N → Lies w0 (sl (F0 j)) (sl (F j)) ∧ (F j).l = (F0 j).l + 20) := by
  rcases h with ⟨e, -, rfl⟩ | ⟨g, F, rfl, h⟩
  · exact ⟨F0, h0, fun _ _ => rfl, fun j h1 h2 => by omega⟩
  · exact ⟨F, h.rws, h.old, fun j h1 h2 => ⟨h.lie j h2, by rw [h.ln j h2 h1, if_pos (by omega)]⟩⟩
theorem jn_dj {f fo : Nat → Hd} {n p : Nat} (d1 : ∀ i j, i < p → j < n → ∀ x ∈ blk (fo i), x ∉ blk (f j)) (d2 : ∀ i j, i < p → j < p → i ≠ j → ∀ x ∈ blk (fo i), x ∉ blk (fo j)) : ∀ i j, i < n + p → j < n + p → n ≤ j → i ≠ j → ∀ b ∈ blk (jn f fo n j), b ∉ blk (jn f fo n i) := by
  intro i j hi hj hnj hij b hb
  obtain ⟨y, rfl⟩ : ∃ y, j = n + y := ⟨j - n, by omega⟩
  rw [jn_new] at hb
  have hb : b ∈ blk (fo y) := hb
  by_cases h : i < n
  · rw [jn_old _ _ _ _ h]
    exact d1 y i (by omega) h b hb
  · obtain ⟨x, rfl⟩ : ∃ x, i = n + x := ⟨i - n, by omega⟩
    rw [jn_new]
    exact d2 y x (by omega) (by omega) (by omega) b hb

theorem jns_dj {g ft : Nat → Hd} {q r : Nat} (d1 : ∀ i j, i < r → j < q → ∀ x ∈ blk (ft i), x ∉ blk (g j)) (d2 : ∀ i j, i < r → j < r → i ≠ j → ∀ x ∈ blk (ft i), x ∉ blk (ft j)) : ∀ i j, i < q + r → j < q + r → q ≤ j → i ≠ j → ∀ b ∈ blk (jns g ft q j), b ∉ blk (jns g ft q i) := by
  intro i j hi hj hnj hij b hb
  obtain ⟨y, rfl⟩ : ∃ y, j = q + y := ⟨j - q, by omega⟩
  rw [jns_new] at hb
  have hb : b ∈ blk (ft y) := hb
  by_cases h : i < q
  · rw [jns_old _ _ _ _ h]
    exact d1 y i (by omega) h b hb
  · obtain ⟨x, rfl⟩ : ∃ x, i = q + x := ⟨i - q, by omega⟩
    rw [jns_new]
    exact d2 y x (by omega) (by omega) (by omega) b hb

end Go.Proofs.Ytiojcfffhcipnaa
