import Derived.Test.YthhegomjipbdbaaGreatDoorWZ
import Derived.Test.YthhegomjipbdbaaGreatDoorNZ
import Derived.Test.YthhegomjipbdbaaGreatDoorLZ
import Derived.Test.YthhegomjipbdbaaGreatDooryN1Z
import Derived.WalkKit
import Derived.WalkSpells
import Derived.WalkLawsBesides
import Derived.Maps.AppendAt
import Derived.Deep.RegionHeld3
import Derived.Deep.RegionWith
import Derived.Deep.DeepCutAuto
import Derived.Deep.QuietTactic
import Derived.BigQuiet
import Derived.Laws.CopyOwn
import Derived.Laws.OwnMore
namespace Go.Proofs.YthhegomjipbdbaaGreatDoor.Py
open Go.RowKit

/-- What is told of a slice of bytes that came in. -/
def IsRow (k : IntKind) (w : World) (a : Option Addr) (len cap : Nat) (zs : List Int) : Prop :=
  (a = none ∧ len = 0 ∧ cap = 0 ∧ zs = []) ∨
  ∃ x, a = some x ∧ len ≤ cap ∧ cap ≤ maxLen ∧ zs.length = cap ∧ (∀ i, i < zs.length → w.cell? (x.add i) = some (.int k (zs.getD i 0))) ∧ ∀ n ∈ zs, (Lit.int k n).wf = true

theorem isRow_reads {w : World} {a : Option Addr} {len cap : Nat} {zs : List Int} (h : IsRow .u8 w a len cap zs) : ∃ l, l.length = len ∧ Byts l ∧ Reads w a l ∧ len ≤ 9223372036854775807 := by
  rcases h with ⟨rfl, rfl, rfl, rfl⟩ | ⟨x, rfl, hl, hm, hz, hc, hw⟩
  · exact ⟨[], rfl, by simp [Byts], .inl rfl, by decide⟩
  · have hwf : ∀ n ∈ zs, 0 ≤ n ∧ n < 256 := fun n hn => by
      have := hw n hn
      simp [Lit.wf] at this
      have h1 : IntKind.u8.min = 0 := by decide
      have h2 : IntKind.u8.max = 255 := by decide
      omega
    refine ⟨(zs.take len).map Int.toNat, by simp; omega, ?_, ?_, by unfold maxLen at hm; omega⟩
    · intro b hb
      simp only [List.mem_map] at hb
      obtain ⟨z, hz1, rfl⟩ := hb
      have := hwf z (List.mem_of_mem_take hz1)
      omega
    · by_cases h0 : len = 0
      · subst h0; exact .inl (by simp)
      · right
        obtain ⟨b, off, spot⟩ := x
        have hc0 := hc 0 (by omega)
        have hspot : spot = none := by simpa [Addr.add] using World.cell?_spot hc0
        subst hspot
        refine ⟨b, off, rfl, fun i hi => ?_⟩
        have hil : i < len := by simp at hi; omega
        have h1 := hc i (by omega)
        have hadd : (⟨b, off, none⟩ : Addr).add i = ⟨b, off + i, none⟩ := by unfold Addr.add; split <;> simp_all
        rw [hadd] at h1
        rw [h1]
        have hiz : i < zs.length := by omega
        have := hwf zs[i] (List.getElem_mem hiz)
        simp [byt, hiz, hil]
        omega

theorem row_at {w : World} {g e : Nat} {X : List Nat} (h : w.heap[g]? = some (.cells (X.map byt).toArray e (0, 0))) (j : Nat) (hj : j < X.length) : w.cell? ⟨g, j, none⟩ = some (byt (X.getD j 0)) := by
  simp [World.cell?, h, hj]

end Go.Proofs.YthhegomjipbdbaaGreatDoor.Py

namespace Go.Proofs.YthhegomjipbdbaaGreatDoor.Py
open Go.RowKit

/-- Nothing but draws. -/
def Qt (w w' : World) : Prop := ∃ m, w' = w.drewN m
theorem Qt.refl (w : World) : Qt w w := ⟨0, rfl⟩
theorem Qt.drewN {a w : World} (h : Qt a w) (n : Nat) : Qt a (w.drewN n) := by
  obtain ⟨m, rfl⟩ := h
  exact ⟨m + n, by rw [World.drewN_drewN]⟩
theorem Qt.kept {w w' : World} (h : Qt w w') (l : List Nat) : Kept l w w' := by
  obtain ⟨m, rfl⟩ := h
  exact (Kept.refl l w).drewN m

theorem ret2 {k j : IntKind} {a b c d : Int} (h : a = b) (h2 : c = d) : Ending.returned (.tuple #[.int k a, .int j c]) = .returned (.tuple #[.int k b, .int j d]) := by rw [h, h2]

/-- Times x, of numbers. -/
def t2 (a : Nat) : Nat := if a < 128 then 2 * a else (2 * a - 256) ^^^ 0x65

theorem t2_all : ∀ a : Fin 256, (tx (el a.val)).toNat = t2 a.val := by decide +kernel
theorem t2_lt {a : Nat} (h : a < 256) : t2 a < 256 := by
  rw [← t2_all ⟨a, h⟩]; exact (tx _).isLt

theorem t2_hi (a : Nat) (h : a < 256) (h1 : 128 ≤ a) : bits BinOp.xor IntKind.u8 ((a : Int) * 2 % 256) 101 = (t2 a : Int) := by
  have e : ((a : Int) * 2 % 256) = ((2 * a - 256 : Nat) : Int) := by omega
  rw [e]
  have := u8_xor_nat (2 * a - 256) 101 (by omega) (by decide)
  rw [show ((101 : Nat) : Int) = 101 from rfl] at this
  rw [this]
  unfold t2
  rw [if_neg (by omega)]
theorem t2_lo (a : Nat) (h1 : a < 128) : bits BinOp.xor IntKind.u8 ((a : Int) * 2) 0 = (t2 a : Int) := by
  have e : ((a : Int) * 2) = ((2 * a : Nat) : Int) := by omega
  rw [e]
  have := u8_xor_nat (2 * a) 0 (by omega) (by decide)
  rw [show ((0 : Nat) : Int) = 0 from rfl] at this
  rw [this, Nat.xor_zero]
  unfold t2
  rw [if_pos h1]

set_option maxHeartbeats 400000 in
theorem timesX_any (a : Nat) (ha : a < 256) (w : World) :
    Calls Tryz.prog 186 #[.int .u8 (a : Int)] w fun e w' => e = .returned (.int .u8 (t2 a : Int)) ∧ w' = w := by
  by_cases h : 128 ≤ a
  · have hd : (a : Int) / 128 = 1 := by omega
    have hx := t2_hi a ha h
    go_enter Tryz.func186, Tryz.ntmps186
    go_wp2
    go_ret
    exact ⟨rfl, rfl⟩
  · have hd : (a : Int) / 128 = 0 := by omega
    have hx := t2_lo a (by omega)
    have hx2 := t2_lo a (by omega)
    rw [show (a : Int) * 2 = (a : Int) * 2 % 256 from by omega] at hx2
    go_enter Tryz.func186, Tryz.ntmps186
    go_wp2
    go_ret
    exact ⟨rfl, rfl⟩
end Go.Proofs.YthhegomjipbdbaaGreatDoor.Py

namespace Go.Proofs.YthhegomjipbdbaaGreatDoor.Py
open Go.RowKit

theorem xor_u8 (x : Int) (h0 : 0 ≤ x) (h1 : x < 256) : bits BinOp.xor IntKind.u8 x 90 = ((x.toNat ^^^ 90 : Nat) : Int) := by
  have := u8_xor x 90 h0 h1 (by decide) (by decide)
  exact this

end Go.Proofs.YthhegomjipbdbaaGreatDoor.Py

namespace Go.Proofs.YthhegomjipbdbaaGreatDoor.Py
open Go.RowKit

theorem _root_.Go.Proofs.YthhegomjipbdbaaGreatDoor.Reads.take {w : World} {ao : Option Addr} {l : List Nat} (h : Reads w ao l) (n : Nat) : Reads w ao (l.take n) := by
  rcases h with rfl | ⟨g, off, rfl, hc⟩
  · exact .inl (by simp)
  · refine .inr ⟨g, off, rfl, fun i hi => ?_⟩
    have hi2 : i < n ∧ i < l.length := by simp at hi; omega
    rw [hc i hi2.2]
    simp [hi2.1, hi2.2]
theorem _root_.Go.Proofs.YthhegomjipbdbaaGreatDoor.Byts.take {l : List Nat} (h : Byts l) (n : Nat) : Byts (l.take n) := fun b hb => h b (List.mem_of_mem_take hb)
theorem _root_.Go.Proofs.YthhegomjipbdbaaGreatDoor.Byts.app {l k : List Nat} (h : Byts l) (h2 : Byts k) : Byts (l ++ k) := fun b hb => (List.mem_append.1 hb).elim (h b) (h2 b)
theorem _root_.Go.Proofs.YthhegomjipbdbaaGreatDoor.Byts.left {l k : List Nat} (h : Byts (l ++ k)) : Byts l := fun b hb => h b (List.mem_append.2 (.inl hb))
theorem heap_row {w : World} {N : Nat} {l : List Nat} (h : w.heap[N]? = some (.cells (l.map byt).toArray 5 (0, 0))) : Reads w (some ⟨N, 0, none⟩) l := by
  refine .inr ⟨N, 0, rfl, fun i hi => ?_⟩
  rw [cell_of_row _ _ _ _ _ _ h]
  simp [hi]
theorem heap_left {w : World} {N : Nat} {l k : List Nat} (h : w.heap[N]? = some (.cells ((l ++ k).map byt).toArray 5 (0, 0))) : Reads w (some ⟨N, 0, none⟩) l := by
  have h1 := (heap_row h).take l.length
  rwa [List.take_left'] at h1
  rfl
theorem _root_.Go.Proofs.YthhegomjipbdbaaGreatDoor.Reads.lt {w : World} {ao : Option Addr} {l : List Nat} (h : Reads w ao l) (hp : 0 < l.length) : ∀ b off, ao = some ⟨b, off, none⟩ → b < w.heap.size := by
  rcases h with rfl | ⟨g, off, rfl, hc⟩
  · simp at hp
  · intro b off2 e
    cases e
    exact World.block_lt_of_cell? w _ (hc 0 hp)
theorem _root_.Go.Proofs.YthhegomjipbdbaaGreatDoor.Reads.stay {w w' : World} {ao : Option Addr} {l ks : List Nat} (h : Reads w ao l) (hk : Kept ks w w') (hn : 0 < l.length → ∀ g off, ao = some ⟨g, off, none⟩ → g ∉ ks) : Reads w' ao l := by
  by_cases h0 : 0 < l.length
  · exact h.kept hk (hn h0)
  · exact .inl (List.eq_nil_of_length_eq_zero (by omega))
/-- What the owner writes over a list. -/
def x90 (l : List Nat) : List Nat := l.map (· ^^^ 90)
theorem x90_length (l : List Nat) : (x90 l).length = l.length := by simp [x90]
theorem x90_app (l k : List Nat) : (l ++ k).map (· ^^^ 90) = x90 l ++ x90 k := by simp [x90]
theorem x90_byts {l : List Nat} (h : Byts l) : Byts (x90 l) := by
  intro b hb
  simp only [x90, List.mem_map] at hb
  obtain ⟨y, hy, rfl⟩ := hb
  exact xor_lt (h y hy) (by decide)
end Go.Proofs.YthhegomjipbdbaaGreatDoor.Py

namespace Go.Proofs.YthhegomjipbdbaaGreatDoor.Py
open Go.RowKit

/-- A row of n elements. -/
def rg (p : Nat → Nat) (n : Nat) : List Nat := (List.range n).map p
theorem rg_length (p : Nat → Nat) (n : Nat) : (rg p n).length = n := by simp [rg]
theorem rg_at (p : Nat → Nat) (n j : Nat) (h : j < n) : (rg p n)[j]? = some (p j) := by simp [rg, h]
theorem rg_getD (p : Nat → Nat) (n j : Nat) (h : j < n) : (rg p n).getD j 0 = p j := by rw [List.getD_eq_getElem?_getD, rg_at _ _ _ h]; rfl
theorem rg_congr {p q : Nat → Nat} {n : Nat} (h : ∀ j, j < n → p j = q j) : rg p n = rg q n := by
  apply List.ext_getElem?
  intro j
  by_cases hj : j < n
  · rw [rg_at _ _ _ hj, rg_at _ _ _ hj, h j hj]
  · rw [List.getElem?_eq_none (by rw [rg_length]; omega), List.getElem?_eq_none (by rw [rg_length]; omega)]
theorem rg_byts {p : Nat → Nat} {n : Nat} (h : ∀ j, j < n → p j < 256) : Byts (rg p n) := by
  intro b hb
  simp only [rg, List.mem_map, List.mem_range] at hb
  obtain ⟨j, hj, rfl⟩ := hb
  exact h j hj
theorem rg_of (l : List Nat) : rg (fun j => l.getD j 0) l.length = l := by
  apply List.ext_getElem?
  intro j
  by_cases hj : j < l.length
  · rw [rg_at _ _ _ hj]; simp [hj]
  · rw [List.getElem?_eq_none (by rw [rg_length]; omega), List.getElem?_eq_none (by omega)]

/-- Changed as far as k. -/
def upt (k : Nat) (p q : Nat → Nat) : Nat → Nat := fun j => if j < k then q j else p j
theorem upt_zero (p q : Nat → Nat) (n : Nat) : rg (upt 0 p q) n = rg p n := rg_congr fun _ _ => if_neg (by omega)
theorem upt_full (p q : Nat → Nat) (n : Nat) : rg (upt n p q) n = rg q n := rg_congr fun _ hj => if_pos hj
theorem upt_at (k : Nat) (p q : Nat → Nat) : upt k p q k = p k := if_neg (by omega)
theorem upt_set (k n : Nat) (p q : Nat → Nat) : ((rg (upt k p q) n).map byt).set k (byt (q k)) = (rg (upt (k + 1) p q) n).map byt := by
  rw [← List.map_set]
  congr 1
  apply List.ext_getElem?
  intro j
  by_cases hj : j < n
  · rw [List.getElem?_set, rg_at _ _ _ hj, rg_at _ _ _ hj, rg_length]
    by_cases e : k = j
    · subst e; simp [hj, upt]
    · rw [if_neg e]
      have : (j < k) = (j < k + 1) := by apply propext; omega
      simp [upt, this]
  · rw [List.getElem?_eq_none (by simp [rg_length]; omega), List.getElem?_eq_none (by simp [rg_length]; omega)]

/-- A row that lies in a block of its own. -/
def Row (w : World) (b : Nat) (l : List Nat) : Prop := w.heap[b]? = some (.cells (l.map byt).toArray 5 (0, 0))
theorem Row.keep {w w' : World} {b : Nat} {l ks : List Nat} (h : Row w b l) (hk : Kept ks w w') (hn : b ∉ ks) : Row w' b l := hk.heap h hn
theorem Row.lt {w : World} {b : Nat} {l : List Nat} (h : Row w b l) : b < w.heap.size := lt_of_block h
theorem Row.reads {w : World} {b : Nat} {l : List Nat} (h : Row w b l) : Reads w (some ⟨b, 0, none⟩) l := heap_row h
theorem Row.at {w : World} {b : Nat} {l : List Nat} (h : Row w b l) {j : Nat} (hj : j < l.length) : w.cell? ⟨b, j, none⟩ = some (.int .u8 (l.getD j 0 : Nat)) := row_at h j hj
theorem Row.fz {w : World} {b : Nat} {l : List Nat} (h : Row w b l) (j : Nat) : w.frozen? ⟨b, j, none⟩ = false := by
  unfold Row at h
  simp [World.frozen?, h]
theorem Row.set {w : World} {b : Nat} {p q : Nat → Nat} {n k : Nat} (h : Row w b (rg (upt k p q) n)) {u : Value} (hu : u = byt (q k)) : Row (w.setCell ⟨b, k, none⟩ u) b (rg (upt (k + 1) p q) n) := by
  subst hu
  unfold Row at h ⊢
  rw [heap_setCell_at h, List.setIfInBounds_toArray, upt_set k n p q]

/-- A matrix in memory of its own: its list in the block g, its rows in blocks. -/
structure Mt (w : World) (g n : Nat) (bs : Nat → Nat) (wd : Nat) (F : Nat → Nat → Nat) : Prop where
  out : ∀ i, i < n → w.cell? ⟨g, i, none⟩ = some (.slice (some ⟨bs i, 0, none⟩) wd wd)
  fz : ∀ i, i < n → w.frozen? ⟨g, i, none⟩ = false
  row : ∀ i, i < n → Row w (bs i) (rg (F i) wd)
  ne : ∀ i, i < n → bs i ≠ g
  inj : ∀ i j, i < n → j < n → bs i = bs j → i = j

theorem cell_keep {w w' : World} {ks : List Nat} (hk : Kept ks w w') {g o : Nat} {v : Value} (h : w.cell? ⟨g, o, none⟩ = some v) (hn : g ∉ ks) : w'.cell? ⟨g, o, none⟩ = some v :=
  (World.cell?_of_block (a := ⟨g, o, none⟩) (hk.block g (World.block_lt_of_cell? w _ h) hn)).trans h
theorem fz_keep {w w' : World} {ks : List Nat} (hk : Kept ks w w') {g o : Nat} {v : Value} (h : w.cell? ⟨g, o, none⟩ = some v) (hf : w.frozen? ⟨g, o, none⟩ = false) (hn : g ∉ ks) : w'.frozen? ⟨g, o, none⟩ = false := by
  have := hk.block g (World.block_lt_of_cell? w _ h) hn
  unfold World.frozen? at hf ⊢
  simp only [this]
  exact hf

theorem Mt.lt {w : World} {g n : Nat} {bs : Nat → Nat} {wd : Nat} {F : Nat → Nat → Nat} (h : Mt w g n bs wd F) {i : Nat} (hi : i < n) : bs i < w.heap.size := (h.row i hi).lt
theorem Mt.glt {w : World} {g n : Nat} {bs : Nat → Nat} {wd : Nat} {F : Nat → Nat → Nat} (h : Mt w g n bs wd F) (hn : 0 < n) : g < w.heap.size := World.block_lt_of_cell? w _ (h.out 0 hn)

theorem Mt.keep {w w' : World} {g n : Nat} {bs : Nat → Nat} {wd : Nat} {F : Nat → Nat → Nat} {ks : List Nat} (h : Mt w g n bs wd F) (hk : Kept ks w w') (h1 : 0 < n → g ∉ ks) (h2 : ∀ i, i < n → bs i ∉ ks) : Mt w' g n bs wd F :=
  ⟨fun i hi => cell_keep hk (h.out i hi) (h1 (by omega)), fun i hi => fz_keep hk (h.out i hi) (h.fz i hi) (h1 (by omega)), fun i hi => (h.row i hi).keep hk (h2 i hi), h.ne, h.inj⟩

theorem Mt.keep0 {w w' : World} {g n : Nat} {bs : Nat → Nat} {wd : Nat} {F : Nat → Nat → Nat} (h : Mt w g n bs wd F) (hk : Kept [] w w') : Mt w' g n bs wd F := h.keep hk (by simp) (by simp)

/-- One row changed. -/
theorem Mt.upd {w w' : World} {g n : Nat} {bs : Nat → Nat} {wd : Nat} {F G : Nat → Nat → Nat} {k : Nat} (h : Mt w g n bs wd F) (hk : k < n) (hw : Kept [bs k] w w') (hr : Row w' (bs k) (rg (G k) wd))
    (hF : ∀ i, i < n → i ≠ k → ∀ j, j < wd → G i j = F i j) : Mt w' g n bs wd G := by
  have hg : g ∉ [bs k] := by simpa using (h.ne k hk).symm
  refine ⟨fun i hi => cell_keep hw (h.out i hi) hg, fun i hi => fz_keep hw (h.out i hi) (h.fz i hi) hg, fun i hi => ?_, h.ne, h.inj⟩
  by_cases e : i = k
  · subst e; exact hr
  · rw [rg_congr (hF i hi e)]
    exact (h.row i hi).keep hw (by simpa using fun e2 => e (h.inj i k hi hk e2))
theorem Mt.congr {w : World} {g n : Nat} {bs : Nat → Nat} {wd : Nat} {F G : Nat → Nat → Nat} (h : Mt w g n bs wd F) (hF : ∀ i, i < n → ∀ j, j < wd → G i j = F i j) : Mt w g n bs wd G :=
  ⟨h.out, h.fz, fun i hi => by rw [rg_congr (hF i hi)]; exact h.row i hi, h.ne, h.inj⟩

theorem _root_.Go.Proofs.YthhegomjipbdbaaGreatDoor.Reads.cell {w : World} {ao : Option Addr} {l : List Nat} (h : Reads w ao l) {j : Nat} (hj : j < l.length) : ∃ g off, ao = some ⟨g, off, none⟩ ∧ w.cell? ⟨g, off + j, none⟩ = some (.int .u8 (l.getD j 0 : Nat)) := by
  rcases h with h | ⟨g, off, h, hc⟩
  · subst h; simp at hj
  · exact ⟨g, off, h, hc j hj⟩

/-- A matrix that is read: its rows' lists. -/
def MR (w : World) (ao : Option Addr) (L : List (List Nat)) : Prop :=
  L = [] ∨ ∃ g off, ao = some ⟨g, off, none⟩ ∧ ∀ i, i < L.length → ∃ bo cap, w.cell? ⟨g, off + i, none⟩ = some (.slice bo (L.getD i []).length cap) ∧ Reads w bo (L.getD i [])
/-- All rows are bytes. -/
def Bm (L : List (List Nat)) : Prop := ∀ r ∈ L, Byts r
theorem Bm.at {L : List (List Nat)} (h : Bm L) (i : Nat) : Byts (L.getD i []) := by
  rw [List.getD_eq_getElem?_getD]
  rcases e : L[i]? with _ | x
  · simp [Byts]
  · exact h x (List.mem_of_getElem? e)
theorem MR.keep {w w' : World} {ao : Option Addr} {L : List (List Nat)} (h : MR w ao L) (hk : Kept [] w w') : MR w' ao L := by
  rcases h with h | ⟨g, off, rfl, hc⟩
  · exact .inl h
  · refine .inr ⟨g, off, rfl, fun i hi => ?_⟩
    obtain ⟨bo, cap, h1, h2⟩ := hc i hi
    exact ⟨bo, cap, cell_keep hk h1 (by simp), h2.keep hk⟩
theorem MR.at {w : World} {ao : Option Addr} {L : List (List Nat)} (h : MR w ao L) {i : Nat} (hi : i < L.length) :
    ∃ g off bo cap, ao = some ⟨g, off, none⟩ ∧ w.cell? ⟨g, off + i, none⟩ = some (.slice bo (L.getD i []).length cap) ∧ Reads w bo (L.getD i []) := by
  rcases h with h | ⟨g, off, h, hc⟩
  · subst h; simp at hi
  · obtain ⟨bo, cap, h1, h2⟩ := hc i hi
    exact ⟨g, off, bo, cap, h, h1, h2⟩

/-- The rows of a function. -/
def mf (F : Nat → Nat → Nat) (n wd : Nat) : List (List Nat) := (List.range n).map fun i => rg (F i) wd
theorem mf_length (F : Nat → Nat → Nat) (n wd : Nat) : (mf F n wd).length = n := by simp [mf]
theorem mf_getD (F : Nat → Nat → Nat) (n wd i : Nat) (h : i < n) : (mf F n wd).getD i [] = rg (F i) wd := by simp [mf, h]
theorem mf_bm {F : Nat → Nat → Nat} {n wd : Nat} (h : ∀ i j, i < n → j < wd → F i j < 256) : Bm (mf F n wd) := by
  intro r hr
  simp only [mf, List.mem_map, List.mem_range] at hr
  obtain ⟨i, hi, rfl⟩ := hr
  exact rg_byts fun j hj => h i j hi hj
theorem mf_congr {F G : Nat → Nat → Nat} {n wd : Nat} (h : ∀ i j, i < n → j < wd → F i j = G i j) : mf F n wd = mf G n wd := by
  unfold mf
  apply List.map_congr_left
  intro i hi
  exact rg_congr fun j hj => h i j (by simpa using hi) hj
theorem Mt.reads {w : World} {g n : Nat} {bs : Nat → Nat} {wd : Nat} {F : Nat → Nat → Nat} (h : Mt w g n bs wd F) : MR w (some ⟨g, 0, none⟩) (mf F n wd) := by
  refine .inr ⟨g, 0, rfl, fun i hi => ?_⟩
  rw [mf_length] at hi
  rw [mf_getD _ _ _ _ hi, rg_length, Nat.zero_add]
  exact ⟨_, _, h.out i hi, (h.row i hi).reads⟩

/-- A matrix' elements. -/
def fn (L : List (List Nat)) (i j : Nat) : Nat := (L.getD i []).getD j 0
theorem fn_lt {L : List (List Nat)} (h : Bm L) (i j : Nat) : fn L i j < 256 := getD_lt _ j (h.at i)
theorem fn_rg {L : List (List Nat)} {i wd : Nat} (h : (L.getD i []).length = wd) : rg (fn L i) wd = L.getD i [] := by
  subst h; exact rg_of _
theorem fn_mf {L : List (List Nat)} {n wd : Nat} (hn : L.length = n) (h : ∀ i, i < n → (L.getD i []).length = wd) : mf (fn L) n wd = L := by
  apply List.ext_getElem?
  intro i
  by_cases hi : i < n
  · have h1 : (mf (fn L) n wd)[i]? = some (rg (fn L i) wd) := by simp [mf, hi]
    rw [h1, fn_rg (h i hi)]
    simp [hn, hi]
  · rw [List.getElem?_eq_none (by rw [mf_length]; omega), List.getElem?_eq_none (by omega)]
theorem mf_fn (F : Nat → Nat → Nat) (n wd i j : Nat) (hi : i < n) (hj : j < wd) : fn (mf F n wd) i j = F i j := by
  unfold fn
  rw [mf_getD _ _ _ _ hi, rg_getD _ _ _ hj]
end Go.Proofs.YthhegomjipbdbaaGreatDoor.Py

namespace Go.Proofs.YthhegomjipbdbaaGreatDoor.Py
open Go.RowKit

/-- A product, as far as k coefficients. -/
def mN (a b k : Nat) : Nat := (mh (el a) (el b) k).toNat
theorem mN_lt (a b k : Nat) : mN a b k < 256 := (mh _ _ _).isLt
theorem mN_8 (a b : Nat) : mN a b 8 = mu a b := rfl

theorem top_all : ∀ a : Fin 256, ∀ k : Fin 8, a.val * 2 ^ k.val % 256 / 128 = if (el a.val).getLsbD (7 - k.val) then 1 else 0 := by decide +kernel

theorem t2_tx {a : Nat} (h : a < 256) : t2 a = (tx (el a)).toNat := (t2_all ⟨a, h⟩).symm

theorem mN_pos (a b k : Nat) (hb : b < 256) (h : (el a).getLsbD (7 - k) = true) : t2 (mN a b k) ^^^ b = mN a b (k + 1) := by
  rw [t2_tx (mN_lt _ _ _)]
  simp only [mN, el_toNat, mh, h, if_true, BitVec.toNat_xor, toNat_el hb]
theorem mN_neg (a b k : Nat) (h : (el a).getLsbD (7 - k) = false) : t2 (mN a b k) = mN a b (k + 1) := by
  rw [t2_tx (mN_lt _ _ _)]
  simp only [mN, el_toNat, mh, h, Bool.false_eq_true, if_false, BitVec.xor_zero]

set_option maxHeartbeats 1000000 in
set_option maxRecDepth 1000000 in
theorem mul_any (a b : Nat) (ha : a < 256) (hb : b < 256) (w : World) :
    Calls Tryz.prog 179 #[.int .u8 (a : Int), .int .u8 (b : Int)] w fun e w' => e = .returned (.int .u8 (mu a b : Int)) ∧ ∃ m, w' = w.drewN m := by
  go_enter Tryz.func179, Tryz.ntmps179
  go_wp2
  go_loopw [5, 7] (fun p i wr => ∃ k : Nat, k ≤ 8 ∧ i = .int .i64 k ∧ p = .int .u8 (mN a b k : Int) ∧ Qt w wr) (fun _ i _ => 8 - (intOf i).toNat)
  case atStart => exact ⟨0, by omega, rfl, rfl, Qt.refl w⟩
  case round =>
    obtain ⟨k, hk, rfl, rfl, hq⟩ := hrel
    have Hq := Hid.mk hq
    clear hq
    by_cases hlt : k < 8
    · have ht : (a : Int) * 2 ^ k % 256 / 128 = if (el a).getLsbD (7 - k) then 1 else 0 := by
        have h := top_all ⟨a, ha⟩ ⟨k, hlt⟩
        simp only at h
        have h2 : ((a * 2 ^ k % 256 / 128 : Nat) : Int) = (a : Int) * 2 ^ k % 256 / 128 := by simp
        rw [← h2, h]
        split <;> rfl
      have Hp := Hid.mk (mN_pos a b k hb)
      have Hn := Hid.mk (mN_neg a b k)
      have hp1 := mN_lt a b k
      obtain ⟨p, hp⟩ : ∃ p, p = mN a b k := ⟨_, rfl⟩
      rw [← hp] at Hp Hn hp1 ⊢
      clear hp
      have htl := t2_lt hp1
      cases hbit : (el a).getLsbD (7 - k)
      · have Hb := Hid.mk hbit
        rw [hbit] at ht
        simp only [Bool.false_eq_true, if_false] at ht
        have hx := u8_xor_nat (t2 p) 0 htl (by decide)
        rw [Nat.xor_zero, show ((0 : Nat) : Int) = 0 from rfl] at hx
        clear hbit
        go_wp2
        go_quiet ((go_at_call 186; refine Calls.quiet_of_same (timesX_any _ hp1 _)))
        go_wp2
        go_roundw
        case rel => exact ⟨k + 1, by omega, by go_num, by rw [Hn.out Hb.out], Hq.out.drewN _⟩
        case measure => simp [intOf]; omega
      · have Hb := Hid.mk hbit
        rw [hbit] at ht
        simp only [if_true] at ht
        have hx := u8_xor_nat (t2 p) b htl hb
        clear hbit
        go_wp2
        go_quiet ((go_at_call 186; refine Calls.quiet_of_same (timesX_any _ hp1 _)))
        go_wp2
        go_roundw
        case rel => exact ⟨k + 1, by omega, by go_num, by rw [Hp.out Hb.out], Hq.out.drewN _⟩
        case measure => simp [intOf]; omega
    · obtain rfl : k = 8 := by omega
      have HM := Hid.mk (mN_8 a b)
      obtain ⟨p, hp⟩ : ∃ p, p = mN a b 8 := ⟨_, rfl⟩
      rw [← hp] at HM
      rw [← hp]
      clear hp
      go_wp2
      go_ret
      exact ⟨ret_int (by rw [HM.out]), Hq.out⟩
end Go.Proofs.YthhegomjipbdbaaGreatDoor.Py

namespace Go.Proofs.YthhegomjipbdbaaGreatDoor.Py
open Go.RowKit

set_option maxHeartbeats 1000000 in
set_option maxRecDepth 1000000 in
theorem power_any (a n : Nat) (ha : a < 256) (hn : n ≤ 255) (w : World) :
    Calls Tryz.prog 160 #[.int .u8 (a : Int), .int .i64 (n : Int)] w fun e w' => e = .returned (.int .u8 (pw a n : Int)) ∧ ∃ m, w' = w.drewN m := by
  go_enter Tryz.func160, Tryz.ntmps160
  go_wp2
  go_loopw [0, 1, 5] (fun x i p wr => ∃ b m q : Nat, b < 256 ∧ q < 256 ∧ m ≤ 255 ∧ x = .int .u8 (b : Int) ∧ i = .int .i64 (m : Int) ∧ p = .int .u8 (q : Int) ∧ mu q (pw b m) = pw a n ∧ Qt w wr) (fun _ i _ _ => (intOf i).toNat)
  case atStart => exact ⟨a, n, 1, ha, by decide, hn, rfl, rfl, rfl, one_mu (pw_lt _ _), Qt.refl w⟩
  case round =>
    obtain ⟨b, m, q, hb, hq, hm, rfl, rfl, rfl, he, hq0⟩ := hrel
    have Hq := Hid.mk hq0
    clear hq0
    have He := Hid.mk he
    clear he
    have hbb := mu_lt b b
    have hqb := mu_lt q b
    by_cases h0 : m = 0
    · subst h0
      go_wp2
      go_ret
      refine ⟨ret_int ?_, Hq.out⟩
      have := He.out
      rw [pw, mu_one hq] at this
      rw [this]
    · have hd : (m : Int).tdiv 2 = ((m / 2 : Nat) : Int) := by rw [Int.tdiv_eq_ediv_of_nonneg (by omega)]; omega
      have hr : (m : Int).tmod 2 = ((m % 2 : Nat) : Int) := by rw [Int.tmod_eq_emod_of_nonneg (by omega)]; omega
      rcases Nat.mod_two_eq_zero_or_one m with h2 | h2
      · have H2 := Hid.mk h2
        rw [h2] at hr
        clear h2
        go_wp2_with (go_at_call 179; refine (mul_any _ _ (by assumption) (by assumption) _).mono ?_; rintro e w' ⟨rfl, mm, rfl⟩)
        go_roundw
        case rel =>
          refine ⟨mu b b, m / 2, q, hbb, hq, by omega, rfl, rfl, rfl, ?_, Hq.out.drewN _⟩
          rw [pw_sq, show 2 * (m / 2) = m from by have := H2.out; omega]
          exact He.out
        case measure => simp [intOf]; omega
      · have H2 := Hid.mk h2
        rw [h2] at hr
        clear h2
        go_wp2_with (go_at_call 179; refine (mul_any _ _ (by assumption) (by assumption) _).mono ?_; rintro e w' ⟨rfl, mm, rfl⟩)
        go_roundw
        case rel =>
          refine ⟨mu b b, m / 2, mu q b, hbb, hqb, by omega, rfl, rfl, rfl, ?_, Hq.out.drewN _⟩
          have h3 : m = 2 * (m / 2) + 1 := by have := H2.out; omega
          have h4 : pw b m = mu (pw b (2 * (m / 2))) b := by rw [← pw]; exact congrArg (pw b) h3
          rw [pw_sq, mu_assoc, mu_comm b, ← h4]
          exact He.out
        case measure => simp [intOf]; omega

/-- What Pow answers: a number and an error. -/
def powN (a : Nat) (n : Int) : Nat := if n = 0 then 1 else if a = 0 then 0 else pw a (n % 255).toNat
def powE (a : Nat) (n : Int) : Int := if a = 0 ∧ n < 0 then 41 else 0
theorem powN_lt (a : Nat) (n : Int) : powN a n < 256 := by
  unfold powN; split
  · decide
  · split
    · decide
    · exact pw_lt _ _

theorem rest_eq (n : Int) : (n.tmod 255 + 255).tmod 255 = ((n % 255).toNat : Int) := by
  have h1 : n.tmod 255 = n - 255 * n.tdiv 255 := Int.tmod_def n 255
  have h2 : -255 < n.tmod 255 ∧ n.tmod 255 < 255 := by
    constructor
    · have := Int.lt_tmod_of_pos n (show (0 : Int) < 255 by decide); omega
    · exact Int.tmod_lt_of_pos n (by decide)
  rw [Int.tmod_eq_emod_of_nonneg (by omega)]
  omega
theorem rest_bounds (n : Int) : -255 < n.tmod 255 ∧ n.tmod 255 < 255 := by
  constructor
  · have := Int.lt_tmod_of_pos n (show (0 : Int) < 255 by decide); omega
  · exact Int.tmod_lt_of_pos n (by decide)

end Go.Proofs.YthhegomjipbdbaaGreatDoor.Py

namespace Go.Proofs.YthhegomjipbdbaaGreatDoor.Py
open Go.RowKit

theorem powN_inv (a : Nat) : powN a (-1) = iv a := by
  unfold powN iv
  rw [if_neg (by decide), show ((-1 : Int) % 255).toNat = 254 from by decide]
  split
  · rename_i h; subst h; exact iv_zero.symm
  · rfl
/-- The error of an inverse. -/
def dvE (b : Nat) : Int := if b = 0 then 41 else 0
theorem powE_inv (a : Nat) : powE a (-1) = dvE a := by
  unfold powE dvE; simp
theorem dvE_zero : dvE 0 = 41 := rfl
theorem dvE_pos {b : Nat} (h : b ≠ 0) : dvE b = 0 := if_neg h

/-- What alive says. -/
theorem alive_mul : mu 2 128 = 101 := by decide +kernel
theorem alive_iv : iv 2 = 178 := (iv_one (by decide) (by decide) (by decide) (by decide +kernel)).symm

end Go.Proofs.YthhegomjipbdbaaGreatDoor.Py

namespace Go.Proofs.YthhegomjipbdbaaGreatDoor.Py
open Go.RowKit

theorem Tryz.infoR : (Tryz.prog.info? 28).map (fun i => (i.zero, i.size, i.bytes)) = some (some (.slice none 0 0), 1, 24) := by kernel_rfl

/-- How long the rows are. -/
def rl (L : List (List Nat)) : Nat := (L.getD 0 []).length

/-- Whether all rows have so many. -/
def al (L : List (List Nat)) (m : Nat) : Bool := L.all fun r => decide (r.length = m)
theorem al_at {L : List (List Nat)} {m : Nat} (h : al L m = true) {i : Nat} (hi : i < L.length) : (L.getD i []).length = m := by
  unfold al at h
  rw [List.all_eq_true] at h
  have := h (L.getD i []) (by simp [hi])
  simpa using this
theorem al_of {L : List (List Nat)} {m : Nat} (h : ∀ i, i < L.length → (L.getD i []).length = m) : al L m = true := by
  unfold al
  rw [List.all_eq_true]
  intro r hr
  obtain ⟨i, hi, rfl⟩ := List.getElem_of_mem hr
  have := h i hi
  simpa [hi] using this
theorem al_no {L : List (List Nat)} {m i : Nat} (hi : i < L.length) (h : (L.getD i []).length ≠ m) : al L m = false := by
  cases e : al L m
  · rfl
  · exact absurd (al_at e hi) h

/-- A list of rows of which k stand. -/
def outC (bs : Nat → Nat) (wd k n : Nat) : List Value := (List.range n).map fun i => if i < k then .slice (some ⟨bs i, 0, none⟩) wd wd else .slice none 0 0
theorem outC_length (bs : Nat → Nat) (wd k n : Nat) : (outC bs wd k n).length = n := by simp [outC]
theorem outC_at (bs : Nat → Nat) (wd k n i : Nat) (h : i < n) : (outC bs wd k n)[i]? = some (if i < k then .slice (some ⟨bs i, 0, none⟩) wd wd else .slice none 0 0) := by simp [outC, h]
theorem outC_zero (bs : Nat → Nat) (wd n : Nat) : outC bs wd 0 n = List.replicate n (.slice none 0 0) := by
  apply List.ext_getElem?
  intro i
  by_cases h : i < n
  · rw [outC_at _ _ _ _ _ h, List.getElem?_replicate, if_pos h, if_neg (by omega)]
  · rw [List.getElem?_eq_none (by rw [outC_length]; omega), List.getElem?_eq_none (by rw [List.length_replicate]; omega)]
/-- One block more. -/
def nx (bs : Nat → Nat) (k b : Nat) : Nat → Nat := fun i => if i = k then b else bs i
theorem outC_set (bs : Nat → Nat) (wd k n b : Nat) : (outC bs wd k n).set k (.slice (some ⟨b, 0, none⟩) wd wd) = outC (nx bs k b) wd (k + 1) n := by
  apply List.ext_getElem?
  intro i
  by_cases h : i < n
  · rw [List.getElem?_set, outC_at _ _ _ _ _ h, outC_at _ _ _ _ _ h, outC_length]
    by_cases e : k = i
    · subst e; simp [h, nx]
    · rw [if_neg e]
      have h1 : (i < k) = (i < k + 1) := by apply propext; omega
      have h2 : nx bs k b i = bs i := if_neg (Ne.symm e)
      simp [h1, h2]
  · rw [List.getElem?_eq_none (by simp [outC_length]; omega), List.getElem?_eq_none (by simp [outC_length]; omega)]
theorem rg_none (wd : Nat) : (List.replicate wd (Value.int .u8 0)) = (rg (fun _ => 0) wd).map byt := by
  apply List.ext_getElem?
  intro i
  by_cases h : i < wd
  · rw [List.getElem?_replicate, if_pos h, List.getElem?_map, rg_at _ _ _ h]; rfl
  · rw [List.getElem?_eq_none (by simp; omega), List.getElem?_eq_none (by simp [rg_length]; omega)]

set_option maxHeartbeats 2000000 in
set_option maxRecDepth 1000000 in
theorem noughts_any (n wd : Nat) (w : World) (hn : n ≤ 256) (hw : wd ≤ 140737488355328) :
    Calls Tryz.prog 159 #[.int .i64 (n : Int), .int .i64 (wd : Int)] w fun e w' => ∃ bs, e = .returned (.slice (some ⟨w.heap.size, 0, none⟩) n n) ∧ Mt w' w.heap.size n bs wd (fun _ _ => 0) ∧ (∀ i, i < n → w.heap.size < bs i) ∧ Kept [] w w' := by
  obtain ⟨i0, hi, hz0, hz1, hz2⟩ := info_parts Tryz.info5
  obtain ⟨j0, gi, gz0, gz1, gz2⟩ := info_parts Tryz.infoR
  go_enter Tryz.func159, Tryz.ntmps159
  go_wp2_with (at_make; refine wpList_make_full _ rfl _ _ 103 rfl 0 28 j0 (.slice none 0 0) 1 Tryz.underlying103 gi gz0 gz1 _ _ _ _ n rfl rfl (by omega) (by omega) ?b2 ?b3 (by omega) ?_)
  case b2 => rw [gz2]; omega
  case b3 => unfold maxLen; omega
  intro w2 ho2 hg2
  have hk2 := Kept.of_grown hg2
  have hr2 := row_heap ho2 rfl
  rw [toList_madeCells_one] at hr2
  rw [← outC_zero (fun _ => 0) wd n] at hr2
  obtain ⟨G, hG⟩ : ∃ G, G = w.heap.size := ⟨_, rfl⟩
  rw [← hG] at hr2 ⊢
  have HG := Hid.mk hG
  have Hr2 := Hid.mk hr2
  have HK2 := Hid.mk hk2
  clear hG hr2 ho2 hg2 hk2 gi gz0 gz1 gz2
  go_wp2
  go_loopw [11] (fun i wr => ∃ (k : Nat) (bs : Nat → Nat), k ≤ n ∧ i = .int .i64 (k : Int) ∧ wr.heap[G]? = some (.cells (outC bs wd k n).toArray 28 (0, 0)) ∧ (∀ i, i < k → Row wr (bs i) (rg (fun _ => 0) wd)) ∧ (∀ i, i < k → G < bs i) ∧ (∀ i j, i < j → j < k → bs i < bs j) ∧ Kept [] w wr) (fun i _ => n - (intOf i).toNat)
  case atStart => exact ⟨0, fun _ => 0, by omega, rfl, Hr2.out, fun i h => by omega, fun i h => by omega, fun i j h1 h2 => by omega, HK2.out⟩
  case round =>
    obtain ⟨k, bs, hk, rfl, hout, hrows, hgt, hmon, hkr⟩ := hrel
    have Hout := Hid.mk hout
    have Hrows := Hid.mk hrows
    have Hgt := Hid.mk hgt
    have Hmon := Hid.mk hmon
    have Hkr := Hid.mk hkr
    clear hout hrows hgt hmon hkr
    by_cases hlt : k < n
    · go_wp2_with (at_make; refine wpList_make_full _ rfl _ _ 28 rfl 0 5 i0 (.int .u8 0) 1 Tryz.underlying28 hi hz0 hz1 _ _ _ _ wd rfl rfl (by omega) (by omega) ?b2 ?b3 (by omega) ?_)
      case b2 => rw [hz2]; omega
      case b3 => unfold maxLen; omega
      intro w3 ho3 hg3
      have hk3 := Kept.of_grown hg3
      have hr3 := row_heap ho3 rfl
      rw [toList_madeCells_one, rg_none] at hr3
      obtain ⟨b, hb⟩ : ∃ b, b = wr.heap.size := ⟨_, rfl⟩
      rw [← hb] at hr3 ⊢
      have hGb : G < b := by rw [hb]; exact lt_of_block Hout.out
      have hout3 := hk3.heap Hout.out (by simp)
      have hcell : w3.cell? ⟨G, k, none⟩ = some (.slice none 0 0) := by
        rw [cell_of_row _ _ _ _ _ _ hout3, List.getElem?_toArray, outC_at _ _ _ _ _ hlt, if_neg (by omega)]
      have hfz : w3.frozen? ⟨G, k, none⟩ = false := by simp [World.frozen?, hout3]
      have Hout3 := Hid.mk hout3
      have Hr3 : Hid (Row w3 b (rg (fun _ => 0) wd)) := Hid.mk hr3
      have Hrows3 := Hid.mk (fun i hi => (Hrows.out i hi).keep hk3 (by simp))
      have Hlt : Hid (∀ i, i < k → bs i < b) := Hid.mk (fun i hi => by rw [hb]; exact (Hrows.out i hi).lt)
      have Hkr3 := Hid.mk (Hkr.out.trans hk3)
      clear hout3 hr3 hb ho3 hg3 hk3
      have ix : (k : Int) < (n : Int) := by omega
      go_wp2
      go_roundw
      case rel =>
        have hset : Kept [G] w3 (w3.setCell ⟨G, k, none⟩ (.slice (some ⟨b, 0, none⟩) wd wd)) := (Kept.refl [G] w3).setCell (p := ⟨G, k, none⟩) (.inl (by simp)) _
        refine ⟨k + 1, nx bs k b, by omega, by go_num, ?_, fun i hi => ?_, fun i hi => ?_, fun i j h1 h2 => ?_, Hkr3.out.setCell (p := ⟨G, k, none⟩) (.inr (by rw [HG.out]; exact Nat.le_refl _)) _⟩
        · rw [heap_setCell_at Hout3.out, List.setIfInBounds_toArray, outC_set]
        · by_cases e : i = k
          · subst e
            rw [show nx bs i b i = b from if_pos rfl]
            exact Hr3.out.keep hset (by simp; omega)
          · rw [show nx bs k b i = bs i from if_neg e]
            exact (Hrows3.out i (by omega)).keep hset (by have := Hgt.out i (by omega); simp; omega)
        · by_cases e : i = k
          · subst e; rw [show nx bs i b i = b from if_pos rfl]; exact hGb
          · rw [show nx bs k b i = bs i from if_neg e]; exact Hgt.out i (by omega)
        · rw [show nx bs k b i = bs i from if_neg (by omega)]
          by_cases e : j = k
          · subst e; rw [show nx bs j b j = b from if_pos rfl]; exact Hlt.out i h1
          · rw [show nx bs k b j = bs j from if_neg e]; exact Hmon.out i j h1 (by omega)
      case measure => simp [intOf]; omega
    · obtain rfl : k = n := by omega
      go_wp2
      go_ret
      refine ⟨bs, by rw [← HG.out]; rfl, ⟨fun i hi => ?_, fun i hi => ?_, Hrows.out, fun i hi => ?_, fun i j hi hj e => ?_⟩, fun i hi => by have := Hgt.out i hi; have := HG.out; omega, Hkr.out⟩
      · rw [← HG.out, cell_of_row _ _ _ _ _ _ Hout.out, List.getElem?_toArray, outC_at _ _ _ _ _ hi, if_pos hi]
      · have := Hout.out
        rw [← HG.out]
        simp [World.frozen?, this]
      · have := Hgt.out i hi
        have := HG.out
        omega
      · rcases Nat.lt_trichotomy i j with h | h | h
        · have := Hmon.out i j h hj; omega
        · exact h
        · have := Hmon.out j i h hi; omega
end Go.Proofs.YthhegomjipbdbaaGreatDoor.Py

namespace Go.Proofs.YthhegomjipbdbaaGreatDoor.Py
open Go.RowKit

/-- Cauchy's elements. -/
def cf (i j : Nat) : Nat := iv ((255 - i) ^^^ j)
theorem cf_lo : Lo cf := fun _ _ => iv_lt _
/-- Of which sizes there is none. -/
def Bad (n k : Int) : Prop := n < 1 ∨ k < 1 ∨ 256 < n + k

set_option maxHeartbeats 2000000 in
set_option maxRecDepth 1000000 in
theorem cauchy_no (n k : Int) (w : World) (hb : Bad n k) (hn : -9223372036854775808 ≤ n ∧ n ≤ 9223372036854775807) (hk : -9223372036854775808 ≤ k ∧ k ≤ 9223372036854775807) :
    Calls Tryz.prog 137 #[.int .i64 n, .int .i64 k] w fun e w' => e = .returned (.tuple #[.slice none 0 0, .int .i64 42]) ∧ w' = w := by
  unfold Bad at hb
  by_cases h1 : n < 1
  · go_enter Tryz.func137, Tryz.ntmps137
    go_wp2
    go_ret2
    exact ⟨rfl, rfl⟩
  · by_cases h2 : k < 1
    · go_enter Tryz.func137, Tryz.ntmps137
      go_wp2
      go_ret2
      exact ⟨rfl, rfl⟩
    · have h3 : 256 - k < n := by omega
      go_enter Tryz.func137, Tryz.ntmps137
      go_wp2
      go_ret2
      exact ⟨rfl, rfl⟩

set_option maxHeartbeats 4000000 in
set_option maxRecDepth 1000000 in
theorem cauchy_ok (n k : Nat) (w : World) (h1 : 1 ≤ n) (h2 : 1 ≤ k) (h3 : n + k ≤ 256) :
    Calls Tryz.prog 137 #[.int .i64 (n : Int), .int .i64 (k : Int)] w fun e w' => ∃ g bs, e = .returned (.tuple #[.slice (some ⟨g, 0, none⟩) n n, .int .i64 0]) ∧ Mt w' g n bs k cf ∧ w.heap.size ≤ g ∧ (∀ i, i < n → w.heap.size ≤ bs i) ∧ Kept [] w w' := by
  have d1 : decide ((n : Int) < 1) = false := by simp; omega
  have d2 : decide ((k : Int) < 1) = false := by simp; omega
  have d3 : decide ((256 : Int) - (k : Int) < (n : Int)) = false := by simp; omega
  go_enter Tryz.func137, Tryz.ntmps137
  go_wp2_with (fail)
  refine (noughts_any n k w (by omega) (by omega)).mono ?_
  rintro e w2 ⟨bs, rfl, hM, hbs, hk2⟩
  obtain ⟨G, eG⟩ : ∃ G, G = w.heap.size := ⟨_, rfl⟩
  rw [← eG] at hM hbs ⊢
  have HM := Hid.mk (hM.congr (G := fun i j => if i < 0 then cf i j else 0) (fun i _ j _ => if_neg (by omega)))
  have HB := Hid.mk hbs
  have HK2 := Hid.mk hk2
  have EG := Hid.mk eG
  clear hM hbs hk2 eG
  go_wp2
  go_loopw [27] (fun s wr => ∃ i : Nat, i ≤ n ∧ s = .int .i64 (i : Int) ∧ Mt wr G n bs k (fun a j => if a < i then cf a j else 0) ∧ Kept [] w wr) (fun s _ => n - (intOf s).toNat)
  case atStart => exact ⟨0, by omega, rfl, HM.out, HK2.out⟩
  case round =>
    obtain ⟨i, hi, rfl, hm, hkr⟩ := hrel
    clear HM HK2
    by_cases hlt : i < n
    · have hout := hm.out i hlt
      have Hm := Hid.mk hm
      have Hkr := Hid.mk hkr
      have R0 : Hid (Row wr (bs i) (rg (upt 0 (fun _ => 0) (cf i)) k)) := Hid.mk (by
        have := hm.row i hlt
        rw [rg_congr (q := fun _ => 0) (fun j _ => if_neg (by omega))] at this
        rw [upt_zero]; exact this)
      clear hm hkr
      have ix : (i : Int) < (n : Int) := by omega
      obtain ⟨a, ha⟩ : ∃ a, a = 255 - i := ⟨_, rfl⟩
      have hai : (255 : Int) - (i : Int) = (a : Int) := by omega
      have hal : a < 256 := by omega
      have Hcf : Hid (∀ j, cf i j = iv (a ^^^ j)) := Hid.mk (fun j => by rw [ha]; rfl)
      clear ha
      go_wp2
      clear hout
      go_loopw [34] (fun s wx => ∃ j : Nat, j ≤ k ∧ s = .int .i64 (j : Int) ∧ Row wx (bs i) (rg (upt j (fun _ => 0) (cf i)) k) ∧ Kept [bs i] wr wx) (fun s _ => k - (intOf s).toNat)
      case atStart => exact ⟨0, by omega, rfl, R0.out, Kept.refl _ _⟩
      case round =>
        obtain ⟨j, hj, rfl, hrow, hkx⟩ := hrel
        by_cases hjt : j < k
        · have hxl := xor_lt hal (show j < 256 by omega)
          have hx := u8_xor_nat a j hal (by omega)
          have C0 := Hid.mk (fun w => power_any (a ^^^ j) 254 hxl (by decide) w)
          rw [show pw (a ^^^ j) 254 = iv (a ^^^ j) from rfl, ← Hcf.out j] at C0
          have hcell := hrow.at (j := j) (by rw [rg_length]; exact hjt)
          rw [rg_getD _ _ _ hjt, upt_at] at hcell
          have hfz := hrow.fz j
          have Hrow := Hid.mk hrow
          have Hkx := Hid.mk hkx
          obtain ⟨v, ev⟩ : ∃ v, v = cf i j := ⟨_, rfl⟩
          have EV := Hid.mk ev
          rw [← ev] at C0
          obtain ⟨x, ex⟩ : ∃ x, x = a ^^^ j := ⟨_, rfl⟩
          rw [← ex] at C0 hx hxl
          clear ev ex hrow hkx
          have jx : (j : Int) < (k : Int) := by omega
          go_wp2_with (go_at_call 160; refine (C0.out _).mono ?_; rintro e w3 ⟨rfl, m3, rfl⟩)
          go_roundw
          case rel =>
            refine ⟨j + 1, by omega, by go_num, ?_, (Hkx.out.drewN _).setCell (p := ⟨bs i, j, none⟩) (.inl (by simp)) _⟩
            exact (Hrow.out.keep ((Kept.refl [] _).drewN m3) (by simp)).set (q := cf i) (by rw [← EV.out]; rfl)
          case measure => simp [intOf]; omega
        · obtain rfl : j = k := by omega
          rw [upt_full] at hrow
          have Hm2 := Hid.mk (Hm.out.upd (G := fun a c => if a < i + 1 then cf a c else 0) hlt hkx (by rw [rg_congr (q := cf i) (fun c _ => if_pos (by omega))]; exact hrow) (fun i' _ hn c _ => by
            by_cases h : i' < i
            · rw [if_pos (by omega), if_pos h]
            · rw [if_neg (by omega), if_neg h]))
          have Hk2 := Hid.mk (Hkr.out.step hkx (fun x hx => by simp at hx; subst hx; right; have := HB.out i hlt; have := EG.out; omega))
          clear hrow hkx Hm Hkr
          go_wp2
          go_roundw
          case rel => exact ⟨i + 1, by omega, by go_num, Hm2.out, Hk2.out⟩
          case measure => simp [intOf]; omega
    · obtain rfl : i = n := by omega
      have Hm := Hid.mk hm
      have Hkr := Hid.mk hkr
      clear hm hkr
      go_wp2
      go_ret2
      refine ⟨G, bs, rfl, Hm.out.congr (fun i hi j _ => (if_pos hi).symm), by rw [EG.out]; exact Nat.le_refl _, fun i hi => by have := HB.out i hi; have := EG.out; omega, Hkr.out⟩
end Go.Proofs.YthhegomjipbdbaaGreatDoor.Py
