import Derived.Test.YtbhhkcgicajlcaaGreatDoorWZ
import Derived.Test.YtbhhkcgicajlcaaGreatDoorNZ
import Derived.Test.YtbhhkcgicajlcaaGreatDoorLZ
import Derived.Test.YtbhhkcgicajlcaaGreatDooryN1Z
import Derived.WalkKit
import Derived.WalkSpells
import Derived.WalkLawsBesides
import Derived.Maps.AppendAt
import Derived.Deep.RegionHeld3
import Derived.Deep.RegionWith
import Derived.Deep.DeepCutAuto
import Derived.Deep.QuietTactic
import Derived.BigQuiet
import Derived.Laws.CopyOwn
import Derived.Laws.OwnMore
namespace Go.Proofs.YtbhhkcgicajlcaaGreatDoor.Py
open Go.RowKit

/-- What is told of a slice of bytes that came in. -/
def IsRow (k : IntKind) (w : World) (a : Option Addr) (len cap : Nat) (zs : List Int) : Prop :=
  (a = none ∧ len = 0 ∧ cap = 0 ∧ zs = []) ∨
  ∃ x, a = some x ∧ len ≤ cap ∧ cap ≤ maxLen ∧ zs.length = cap ∧ (∀ i, i < zs.length → w.cell? (x.add i) = some (.int k (zs.getD i 0))) ∧ ∀ n ∈ zs, (Lit.int k n).wf = true

theorem isRow_reads {w : World} {a : Option Addr} {len cap : Nat} {zs : List Int} (h : IsRow .u8 w a len cap zs) : ∃ l, l.length = len ∧ Byts l ∧ Reads w a l ∧ len ≤ 9223372036854775807 := by
  rcases h with ⟨rfl, rfl, rfl, rfl⟩ | ⟨x, rfl, hl, hm, hz, hc, hw⟩
  · exact ⟨[], rfl, by simp [Byts], .inl rfl, by decide⟩
  · have hwf : ∀ n ∈ zs, 0 ≤ n ∧ n < 256 := fun n hn => by
      have := hw n hn
      simp [Lit.wf] at this
      have h1 : IntKind.u8.min = 0 := by decide
      have h2 : IntKind.u8.max = 255 := by decide
      omega
    refine ⟨(zs.take len).map Int.toNat, by simp; omega, ?_, ?_, by unfold maxLen at hm; omega⟩
    · intro b hb
      simp only [List.mem_map] at hb
      obtain ⟨z, hz1, rfl⟩ := hb
      have := hwf z (List.mem_of_mem_take hz1)
      omega
    · by_cases h0 : len = 0
      · subst h0; exact .inl (by simp)
      · right
        obtain ⟨b, off, spot⟩ := x
        have hc0 := hc 0 (by omega)
        have hspot : spot = none := by simpa [Addr.add] using World.cell?_spot hc0
        subst hspot
        refine ⟨b, off, rfl, fun i hi => ?_⟩
        have hil : i < len := by simp at hi; omega
        have h1 := hc i (by omega)
        have hadd : (⟨b, off, none⟩ : Addr).add i = ⟨b, off + i, none⟩ := by unfold Addr.add; split <;> simp_all
        rw [hadd] at h1
        rw [h1]
        have hiz : i < zs.length := by omega
        have := hwf zs[i] (List.getElem_mem hiz)
        simp [byt, hiz, hil]
        omega

theorem row_at {w : World} {g e : Nat} {X : List Nat} (h : w.heap[g]? = some (.cells (X.map byt).toArray e (0, 0))) (j : Nat) (hj : j < X.length) : w.cell? ⟨g, j, none⟩ = some (byt (X.getD j 0)) := by
  simp [World.cell?, h, hj]

end Go.Proofs.YtbhhkcgicajlcaaGreatDoor.Py

namespace Go.Proofs.YtbhhkcgicajlcaaGreatDoor.Py
open Go.RowKit

/-- Nothing but draws. -/
def Qt (w w' : World) : Prop := ∃ m, w' = w.drewN m
theorem Qt.refl (w : World) : Qt w w := ⟨0, rfl⟩
theorem Qt.drewN {a w : World} (h : Qt a w) (n : Nat) : Qt a (w.drewN n) := by
  obtain ⟨m, rfl⟩ := h
  exact ⟨m + n, by rw [World.drewN_drewN]⟩
theorem Qt.kept {w w' : World} (h : Qt w w') (l : List Nat) : Kept l w w' := by
  obtain ⟨m, rfl⟩ := h
  exact (Kept.refl l w).drewN m

theorem ret2 {k j : IntKind} {a b c d : Int} (h : a = b) (h2 : c = d) : Ending.returned (.tuple #[.int k a, .int j c]) = .returned (.tuple #[.int k b, .int j d]) := by rw [h, h2]

/-- Times x, of numbers. -/
def t2 (a : Nat) : Nat := if a < 128 then 2 * a else (2 * a - 256) ^^^ 0x65

theorem t2_all : ∀ a : Fin 256, (tx (el a.val)).toNat = t2 a.val := by decide +kernel
theorem t2_lt {a : Nat} (h : a < 256) : t2 a < 256 := by
  rw [← t2_all ⟨a, h⟩]; exact (tx _).isLt

theorem t2_hi (a : Nat) (h : a < 256) (h1 : 128 ≤ a) : bits BinOp.xor IntKind.u8 ((a : Int) * 2 % 256) 101 = (t2 a : Int) := by
  have e : ((a : Int) * 2 % 256) = ((2 * a - 256 : Nat) : Int) := by omega
  rw [e]
  have := u8_xor_nat (2 * a - 256) 101 (by omega) (by decide)
  rw [show ((101 : Nat) : Int) = 101 from rfl] at this
  rw [this]
  unfold t2
  rw [if_neg (by omega)]
theorem t2_lo (a : Nat) (h1 : a < 128) : bits BinOp.xor IntKind.u8 ((a : Int) * 2) 0 = (t2 a : Int) := by
  have e : ((a : Int) * 2) = ((2 * a : Nat) : Int) := by omega
  rw [e]
  have := u8_xor_nat (2 * a) 0 (by omega) (by decide)
  rw [show ((0 : Nat) : Int) = 0 from rfl] at this
  rw [this, Nat.xor_zero]
  unfold t2
  rw [if_pos h1]

set_option maxHeartbeats 400000 in
theorem timesX_any (a : Nat) (ha : a < 256) (w : World) :
    Calls Tryz.prog 168 #[.int .u8 (a : Int)] w fun e w' => e = .returned (.int .u8 (t2 a : Int)) ∧ w' = w := by
  by_cases h : 128 ≤ a
  · have hd : (a : Int) / 128 = 1 := by omega
    have hx := t2_hi a ha h
    go_enter Tryz.func168, Tryz.ntmps168
    go_wp2
    go_ret
    exact ⟨rfl, rfl⟩
  · have hd : (a : Int) / 128 = 0 := by omega
    have hx := t2_lo a (by omega)
    have hx2 := t2_lo a (by omega)
    rw [show (a : Int) * 2 = (a : Int) * 2 % 256 from by omega] at hx2
    go_enter Tryz.func168, Tryz.ntmps168
    go_wp2
    go_ret
    exact ⟨rfl, rfl⟩
end Go.Proofs.YtbhhkcgicajlcaaGreatDoor.Py

namespace Go.Proofs.YtbhhkcgicajlcaaGreatDoor.Py
open Go.RowKit

theorem xor_u8 (x : Int) (h0 : 0 ≤ x) (h1 : x < 256) : bits BinOp.xor IntKind.u8 x 90 = ((x.toNat ^^^ 90 : Nat) : Int) := by
  have := u8_xor x 90 h0 h1 (by decide) (by decide)
  exact this

end Go.Proofs.YtbhhkcgicajlcaaGreatDoor.Py

namespace Go.Proofs.YtbhhkcgicajlcaaGreatDoor.Py
open Go.RowKit

theorem _root_.Go.Proofs.YtbhhkcgicajlcaaGreatDoor.Reads.take {w : World} {ao : Option Addr} {l : List Nat} (h : Reads w ao l) (n : Nat) : Reads w ao (l.take n) := by
  rcases h with rfl | ⟨g, off, rfl, hc⟩
  · exact .inl (by simp)
  · refine .inr ⟨g, off, rfl, fun i hi => ?_⟩
    have hi2 : i < n ∧ i < l.length := by simp at hi; omega
    rw [hc i hi2.2]
    simp [hi2.1, hi2.2]
theorem _root_.Go.Proofs.YtbhhkcgicajlcaaGreatDoor.Byts.take {l : List Nat} (h : Byts l) (n : Nat) : Byts (l.take n) := fun b hb => h b (List.mem_of_mem_take hb)
theorem _root_.Go.Proofs.YtbhhkcgicajlcaaGreatDoor.Byts.app {l k : List Nat} (h : Byts l) (h2 : Byts k) : Byts (l ++ k) := fun b hb => (List.mem_append.1 hb).elim (h b) (h2 b)
theorem _root_.Go.Proofs.YtbhhkcgicajlcaaGreatDoor.Byts.left {l k : List Nat} (h : Byts (l ++ k)) : Byts l := fun b hb => h b (List.mem_append.2 (.inl hb))
theorem heap_row {w : World} {N : Nat} {l : List Nat} (h : w.heap[N]? = some (.cells (l.map byt).toArray 5 (0, 0))) : Reads w (some ⟨N, 0, none⟩) l := by
  refine .inr ⟨N, 0, rfl, fun i hi => ?_⟩
  rw [cell_of_row _ _ _ _ _ _ h]
  simp [hi]
theorem heap_left {w : World} {N : Nat} {l k : List Nat} (h : w.heap[N]? = some (.cells ((l ++ k).map byt).toArray 5 (0, 0))) : Reads w (some ⟨N, 0, none⟩) l := by
  have h1 := (heap_row h).take l.length
  rwa [List.take_left'] at h1
  rfl
theorem _root_.Go.Proofs.YtbhhkcgicajlcaaGreatDoor.Reads.lt {w : World} {ao : Option Addr} {l : List Nat} (h : Reads w ao l) (hp : 0 < l.length) : ∀ b off, ao = some ⟨b, off, none⟩ → b < w.heap.size := by
  rcases h with rfl | ⟨g, off, rfl, hc⟩
  · simp at hp
  · intro b off2 e
    cases e
    exact World.block_lt_of_cell? w _ (hc 0 hp)
theorem _root_.Go.Proofs.YtbhhkcgicajlcaaGreatDoor.Reads.stay {w w' : World} {ao : Option Addr} {l ks : List Nat} (h : Reads w ao l) (hk : Kept ks w w') (hn : 0 < l.length → ∀ g off, ao = some ⟨g, off, none⟩ → g ∉ ks) : Reads w' ao l := by
  by_cases h0 : 0 < l.length
  · exact h.kept hk (hn h0)
  · exact .inl (List.eq_nil_of_length_eq_zero (by omega))
/-- What the owner writes over a list. -/
def x90 (l : List Nat) : List Nat := l.map (· ^^^ 90)
theorem x90_length (l : List Nat) : (x90 l).length = l.length := by simp [x90]
theorem x90_app (l k : List Nat) : (l ++ k).map (· ^^^ 90) = x90 l ++ x90 k := by simp [x90]
theorem x90_byts {l : List Nat} (h : Byts l) : Byts (x90 l) := by
  intro b hb
  simp only [x90, List.mem_map] at hb
  obtain ⟨y, hy, rfl⟩ := hb
  exact xor_lt (h y hy) (by decide)
end Go.Proofs.YtbhhkcgicajlcaaGreatDoor.Py

namespace Go.Proofs.YtbhhkcgicajlcaaGreatDoor.Py
open Go.RowKit

/-- A row of n elements. -/
def rg (p : Nat → Nat) (n : Nat) : List Nat := (List.range n).map p
theorem rg_length (p : Nat → Nat) (n : Nat) : (rg p n).length = n := by simp [rg]
theorem rg_at (p : Nat → Nat) (n j : Nat) (h : j < n) : (rg p n)[j]? = some (p j) := by simp [rg, h]
theorem rg_getD (p : Nat → Nat) (n j : Nat) (h : j < n) : (rg p n).getD j 0 = p j := by rw [List.getD_eq_getElem?_getD, rg_at _ _ _ h]; rfl
theorem rg_congr {p q : Nat → Nat} {n : Nat} (h : ∀ j, j < n → p j = q j) : rg p n = rg q n := by
  apply List.ext_getElem?
  intro j
  by_cases hj : j < n
  · rw [rg_at _ _ _ hj, rg_at _ _ _ hj, h j hj]
  · rw [List.getElem?_eq_none (by rw [rg_length]; omega), List.getElem?_eq_none (by rw [rg_length]; omega)]
theorem rg_byts {p : Nat → Nat} {n : Nat} (h : ∀ j, j < n → p j < 256) : Byts (rg p n) := by
  intro b hb
  simp only [rg, List.mem_map, List.mem_range] at hb
  obtain ⟨j, hj, rfl⟩ := hb
  exact h j hj
theorem rg_of (l : List Nat) : rg (fun j => l.getD j 0) l.length = l := by
  apply List.ext_getElem?
  intro j
  by_cases hj : j < l.length
  · rw [rg_at _ _ _ hj]; simp [hj]
  · rw [List.getElem?_eq_none (by rw [rg_length]; omega), List.getElem?_eq_none (by omega)]

/-- Changed as far as k. -/
def upt (k : Nat) (p q : Nat → Nat) : Nat → Nat := fun j => if j < k then q j else p j
theorem upt_zero (p q : Nat → Nat) (n : Nat) : rg (upt 0 p q) n = rg p n := rg_congr fun _ _ => if_neg (by omega)
theorem upt_full (p q : Nat → Nat) (n : Nat) : rg (upt n p q) n = rg q n := rg_congr fun _ hj => if_pos hj
theorem upt_at (k : Nat) (p q : Nat → Nat) : upt k p q k = p k := if_neg (by omega)
theorem upt_set (k n : Nat) (p q : Nat → Nat) : ((rg (upt k p q) n).map byt).set k (byt (q k)) = (rg (upt (k + 1) p q) n).map byt := by
  rw [← List.map_set]
  congr 1
  apply List.ext_getElem?
  intro j
  by_cases hj : j < n
  · rw [List.getElem?_set, rg_at _ _ _ hj, rg_at _ _ _ hj, rg_length]
    by_cases e : k = j
    · subst e; simp [hj, upt]
    · rw [if_neg e]
      have : (j < k) = (j < k + 1) := by apply propext; omega
      simp [upt, this]
  · rw [List.getElem?_eq_none (by simp [rg_length]; omega), List.getElem?_eq_none (by simp [rg_length]; omega)]

/-- A row that lies in a block of its own. -/
def Row (w : World) (b : Nat) (l : List Nat) : Prop := w.heap[b]? = some (.cells (l.map byt).toArray 5 (0, 0))
theorem Row.keep {w w' : World} {b : Nat} {l ks : List Nat} (h : Row w b l) (hk : Kept ks w w') (hn : b ∉ ks) : Row w' b l := hk.heap h hn
theorem Row.lt {w : World} {b : Nat} {l : List Nat} (h : Row w b l) : b < w.heap.size := lt_of_block h
theorem Row.reads {w : World} {b : Nat} {l : List Nat} (h : Row w b l) : Reads w (some ⟨b, 0, none⟩) l := heap_row h
theorem Row.at {w : World} {b : Nat} {l : List Nat} (h : Row w b l) {j : Nat} (hj : j < l.length) : w.cell? ⟨b, j, none⟩ = some (.int .u8 (l.getD j 0 : Nat)) := row_at h j hj
theorem Row.fz {w : World} {b : Nat} {l : List Nat} (h : Row w b l) (j : Nat) : w.frozen? ⟨b, j, none⟩ = false := by
  unfold Row at h
  simp [World.frozen?, h]
theorem Row.set {w : World} {b : Nat} {p q : Nat → Nat} {n k : Nat} (h : Row w b (rg (upt k p q) n)) {u : Value} (hu : u = byt (q k)) : Row (w.setCell ⟨b, k, none⟩ u) b (rg (upt (k + 1) p q) n) := by
  subst hu
  unfold Row at h ⊢
  rw [heap_setCell_at h, List.setIfInBounds_toArray, upt_set k n p q]

/-- A matrix in memory of its own: its list in the block g, its rows in blocks. -/
structure Mt (w : World) (g n : Nat) (bs : Nat → Nat) (wd : Nat) (F : Nat → Nat → Nat) : Prop where
  out : ∀ i, i < n → w.cell? ⟨g, i, none⟩ = some (.slice (some ⟨bs i, 0, none⟩) wd wd)
  fz : ∀ i, i < n → w.frozen? ⟨g, i, none⟩ = false
  row : ∀ i, i < n → Row w (bs i) (rg (F i) wd)
  ne : ∀ i, i < n → bs i ≠ g
  inj : ∀ i j, i < n → j < n → bs i = bs j → i = j

theorem cell_keep {w w' : World} {ks : List Nat} (hk : Kept ks w w') {g o : Nat} {v : Value} (h : w.cell? ⟨g, o, none⟩ = some v) (hn : g ∉ ks) : w'.cell? ⟨g, o, none⟩ = some v :=
  (World.cell?_of_block (a := ⟨g, o, none⟩) (hk.block g (World.block_lt_of_cell? w _ h) hn)).trans h
theorem fz_keep {w w' : World} {ks : List Nat} (hk : Kept ks w w') {g o : Nat} {v : Value} (h : w.cell? ⟨g, o, none⟩ = some v) (hf : w.frozen? ⟨g, o, none⟩ = false) (hn : g ∉ ks) : w'.frozen? ⟨g, o, none⟩ = false := by
  have := hk.block g (World.block_lt_of_cell? w _ h) hn
  unfold World.frozen? at hf ⊢
  simp only [this]
  exact hf

theorem Mt.lt {w : World} {g n : Nat} {bs : Nat → Nat} {wd : Nat} {F : Nat → Nat → Nat} (h : Mt w g n bs wd F) {i : Nat} (hi : i < n) : bs i < w.heap.size := (h.row i hi).lt
theorem Mt.glt {w : World} {g n : Nat} {bs : Nat → Nat} {wd : Nat} {F : Nat → Nat → Nat} (h : Mt w g n bs wd F) (hn : 0 < n) : g < w.heap.size := World.block_lt_of_cell? w _ (h.out 0 hn)

theorem Mt.keep {w w' : World} {g n : Nat} {bs : Nat → Nat} {wd : Nat} {F : Nat → Nat → Nat} {ks : List Nat} (h : Mt w g n bs wd F) (hk : Kept ks w w') (h1 : 0 < n → g ∉ ks) (h2 : ∀ i, i < n → bs i ∉ ks) : Mt w' g n bs wd F :=
  ⟨fun i hi => cell_keep hk (h.out i hi) (h1 (by omega)), fun i hi => fz_keep hk (h.out i hi) (h.fz i hi) (h1 (by omega)), fun i hi => (h.row i hi).keep hk (h2 i hi), h.ne, h.inj⟩

theorem Mt.keep0 {w w' : World} {g n : Nat} {bs : Nat → Nat} {wd : Nat} {F : Nat → Nat → Nat} (h : Mt w g n bs wd F) (hk : Kept [] w w') : Mt w' g n bs wd F := h.keep hk (by simp) (by simp)

/-- One row changed. -/
theorem Mt.upd {w w' : World} {g n : Nat} {bs : Nat → Nat} {wd : Nat} {F G : Nat → Nat → Nat} {k : Nat} (h : Mt w g n bs wd F) (hk : k < n) (hw : Kept [bs k] w w') (hr : Row w' (bs k) (rg (G k) wd))
    (hF : ∀ i, i < n → i ≠ k → ∀ j, j < wd → G i j = F i j) : Mt w' g n bs wd G := by
  have hg : g ∉ [bs k] := by simpa using (h.ne k hk).symm
  refine ⟨fun i hi => cell_keep hw (h.out i hi) hg, fun i hi => fz_keep hw (h.out i hi) (h.fz i hi) hg, fun i hi => ?_, h.ne, h.inj⟩
  by_cases e : i = k
  · subst e; exact hr
  · rw [rg_congr (hF i hi e)]
    exact (h.row i hi).keep hw (by simpa using fun e2 => e (h.inj i k hi hk e2))
theorem Mt.congr {w : World} {g n : Nat} {bs : Nat → Nat} {wd : Nat} {F G : Nat → Nat → Nat} (h : Mt w g n bs wd F) (hF : ∀ i, i < n → ∀ j, j < wd → G i j = F i j) : Mt w g n bs wd G :=
  ⟨h.out, h.fz, fun i hi => by rw [rg_congr (hF i hi)]; exact h.row i hi, h.ne, h.inj⟩

theorem _root_.Go.Proofs.YtbhhkcgicajlcaaGreatDoor.Reads.cell {w : World} {ao : Option Addr} {l : List Nat} (h : Reads w ao l) {j : Nat} (hj : j < l.length) : ∃ g off, ao = some ⟨g, off, none⟩ ∧ w.cell? ⟨g, off + j, none⟩ = some (.int .u8 (l.getD j 0 : Nat)) := by
  rcases h with h | ⟨g, off, h, hc⟩
  · subst h; simp at hj
  · exact ⟨g, off, h, hc j hj⟩

/-- A matrix that is read: its rows' lists. -/
def MR (w : World) (ao : Option Addr) (L : List (List Nat)) : Prop :=
  L = [] ∨ ∃ g off, ao = some ⟨g, off, none⟩ ∧ ∀ i, i < L.length → ∃ bo cap, w.cell? ⟨g, off + i, none⟩ = some (.slice bo (L.getD i []).length cap) ∧ Reads w bo (L.getD i [])
/-- All rows are bytes. -/
def Bm (L : List (List Nat)) : Prop := ∀ r ∈ L, Byts r
theorem Bm.at {L : List (List Nat)} (h : Bm L) (i : Nat) : Byts (L.getD i []) := by
  rw [List.getD_eq_getElem?_getD]
  rcases e : L[i]? with _ | x
  · simp [Byts]
  · exact h x (List.mem_of_getElem? e)
theorem MR.keep {w w' : World} {ao : Option Addr} {L : List (List Nat)} (h : MR w ao L) (hk : Kept [] w w') : MR w' ao L := by
  rcases h with h | ⟨g, off, rfl, hc⟩
  · exact .inl h
  · refine .inr ⟨g, off, rfl, fun i hi => ?_⟩
    obtain ⟨bo, cap, h1, h2⟩ := hc i hi
    exact ⟨bo, cap, cell_keep hk h1 (by simp), h2.keep hk⟩
theorem MR.at {w : World} {ao : Option Addr} {L : List (List Nat)} (h : MR w ao L) {i : Nat} (hi : i < L.length) :
    ∃ g off bo cap, ao = some ⟨g, off, none⟩ ∧ w.cell? ⟨g, off + i, none⟩ = some (.slice bo (L.getD i []).length cap) ∧ Reads w bo (L.getD i []) := by
  rcases h with h | ⟨g, off, h, hc⟩
  · subst h; simp at hi
  · obtain ⟨bo, cap, h1, h2⟩ := hc i hi
    exact ⟨g, off, bo, cap, h, h1, h2⟩

/-- The rows of a function. -/
def mf (F : Nat → Nat → Nat) (n wd : Nat) : List (List Nat) := (List.range n).map fun i => rg (F i) wd
theorem mf_length (F : Nat → Nat → Nat) (n wd : Nat) : (mf F n wd).length = n := by simp [mf]
theorem mf_getD (F : Nat → Nat → Nat) (n wd i : Nat) (h : i < n) : (mf F n wd).getD i [] = rg (F i) wd := by simp [mf, h]
theorem mf_bm {F : Nat → Nat → Nat} {n wd : Nat} (h : ∀ i j, i < n → j < wd → F i j < 256) : Bm (mf F n wd) := by
  intro r hr
  simp only [mf, List.mem_map, List.mem_range] at hr
  obtain ⟨i, hi, rfl⟩ := hr
  exact rg_byts fun j hj => h i j hi hj
theorem mf_congr {F G : Nat → Nat → Nat} {n wd : Nat} (h : ∀ i j, i < n → j < wd → F i j = G i j) : mf F n wd = mf G n wd := by
  unfold mf
  apply List.map_congr_left
  intro i hi
  exact rg_congr fun j hj => h i j (by simpa using hi) hj
theorem Mt.reads {w : World} {g n : Nat} {bs : Nat → Nat} {wd : Nat} {F : Nat → Nat → Nat} (h : Mt w g n bs wd F) : MR w (some ⟨g, 0, none⟩) (mf F n wd) := by
  refine .inr ⟨g, 0, rfl, fun i hi => ?_⟩
  rw [mf_length] at hi
  rw [mf_getD _ _ _ _ hi, rg_length, Nat.zero_add]
  exact ⟨_, _, h.out i hi, (h.row i hi).reads⟩

/-- A matrix' elements. -/
def fn (L : List (List Nat)) (i j : Nat) : Nat := (L.getD i []).getD j 0
theorem fn_lt {L : List (List Nat)} (h : Bm L) (i j : Nat) : fn L i j < 256 := getD_lt _ j (h.at i)
theorem fn_rg {L : List (List Nat)} {i wd : Nat} (h : (L.getD i []).length = wd) : rg (fn L i) wd = L.getD i [] := by
  subst h; exact rg_of _
theorem fn_mf {L : List (List Nat)} {n wd : Nat} (hn : L.length = n) (h : ∀ i, i < n → (L.getD i []).length = wd) : mf (fn L) n wd = L := by
  apply List.ext_getElem?
  intro i
  by_cases hi : i < n
  · have h1 : (mf (fn L) n wd)[i]? = some (rg (fn L i) wd) := by simp [mf, hi]
    rw [h1, fn_rg (h i hi)]
    simp [hn, hi]
  · rw [List.getElem?_eq_none (by rw [mf_length]; omega), List.getElem?_eq_none (by omega)]
theorem mf_fn (F : Nat → Nat → Nat) (n wd i j : Nat) (hi : i < n) (hj : j < wd) : fn (mf F n wd) i j = F i j := by
  unfold fn
  rw [mf_getD _ _ _ _ hi, rg_getD _ _ _ hj]
end Go.Proofs.YtbhhkcgicajlcaaGreatDoor.Py
