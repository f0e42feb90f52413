import Derived.Test.YtgjjnkhkjnkahaaDoorRn
import Derived.Test.YtgjjnkhkjnkahaaDoorRy
import Derived.Test.YtgjjnkhkjnkahaaDoorBd
namespace Go.Proofs.YtgjjnkhkjnkahaaDoor
open Go.RowKit

/-- A frame in memory of its own: its value, its rows. -/
structure Fm where
  W : Int
  H : Int
  D : Int
  A : Bool
  V : Value
  n : Nat
  bs : Nat → Nat
  ln : Nat → Nat
  F : Nat → Nat → Nat
/-- Its value. -/
abbrev fmv (x : Fm) : Value := .agg #[.int .i64 x.W, .int .i64 x.H, .int .i64 x.D, .bool x.A, x.V]
/-- So it lies. -/
def Fmk (B : Nat) (w : World) (x : Fm) : Prop := Gx B w x.V x.n x.bs x.ln x.F
/-- What Mix of such frames makes. -/
def Rsx (E : Int) (W H D : Int) (A : Bool) (n : Nat) (FF : Nat → Nat → Nat) (x : Fm) : Prop :=
  (E = 0 → x.W = W ∧ x.H = H ∧ x.D = D ∧ x.A = A ∧ x.n = n ∧ x.ln = pz W H ∧ x.F = FF ∧ n ≤ 4 ∧ ∀ i, i < n → pz W H i ≤ 16777216) ∧ (E ≠ 0 → x.W = 0 ∧ x.H = 0 ∧ x.D = 0 ∧ x.A = false ∧ x.n = 0)
/-- Two frames are the same. -/
def Alk (x y : Fm) : Prop := x.W = y.W ∧ x.H = y.H ∧ x.D = y.D ∧ x.A = y.A ∧ x.n = y.n ∧ (∀ i, i < x.n → x.ln i = y.ln i) ∧ (∀ i, i < x.n → ∀ j, j < x.ln i → x.F i j = y.F i j) ∧ x.n ≤ 4 ∧ ∀ i, i < x.n → x.ln i ≤ 16777216
theorem Rsx.alk {E : Int} {W H D : Int} {A : Bool} {n : Nat} {FF : Nat → Nat → Nat} {x y : Fm} (h : Rsx E W H D A n FF x) (h2 : Rsx E W H D A n FF y) : Alk x y := by
  by_cases hE : E = 0
  · obtain ⟨a1, a2, a3, a4, a5, a6, a7, a8, a9⟩ := h.1 hE
    obtain ⟨b1, b2, b3, b4, b5, b6, b7, -, -⟩ := h2.1 hE
    refine ⟨by rw [a1, b1], by rw [a2, b2], by rw [a3, b3], by rw [a4, b4], by rw [a5, b5], fun i _ => by rw [a6, b6], fun i _ j _ => by rw [a7, b7], by rw [a5]; exact a8, fun i hi => ?_⟩
    rw [a6]
    exact a9 i (by rw [← a5]; exact hi)
  · obtain ⟨a1, a2, a3, a4, a5⟩ := h.2 hE
    obtain ⟨b1, b2, b3, b4, b5⟩ := h2.2 hE
    exact ⟨by rw [a1, b1], by rw [a2, b2], by rw [a3, b3], by rw [a4, b4], by rw [a5, b5], fun i hi => by omega, fun i hi => by omega, by omega, fun i hi => by omega⟩
theorem Mk.gx {w0 w : World} {G n : Nat} {bs ln : Nat → Nat} {F : Nat → Nat → Nat} (h : Mk w0 w G n n bs ln F) (hn : n ≤ 4) : Gx w0.heap.size w (.slice (some ⟨G, 0, none⟩) n n) n bs ln F := by
  refine ⟨⟨by rw [fl_length, Nat.mul_one], .inr ⟨G, n, _, rfl, h.new, h.out, Nat.le_refl _, by unfold maxLen; omega, by simp [outC_length], ?_⟩⟩, h.row, h.mon, fun i hi => Nat.le_of_lt (Nat.lt_of_le_of_lt h.new (h.gt i hi))⟩
  rw [Nat.mul_one]
  have e : outC bs ln n n = fl (fun i => slv (bs i) (ln i) (ln i)) n := fl_congr (fun i hi => by rw [if_pos hi])
  rw [e]
  simp [List.take_of_length_le, fl_length]
/-- What Mix leaves, whatever it is asked for. -/
def MuP (E : Int) (W H D : Int) (A : Bool) (n : Nat) (FF : Nat → Nat → Nat) (w : World) (e : Ending) (w' : World) : Prop := ∃ x : Fm, e = .returned (.tuple #[fmv x, .int .i64 E]) ∧ Fmk w.heap.size w' x ∧ Rsx E W H D A n FF x ∧ Kept [] w w'
theorem noFm (B : Nat) (w : World) : Fmk B w ⟨0, 0, 0, false, .slice none 0 0, 0, fun _ => 0, fun _ => 0, fun _ _ => 0⟩ := Gx.start _ _ _ _ _
theorem mix_u (W H D : Int) (A : Bool) (po : Option Addr) (n c : Nat) (ln : Nat → Nat) (F : Nat → Nat → Nat) (W2 H2 D2 : Int) (A2 : Bool) (po2 : Option Addr) (n2 c2 : Nat) (ln2 : Nat → Nat) (G : Nat → Nat → Nat) (p o : Int) (w : World)
    (hr : Pl w po n ln F) (hn : n ≤ 1048576) (hln : ∀ i, i < n → ln i ≤ 1048576) (hr2 : Pl w po2 n2 ln2 G) (hn2 : n2 ≤ 1048576) (hln2 : ∀ i, i < n2 → ln2 i ≤ 1048576) :
    Calls Tryd.prog 7 #[frv W H D A po n c, frv W2 H2 D2 A2 po2 n2 c2, .int .i64 p, .int .i64 o] w fun e w' => MuP (mixE W H D A n ln F W2 H2 D2 A2 n2 ln2 G p o) W H D A n (mxF F G p.toNat o.toNat) w e w' := by
  by_cases hE : mixE W H D A n ln F W2 H2 D2 A2 n2 ln2 G p o = 0
  · obtain ⟨h0, h1, h2, rfl, rfl, rfl, rfl⟩ := mixE_ok hE
    obtain rfl : n2 = n := by rw [h1.num, h2.num]
    have h := mix_yes W H D A po n2 c ln F po2 c2 ln2 G p.toNat o.toNat w hr h1 hr2 h2 (by omega) (by omega) (by omega)
    rw [show ((p.toNat : Nat) : Int) = p by omega, show ((o.toNat : Nat) : Int) = o by omega] at h
    refine h.mono ?_
    rintro e w' ⟨g, bs, rfl, hM⟩
    rw [hE]
    exact ⟨⟨W, H, D, A, .slice (some ⟨g, 0, none⟩) n2 n2, n2, bs, pz W H, mxF F G p.toNat o.toNat⟩, rfl, hM.gx h1.n4, ⟨fun _ => ⟨rfl, rfl, rfl, rfl, rfl, rfl, rfl, h1.n4, fun i hi => (h1.sz hi).2.2⟩, fun h => absurd rfl h⟩, hM.kept⟩
  · refine (mix_no W H D A po n c ln F W2 H2 D2 A2 po2 n2 c2 ln2 G p o w hr (by omega) (fun i hi => by have := hln i hi; omega) hr2 (by omega) (fun i hi => by have := hln2 i hi; omega) hE).mono ?_
    rintro e w' ⟨rfl, hk⟩
    exact ⟨⟨0, 0, 0, false, .slice none 0 0, 0, fun _ => 0, fun _ => 0, fun _ _ => 0⟩, rfl, noFm _ _, ⟨fun h => absurd h hE, fun _ => ⟨rfl, rfl, rfl, rfl, rfl⟩⟩, hk⟩
theorem rmix_u (W H D : Int) (A : Bool) (po : Option Addr) (n c : Nat) (ln : Nat → Nat) (F : Nat → Nat → Nat) (W2 H2 D2 : Int) (A2 : Bool) (po2 : Option Addr) (n2 c2 : Nat) (ln2 : Nat → Nat) (G : Nat → Nat → Nat) (p o : Int) (w : World)
    (hr : Pl w po n ln F) (hn : n ≤ 1048576) (hln : ∀ i, i < n → ln i ≤ 1048576) (hr2 : Pl w po2 n2 ln2 G) (hn2 : n2 ≤ 1048576) (hln2 : ∀ i, i < n2 → ln2 i ≤ 1048576) (hF : ∀ i, i < n → ∀ j, j < ln i → F i j < 65536) (hG : ∀ i, i < n2 → ∀ j, j < ln2 i → G i j < 65536) :
    Calls Tryd.prog 9 #[frv W H D A po n c, frv W2 H2 D2 A2 po2 n2 c2, .int .i64 p, .int .i64 o] w fun e w' => MuP (mixE W H D A n ln F W2 H2 D2 A2 n2 ln2 G p o) W H D A n (mxF F G p.toNat o.toNat) w e w' := by
  by_cases hE : mixE W H D A n ln F W2 H2 D2 A2 n2 ln2 G p o = 0
  · obtain ⟨h0, h1, h2, rfl, rfl, rfl, rfl⟩ := mixE_ok hE
    obtain rfl : n2 = n := by rw [h1.num, h2.num]
    have h := rmix_yes W H D A po n2 c ln F po2 c2 ln2 G p.toNat o.toNat w hr h1 hr2 h2 (by omega) (by omega) (by omega)
    rw [show ((p.toNat : Nat) : Int) = p by omega, show ((o.toNat : Nat) : Int) = o by omega] at h
    refine h.mono ?_
    rintro e w' ⟨po', c', bs, rfl, hM, hk⟩
    rw [hE]
    exact ⟨⟨W, H, D, A, .slice po' n2 c', n2, bs, pz W H, mxF F G p.toNat o.toNat⟩, rfl, hM, ⟨fun _ => ⟨rfl, rfl, rfl, rfl, rfl, rfl, rfl, h1.n4, fun i hi => (h1.sz hi).2.2⟩, fun h => absurd rfl h⟩, hk⟩
  · refine (rmix_no W H D A po n c ln F W2 H2 D2 A2 po2 n2 c2 ln2 G p o w hr (by omega) (fun i hi => by have := hln i hi; omega) hr2 (by omega) (fun i hi => by have := hln2 i hi; omega) hF hG hE).mono ?_
    rintro e w' ⟨rfl, hk⟩
    exact ⟨⟨0, 0, 0, false, .slice none 0 0, 0, fun _ => 0, fun _ => 0, fun _ _ => 0⟩, rfl, noFm _ _, ⟨fun h => absurd h hE, fun _ => ⟨rfl, rfl, rfl, rfl, rfl⟩⟩, hk⟩
theorem Pl.cng {w : World} {po : Option Addr} {n : Nat} {ln : Nat → Nat} {F G : Nat → Nat → Nat} (h : Pl w po n ln F) (hF : ∀ i, i < n → ∀ j, j < ln i → F i j = G i j) : Pl w po n ln G := by
  rcases h with h | ⟨g, off, e, hc⟩
  · exact .inl h
  · refine .inr ⟨g, off, e, fun i hi => ?_⟩
    obtain ⟨bo, c, h1, h2⟩ := hc i hi
    exact ⟨bo, c, h1, h2.congr (hF i hi)⟩
end Go.Proofs.YtgjjnkhkjnkahaaDoor
