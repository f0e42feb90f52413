import Derived.Test.YthkpligodbkofaaGreatDoorpQZ
namespace Go.Proofs.YthkpligodbkofaaGreatDoor.Pc
open Go.RowKit

theorem wdt_mxl (L : List (List Nat)) : Py.wdt L = mxl (lnf L) L.length := by
  unfold Py.wdt
  have : ∀ n, Py.wx (fun j => (L.getD j []).length) n = mxl (lnf L) n := by
    intro n
    induction n with
    | zero => rfl
    | succ n ih => simp only [Py.wx, mxl]; rw [ih]; rfl
  exact this _
/-- Parity rows. -/
def parR (L : List (List Nat)) (p : Nat) : List (List Nat) := (List.range p).map fun i => Py.rg (Py.mk L i) (Py.wdt L)
theorem parR_len (L : List (List Nat)) (p : Nat) : (parR L p).length = p := by simp [parR]
theorem parR_at {L : List (List Nat)} {p i : Nat} (h : i < p) : (parR L p).getD i [] = Py.rg (Py.mk L i) (Py.wdt L) := by
  unfold parR; rw [List.getD_eq_getElem?_getD, List.getElem?_map, List.getElem?_range h]; rfl
theorem parR_byts {L : List (List Nat)} {p i : Nat} (h : i < p) : Byts ((parR L p).getD i []) := by
  rw [parR_at h]
  intro b hb
  simp only [Py.rg, List.mem_map] at hb
  obtain ⟨x, _, rfl⟩ := hb
  exact Py.mk_lt L i x
theorem make_ok (go : Option Addr) (N ca p : Nat) (L : List (List Nat)) (w : World) (hL : Py.MC w go L) (bL : Py.Bm L) (hN : L.length = N) (h1 : N ≤ 200) (hp : p ≤ 16) (hj : ∀ j, j < N → lnf L j ≤ 16777215) (hw : 1 ≤ Py.wdt L) :
    Calls Tryz.prog 95 #[.slice go N ca, .int .i64 (p : Int)] w fun e w' => ∃ ro, e = .returned (.tuple #[.slice ro p p, .int .i64 0]) ∧ ro ≠ none ∧ Py.MC w' ro (parR L p) ∧ (∀ i, i < (parR L p).length → (parR L p).getD i [] ≠ []) ∧ Kept [] w w' := by
  refine (Py.make_any go N ca p L w hL bL hN h1 hp (fun j hj' => Nat.le_trans (hj j hj') (by decide))).mono ?_
  intro e w' h
  have hwd : Py.wdt L ≤ 16777216 := by
    rw [wdt_mxl, hN]
    exact Nat.le_trans (mxl_le hj) (by decide)
  unfold Py.MkPost at h
  rw [if_pos hwd] at h
  obtain ⟨g, B, Z, rfl, hct, hcn, hz, hg, hB, hk⟩ := h
  refine ⟨some ⟨g, 0, none⟩, rfl, by simp, .inr ⟨g, 0, rfl, fun i hi => ?_⟩, fun i hi => ?_, hk⟩
  · rw [parR_len] at hi
    rw [parR_at hi, Py.rg_length, Nat.zero_add]
    refine ⟨_, _, hct.out.at hi, Nat.le_refl _, .inr ⟨B, _, rfl, fun x hx => ?_⟩⟩
    rw [Py.rg_length] at hx
    have hpo : Py.po (fun _ => Py.wdt L) i = Py.ofs (fun _ => Py.wdt L) i := if_neg (show ¬ Py.wdt L = 0 by omega)
    have hlt : Py.ofs (fun _ => Py.wdt L) i + x < Py.ofs (fun _ => Py.wdt L) p := by
      have := Py.ofs_mono (fun _ => Py.wdt L) hi
      omega
    rw [hpo, hct.row.at (by rw [Py.rg_length]; exact hlt), Py.rg_getD _ _ _ hlt, Py.rg_getD _ _ _ hx, hcn i hi x hx]
    rfl
  · rw [parR_len] at hi
    rw [parR_at hi]
    intro h9
    have := Py.rg_length (Py.mk L i) (Py.wdt L)
    rw [h9] at this
    simp at this
    omega
theorem flat_len (L : List (List Nat)) : L.flatten.length = sm (lnf L) L.length := by
  have h : ∀ k, ((L.take k).flatten).length = sm (lnf L) k := by
    intro k
    induction k with
    | zero => rfl
    | succ k ih =>
      rw [List.take_add_one, List.flatten_append, List.length_append, ih]
      simp only [sm, lnf]
      rw [List.getD_eq_getElem?_getD]
      cases L[k]? <;> simp
  have := h L.length
  rwa [List.take_length] at this
theorem recB_len (W H D sw sh : Nat) (A : Bool) (r : Nat → Nat) (p : Nat) (L : List (List Nat)) : (recB W H D sw sh A r p L (parR L p)).length = rcl (lnf L) L.length p := by
  unfold recB rcl
  rw [List.length_append, List.length_append, List.length_append, hdB_len, tbB_len, parR_len, flat_len, flat_len, parR_len]
  have h : sm (lnf (parR L p)) p = p * mxl (lnf L) L.length := by
    rw [← wdt_mxl]
    have : ∀ k, k ≤ p → sm (lnf (parR L p)) k = k * Py.wdt L := by
      intro k
      induction k with
      | zero => intro _; simp [sm]
      | succ k ih =>
        intro hk
        simp only [sm]
        rw [ih (by omega)]
        unfold lnf
        rw [parR_at (by omega), Py.rg_length, Nat.add_mul, Nat.one_mul]
    exact this p (Nat.le_refl _)
  rw [h]; omega
end Go.Proofs.YthkpligodbkofaaGreatDoor.Pc

namespace Go.Proofs.YthkpligodbkofaaGreatDoor.Pc
open Go.RowKit

/-- A slice's part of a plane, in natural numbers. -/
def gX (_W sw c : Int) (k q : Nat) : Nat := (Tl.bX (q : Int) (Tl.sX c sw (k : Int))).toNat
def gY (sh c : Int) (k : Nat) : Nat := (Tl.sY c sh (k : Int)).toNat
def gW (W sw c : Int) (k q : Nat) : Nat := (pw W sw c (q : Int) (k : Int)).toNat
def gH (H sh c : Int) (k : Nat) : Nat := (ph H sh c (k : Int)).toNat
/-- Its samples. -/
def gF (W _H sw sh c : Int) (F : Nat → Nat → Nat) (k q i : Nat) : Nat := bsm (F q) (gX W sw c k q) (gY sh c k) (gW W sw c k q) (Tl.wp W (q : Int)).toNat i

theorem part_in {W H sw sh c r : Int} (g : Tl.Gd W H sw sh c r) {k : Nat} (k1 : (k : Int) < c * r) (q : Nat) :
    (gX W sw c k q : Int) = Tl.bX (q : Int) (Tl.sX c sw (k : Int)) ∧ (gY sh c k : Int) = Tl.sY c sh (k : Int) ∧ (gW W sw c k q : Int) = pw W sw c (q : Int) (k : Int) ∧ (gH H sh c k : Int) = ph H sh c (k : Int) ∧
    gX W sw c k q + gW W sw c k q ≤ (Tl.wp W (q : Int)).toNat ∧ gY sh c k + gH H sh c k ≤ H.toNat ∧ 1 ≤ gW W sw c k q ∧ 1 ≤ gH H sh c k := by
  have hx := Tl.sX_in g (k : Int)
  have hy := Tl.sY_in g (by omega : (0 : Int) ≤ k) k1
  have hw := pw_in g (q : Int) (k : Int)
  have hh := ph_in g (by omega : (0 : Int) ≤ k) k1
  have hs := g.s0
  have hb : 0 ≤ Tl.bX (q : Int) (Tl.sX c sw (k : Int)) ∧ Tl.bX (q : Int) (Tl.sX c sw (k : Int)) + pw W sw c (q : Int) (k : Int) ≤ Tl.wp W (q : Int) := by
    unfold pw Tl.bX Tl.bW Tl.wp Tl.hf
    generalize Tl.sX c sw (k : Int) = x at *
    have he := g.se
    split <;> omega
  have hyb : Tl.sY c sh (k : Int) + ph H sh c (k : Int) ≤ H := by unfold ph; omega
  unfold gX gY gW gH
  refine ⟨by omega, by omega, by omega, by omega, by omega, by omega, by omega, by omega⟩
theorem wp_tot {W H D : Int} {A : Bool} (h : Tl.Shp W H D A) {q : Nat} (_hq : q < Tl.np A) : Tl.wp W (q : Int) * H ≤ 4194304 := by
  have ht := h.2.2.2
  have hw := h.1.1
  have hh := h.2.1.1
  have a1 : 0 ≤ W * H := Int.mul_nonneg (by omega) (by omega)
  have a2 : 0 ≤ Tl.hf W * H := Int.mul_nonneg (by have := Tl.hf_lo hw; omega) (by omega)
  unfold Tl.tot at ht
  have a3 : 0 ≤ (if A then W * H else 0) := by split <;> omega
  unfold Tl.wp
  split <;> omega
theorem gF_le {W H D : Int} {A : Bool} {m : Nat} {ln : Nat → Nat} {F : Nat → Nat → Nat} {sw sh c r : Int} (hv : Tl.Vld W H D A m ln F) (g : Tl.Gd W H sw sh c r) {k q i : Nat} (k1 : (k : Int) < c * r) (hq : q < m) (hi : i < gH H sh c k * gW W sw c k q) : gF W H sw sh c F k q i ≤ Tl.mx D := by
  obtain ⟨_, _, _, _, h5, h6, h7, h8⟩ := part_in g k1 q
  have hl := hv.len q hq
  refine hv.top q hq _ ?_
  have hw0 := Tl.wp_lo (q : Int) hv.shp.1.1
  have hh0 := hv.shp.2.1.1
  have hln : ln q = (Tl.wp W (q : Int)).toNat * H.toNat := by
    have : ((Tl.wp W (q : Int)).toNat * H.toNat : Int) = Tl.wp W (q : Int) * H := by
      rw [Int.toNat_of_nonneg (by omega), Int.toNat_of_nonneg (by omega)]
    omega
  rw [hln]
  generalize (Tl.wp W (q : Int)).toNat = wd at *
  generalize H.toNat = ht at *
  generalize gW W sw c k q = b at *
  generalize gH H sh c k = h at *
  generalize gX W sw c k q = X at *
  generalize gY sh c k = Y at *
  have d1 : i / b < h := Nat.div_lt_of_lt_mul (by rw [Nat.mul_comm]; exact hi)
  have d2 : i % b < b := Nat.mod_lt _ (by omega)
  have d3 := row_in (yv := Y + i / b) (wd := wd) (X := X) (bw := b) (M := wd * ht) (ht := ht) (by omega) h5 rfl
  omega
/-- What each slice's planes are coded by. -/
def Cod (W H D : Int) (sw sh c : Int) (N m : Nat) (F : Nat → Nat → Nat) (r : Nat → Int) (X : Nat → Nat → Nat × Nat) : Prop :=
  ∀ k, k < N → ∀ q, q < m → ∃ b, Tell (Tl.mx D : Int) (r q) D (gW W sw c k q) (gH H sh c k) (gH H sh c k * gW W sw c k q) (fz (gH H sh c k * gW W sw c k q) (gF W H sw sh c F k q)) (X k q) b
theorem dp_of {W H D : Int} {A : Bool} (h : Tl.Shp W H D A) : Dp D (Tl.mx D : Int) := by
  rcases h.2.2.1 with rfl | rfl
  · exact .inl ⟨rfl, rfl⟩
  · exact .inr ⟨rfl, rfl⟩
theorem blk_of {W H D : Int} {A : Bool} {m : Nat} {ln : Nat → Nat} {F : Nat → Nat → Nat} {sw sh c r : Int} (hv : Tl.Vld W H D A m ln F) (g : Tl.Gd W H sw sh c r) {k q : Nat} (k1 : (k : Int) < c * r) (hq : q < m) {d : Int} (d0 : 0 ≤ d) (d1 : d ≤ 63) :
    Blk (gW W sw c k q) (gH H sh c k) (gH H sh c k * gW W sw c k q) D (Tl.mx D : Int) d (fz (gH H sh c k * gW W sw c k q) (gF W H sw sh c F k q)) := by
  obtain ⟨_, _, h3, h4, h5, h6, h7, h8⟩ := part_in g k1 q
  have hw := pw_in g (q : Int) (k : Int)
  have hh := ph_in g (by omega : (0 : Int) ≤ k) k1
  have ht := wp_tot hv.shp (by rw [← hv.num]; exact hq)
  have hw0 := Tl.wp_lo (q : Int) hv.shp.1.1
  have hh0 := hv.shp.2.1.1
  refine ⟨?_, Nat.mul_comm _ _, dp_of hv.shp, d0, d1, fun i => ?_⟩
  · unfold szd
    have hm : (gW W sw c k q : Int) * (gH H sh c k : Int) ≤ Tl.wp W (q : Int) * H := Int.mul_le_mul (by omega) (by omega) (by omega) (by omega)
    exact decide_eq_true ⟨by omega, by omega, by omega, by omega, by omega⟩
  · unfold fz
    split
    · rename_i hi
      have := gF_le hv g k1 hq hi
      omega
    · omega
theorem cod_ex {W H D : Int} {A : Bool} {m : Nat} {ln : Nat → Nat} {F : Nat → Nat → Nat} {sw sh c r : Int} (_hv : Tl.Vld W H D A m ln F) (g : Tl.Gd W H sw sh c r) {N : Nat} (hN : (N : Int) ≤ c * r) (rr : Nat → Int) : ∃ X, Cod W H D sw sh c N m F rr X := by
  have h : ∀ k : Nat, ∃ f : Nat → Nat × Nat, k < N → ∀ q, q < m → ∃ b, Tell (Tl.mx D : Int) (rr q) D (gW W sw c k q) (gH H sh c k) (gH H sh c k * gW W sw c k q) (fz (gH H sh c k * gW W sw c k q) (gF W H sw sh c F k q)) (f q) b := fun k => by
    by_cases hk : k < N
    · have h2 : ∀ q : Nat, ∃ x : Nat × Nat, q < m → ∃ b, Tell (Tl.mx D : Int) (rr q) D (gW W sw c k q) (gH H sh c k) (gH H sh c k * gW W sw c k q) (fz (gH H sh c k * gW W sw c k q) (gF W H sw sh c F k q)) x b := fun q => by
        obtain ⟨_, _, _, _, _, _, h7, h8⟩ := part_in g (k := k) (by omega) q
        obtain ⟨x, b, hx⟩ := tell_ex (T := (Tl.mx D : Int)) (d := rr q) (D := D) (W := gW W sw c k q) (H := gH H sh c k) (n := gH H sh c k * gW W sw c k q) (fz (gH H sh c k * gW W sw c k q) (gF W H sw sh c F k q)) h7 (Nat.mul_comm _ _) (Nat.mul_pos (by omega) (by omega))
        exact ⟨x, fun _ => ⟨b, hx⟩⟩
      obtain ⟨f, hf⟩ := Classical.axiomOfChoice h2
      exact ⟨f, fun _ => hf⟩
    · exact ⟨fun _ => (0, 0), fun h => absurd h hk⟩
  obtain ⟨X, hX⟩ := Classical.axiomOfChoice h
  exact ⟨X, fun k hk => hX k hk⟩
end Go.Proofs.YthkpligodbkofaaGreatDoor.Pc

namespace Go.Proofs.YthkpligodbkofaaGreatDoor.Pc
open Go.RowKit

theorem sm_cast (l : Nat → Nat) (n : Nat) : (sm l n : Int) = sI (fun i => (l i : Int)) n := by
  induction n with
  | zero => rfl
  | succ n ih => simp only [sm, sI]; rw [← ih]; omega
theorem sI_mulL (f : Nat → Int) (x : Int) (n : Nat) : sI (fun i => x * f i) n = x * sI f n := by
  induction n with
  | zero => simp [sI]
  | succ n ih => simp only [sI]; rw [ih, Int.mul_add]
theorem sI_swap (f : Nat → Nat → Int) (n m : Nat) : sI (fun k => sI (f k) m) n = sI (fun q => sI (fun k => f k q) n) m := by
  induction n with
  | zero =>
    have : sI (fun _ => (0 : Int)) m = 0 := by rw [sI_const]; simp
    exact this.symm
  | succ n ih => simp only [sI]; rw [ih, ← sI_plus]
/-- How many bytes a plane's part, a payload has at most. -/
def pz (D w h : Int) : Int := 4 + (D * w * h + 7) / 8
def pzs (W H D sw sh c : Int) (m k : Nat) : Int := sI (fun q => pz D (pw W sw c (q : Int) (k : Int)) (ph H sh c (k : Int))) m
theorem pz_le {D w h : Int} (hD : D = 10 ∨ D = 12) (hw : 0 ≤ w * h) : 0 ≤ pz D w h ∧ 2 * pz D w h ≤ 10 + 3 * (w * h) := by
  unfold pz
  rw [Int.mul_assoc]
  generalize w * h = z at *
  rcases hD with rfl | rfl <;> omega
theorem tot_sum (W H : Int) (A : Bool) : sI (fun q => Tl.wp W (q : Int) * H) (Tl.np A) = Tl.tot W H A := by
  cases A
  · show (0 + Tl.wp W ((0 : Nat) : Int) * H + Tl.wp W ((1 : Nat) : Int) * H + Tl.wp W ((2 : Nat) : Int) * H) = _
    simp [Tl.wp, Tl.tot]
  · show (0 + Tl.wp W ((0 : Nat) : Int) * H + Tl.wp W ((1 : Nat) : Int) * H + Tl.wp W ((2 : Nat) : Int) * H + Tl.wp W ((3 : Nat) : Int) * H) = _
    simp [Tl.wp, Tl.tot]
theorem pzs_le {W H D sw sh c r : Int} {A : Bool} (hs : Tl.Shp W H D A) (g : Tl.Gd W H sw sh c r) {k : Nat} (k1 : (k : Int) < c * r) : 0 ≤ pzs W H D sw sh c (Tl.np A) k ∧ 2 * pzs W H D sw sh c (Tl.np A) k ≤ 40 + 3 * Tl.tot W H A := by
  have hq : ∀ q : Nat, q < Tl.np A → 0 ≤ pw W sw c (q : Int) (k : Int) * ph H sh c (k : Int) ∧ pw W sw c (q : Int) (k : Int) * ph H sh c (k : Int) ≤ Tl.wp W (q : Int) * H := fun q _ => by
    obtain ⟨_, _, h3, h4, h5, h6, h7, h8⟩ := part_in g k1 q
    have hw := pw_in g (q : Int) (k : Int)
    have hh := ph_in g (by omega : (0 : Int) ≤ k) k1
    exact ⟨Int.mul_nonneg (by omega) (by omega), Int.mul_le_mul (by omega) (by omega) (by omega) (by have := Tl.wp_lo (q : Int) hs.1.1; omega)⟩
  constructor
  · exact sI_nn (fun q hm => (pz_le hs.2.2.1 (hq q hm).1).1)
  · have h1 : sI (fun q => 2 * pz D (pw W sw c (q : Int) (k : Int)) (ph H sh c (k : Int))) (Tl.np A) ≤ sI (fun q => 10 + 3 * (Tl.wp W (q : Int) * H)) (Tl.np A) := sI_le (fun q hm => by
      have := (pz_le hs.2.2.1 (hq q hm).1).2
      have := (hq q hm).2
      omega)
    have e1 : sI (fun q => 2 * pz D (pw W sw c (q : Int) (k : Int)) (ph H sh c (k : Int))) (Tl.np A) = 2 * pzs W H D sw sh c (Tl.np A) k := by
      rw [sI_mulL]; rfl
    have e2 : sI (fun q => 10 + 3 * (Tl.wp W (q : Int) * H)) (Tl.np A) = 10 * (Tl.np A : Int) + 3 * Tl.tot W H A := by
      rw [sI_plus, sI_const, ← tot_sum]
      rw [sI_mulL]; omega
    have h4 := Tl.np_hi A
    omega
/-- All payloads together. -/
theorem pzs_sum {W H D sw sh c r : Int} {A : Bool} (hs : Tl.Shp W H D A) (g : Tl.Gd W H sw sh c r) : 2 * sI (fun k => pzs W H D sw sh c (Tl.np A) k) (c * r).toNat ≤ 40 * ((c * r).toNat : Int) + 3 * Tl.tot W H A := by
  have hc : ∀ k : Nat, k < (c * r).toNat → (k : Int) < c * r := fun k hk => by omega
  have e1 : 2 * sI (fun k => pzs W H D sw sh c (Tl.np A) k) (c * r).toNat = sI (fun k => sI (fun q => 2 * pz D (pw W sw c (q : Int) (k : Int)) (ph H sh c (k : Int))) (Tl.np A)) (c * r).toNat := by
    rw [← sI_mulL]
    refine sI_congr (fun k _ => ?_)
    rw [sI_mulL]; rfl
  have h1 : sI (fun k => sI (fun q => 2 * pz D (pw W sw c (q : Int) (k : Int)) (ph H sh c (k : Int))) (Tl.np A)) (c * r).toNat ≤ sI (fun k => sI (fun q => 10 + 3 * (pw W sw c (q : Int) (k : Int) * ph H sh c (k : Int))) (Tl.np A)) (c * r).toNat := sI_le (fun k hk => sI_le (fun q _ => by
    have hw := pw_in g (q : Int) (k : Int)
    have hh := ph_in g (by omega : (0 : Int) ≤ k) (hc k hk)
    exact (pz_le hs.2.2.1 (Int.mul_nonneg (by omega) (by omega))).2))
  have e2 : sI (fun k => sI (fun q => 10 + 3 * (pw W sw c (q : Int) (k : Int) * ph H sh c (k : Int))) (Tl.np A)) (c * r).toNat = sI (fun q => 10 * ((c * r).toNat : Int) + 3 * (Tl.wp W (q : Int) * H)) (Tl.np A) := by
    rw [sI_swap (fun k q => 10 + 3 * (pw W sw c (q : Int) (k : Int) * ph H sh c (k : Int)))]
    refine sI_congr (fun q _ => ?_)
    rw [sI_plus, sI_const]
    rw [sI_mulL, parts_sum g]; omega
  have e3 : sI (fun q => 10 * ((c * r).toNat : Int) + 3 * (Tl.wp W (q : Int) * H)) (Tl.np A) = (Tl.np A : Int) * (10 * ((c * r).toNat : Int)) + 3 * Tl.tot W H A := by
    rw [sI_plus, sI_const, ← tot_sum]
    rw [sI_mulL]
  have h4 := Tl.np_hi A
  have h5 : (Tl.np A : Int) * (10 * ((c * r).toNat : Int)) ≤ 4 * (10 * ((c * r).toNat : Int)) := Int.mul_le_mul_of_nonneg_right (by omega) (by omega)
  omega
end Go.Proofs.YthkpligodbkofaaGreatDoor.Pc

namespace Go.Proofs.YthkpligodbkofaaGreatDoor.Pc
open Go.RowKit

/-- All payloads by a rung; how long the record is; its bytes. -/
def psv (N m : Nat) (X : Nat → Nat → Nat × Nat) : List (List Nat) := (List.range N).map fun k => payL (X k) m
theorem psv_len (N m : Nat) (X : Nat → Nat → Nat × Nat) : (psv N m X).length = N := by simp [psv]
theorem psv_at {N m : Nat} {X : Nat → Nat → Nat × Nat} {k : Nat} (h : k < N) : (psv N m X).getD k [] = payL (X k) m := by
  unfold psv; rw [List.getD_eq_getElem?_getD, List.getElem?_map, List.getElem?_range h]; rfl

section
variable {W H D : Int} {A : Bool} {m : Nat} {ln : Nat → Nat} {F : Nat → Nat → Nat} {sw sh c r : Int}
theorem cod_len (hv : Tl.Vld W H D A m ln F) (g : Tl.Gd W H sw sh c r) {N : Nat} (hN : (N : Int) ≤ c * r) {rr : Nat → Int} (hr : ∀ q, q < 4 → 0 ≤ rr q ∧ rr q ≤ 63) {X : Nat → Nat → Nat × Nat} (hX : Cod W H D sw sh c N m F rr X) {k : Nat} (hk : k < N) {q : Nat} (hq : q < m) :
    (byts (X k q)).length = nby (X k q) ∧ Byts (byts (X k q)) ∧ (3 + nby (X k q) : Int) ≤ pz D (pw W sw c (q : Int) (k : Int)) (ph H sh c (k : Int)) := by
  have hm : m ≤ 4 := by rw [hv.num]; exact Tl.np_hi A
  obtain ⟨b, ht⟩ := hX k hk q hq
  have hr9 := hr q (by omega)
  have B := blk_of hv g (k := k) (q := q) (by omega) hq hr9.1 hr9.2
  obtain ⟨_, _, h3, h4, _⟩ := part_in g (k := k) (by omega) q
  have hw := B.w
  obtain ⟨h1, h2, _⟩ := byts_hold (tell_lt B.gd B.dp hw.1 B.f_ ht)
  have h5 := nby_le B ht
  refine ⟨h1, h2, ?_⟩
  unfold pz
  rw [← h3, ← h4]
  omega
theorem pay_le (hv : Tl.Vld W H D A m ln F) (g : Tl.Gd W H sw sh c r) {N : Nat} (hN : (N : Int) ≤ c * r) {rr : Nat → Int} (hr : ∀ q, q < 4 → 0 ≤ rr q ∧ rr q ≤ 63) {X : Nat → Nat → Nat × Nat} (hX : Cod W H D sw sh c N m F rr X) {k : Nat} (hk : k < N) : ((payL (X k) m).length : Int) ≤ pzs W H D sw sh c m k ∧ Byts (payL (X k) m) := by
  have h : ∀ j, j ≤ m → ((payL (X k) j).length : Int) ≤ sI (fun q => pz D (pw W sw c (q : Int) (k : Int)) (ph H sh c (k : Int))) j ∧ Byts (payL (X k) j) := by
    intro j
    induction j with
    | zero => intro _; exact ⟨by simp [payL, sI], fun b hb => by simp [payL] at hb⟩
    | succ j ih =>
      intro hj
      obtain ⟨i1, i2⟩ := ih (by omega)
      obtain ⟨a1, a2, a3⟩ := cod_len hv g hN hr hX hk (q := j) (by omega)
      refine ⟨?_, ?_⟩
      · simp only [payL, List.length_append, big_length, sI, a1]
        omega
      · intro b hb
        simp only [payL, List.mem_append] at hb
        rcases hb with h | h | h
        · exact i2 b h
        · exact big_lt _ _ b h
        · exact a2 b h
  exact h m (Nat.le_refl _)
theorem pay_lo (X : Nat → Nat × Nat) (hm : 1 ≤ m) : payL X m ≠ [] := by
  obtain ⟨j, rfl⟩ : ∃ j, m = j + 1 := ⟨m - 1, by omega⟩
  intro h
  have := congrArg List.length h
  simp only [payL, List.length_append, big_length, List.length_nil] at this
  omega
end

set_option maxHeartbeats 2000000 in
theorem jw_ok (W H D : Int) (A : Bool) (po : Option Addr) (m d : Nat) (ln : Nat → Nat) (F : Nat → Nat → Nat) (sw sh : Int) (lo : Option Addr) (n c : Nat) (L : Nat → Nat → Int) (cap : Int) (pn N : Nat) (X : Nat → Nat → Nat → Nat × Nat) (w : World)
    (hv : Tl.Vld W H D A m ln F) (hc : Cfg W H D A sw sh n L cap (pn : Int)) (hN : N = (Tl.cl W sw * Tl.cl H sh).toNat) (hX : ∀ i, i < n → Cod W H D sw sh (Tl.cl W sw) N m F (L i) (X i)) (hP : Plc w po m ln F) (hT : Tab w) (u : World) (P : Nat) (ku : Kept [] w u) (hG : Tl.Gr u P W H D A sw sh (Tl.cl W sw) (Tl.cl H sh)) :
    Jw u W H D A po m d sw sh lo n c cap pn P N L (fun i => rcl (lnf (psv N m (X i))) N pn) (fun i => psv N m (X i)) (fun i => recB W.toNat H.toNat D.toNat sw.toNat sh.toNat A (fun j => (L i j).toNat) pn (psv N m (X i)) (parR (psv N m (X i)) pn)) := by
  have g := hc.gd
  have hcr : 1 ≤ Tl.cl W sw * Tl.cl H sh ∧ Tl.cl W sw * Tl.cl H sh ≤ 65536 := by
    have h1 : 1 * 1 ≤ Tl.cl W sw * Tl.cl H sh := Int.mul_le_mul g.c0 g.r0 (by omega) (by have := g.c0; omega)
    have h2 : Tl.cl W sw * Tl.cl H sh ≤ 256 * 256 := Int.mul_le_mul g.c1 g.r1 (by have := g.r0; omega) (by omega)
    omega
  have hNi : (N : Int) = Tl.cl W sw * Tl.cl H sh := by rw [hN]; omega
  have hpm := hc.pr
  unfold pmb at hpm
  have hpm := of_decide_eq_true hpm
  have hld := lmb_yes.1 hc.ld
  have hm4 : m ≤ 4 := by rw [hv.num]; exact Tl.np_hi A
  have hm3 : 3 ≤ m := by rw [hv.num]; exact Tl.np_lo A
  have hrr : ∀ i, i < n → ∀ q, q < 4 → 0 ≤ L i q ∧ L i q ≤ 63 := fun i hi q hq => rmb_tol (hld.2 i hi) hq
  have htot := hv.shp.2.2.2
  have hlen : ∀ i, i < n → ∀ k, k < N → (payL (X i k) m).length ≤ 6291476 := fun i hi k hk => by
    have h1 := (pay_le hv g (by omega) (hrr i hi) (hX i hi) hk).1
    have h2 := (pzs_le hv.shp g (k := k) (by omega)).2
    rw [hv.num] at h1 ⊢
    omega
  have hln9 : ∀ i, i < n → rcl (lnf (psv N m (X i))) N pn ≤ 134217727 := fun i hi => by
    have hsm : 2 * (sm (lnf (psv N m (X i))) N : Int) ≤ 40 * (N : Int) + 3 * Tl.tot W H A := by
      have h1 := pzs_sum hv.shp g
      rw [← hN] at h1
      have h2 : (sm (lnf (psv N m (X i))) N : Int) ≤ sI (fun k => pzs W H D sw sh (Tl.cl W sw) (Tl.np A) k) N := by
        rw [sm_cast]
        refine sI_le (fun k hk => ?_)
        have h3 := (pay_le hv g (by omega) (hrr i hi) (hX i hi) hk).1
        rw [hv.num] at h3
        unfold lnf
        rw [psv_at hk, hv.num]
        exact h3
      omega
    have hmx : mxl (lnf (psv N m (X i))) N ≤ 6291476 := mxl_le (fun k hk => by unfold lnf; rw [psv_at hk]; exact hlen i hi k hk)
    have hpx : pn * mxl (lnf (psv N m (X i))) N ≤ 16 * 6291476 := Nat.mul_le_mul (by omega) hmx
    unfold rcl
    rcases hpm.2 with h0 | h0
    · have : pn = 0 := by omega
      subst this
      simp only [Nat.zero_mul]
      omega
    · omega
  refine ⟨fun i hi v kv => ?_, fun i hi v gg kv hmc => ?_⟩
  · refine (try_any W H D A po m d sw sh lo n c cap pn P (L i) N (fun k q => gW W sw (Tl.cl W sw) k q) (fun k _ => gH H sh (Tl.cl W sw) k) (fun k q => gF W H sw sh (Tl.cl W sw) F k q) (X i) v (fun k hk x kx => ?_) (fun x kx => ?_) (by omega) (by omega) (by omega) (fun k hk => Nat.le_trans (hlen i hi k hk) (by decide))).mono ?_
    · have kk : Kept [] w x := (ku.trans kv).trans kx
      refine ⟨fun q hq y ky => ?_, fun q hq y gy sc ky hsmp => ?_, fun q hq => ?_, hm4⟩
      · obtain ⟨p1, p2, p3, p4, p5, p6, p7, p8⟩ := part_in g (k := k) (by omega) q
        have hw0 := Tl.wp_lo (q : Int) hv.shp.1.1
        have hw1 := Tl.wp_hi (q : Int) hv.shp.1.1
        have hl9 : ln q = (Tl.wp W (q : Int)).toNat * H.toNat := by
          have h1 := hv.len q hq
          have h2 : ((Tl.wp W (q : Int)).toNat * H.toNat : Int) = Tl.wp W (q : Int) * H := by
            rw [Int.toNat_of_nonneg (by omega), Int.toNat_of_nonneg (by have := hv.shp.2.1.1; omega)]
          omega
        exact block_any W H D A po m d sw sh lo n c cap (pn : Int) P (k : Int) q (gX W sw (Tl.cl W sw) k q) (gY sh (Tl.cl W sw) k) (gW W sw (Tl.cl W sw) k q) (gH H sh (Tl.cl W sw) k) (Tl.wp W (q : Int)).toNat H.toNat ln F y (hP.keep (kk.trans ky)) hq hl9 p5 p6 p7 p8 (by have := hv.shp.1.2; omega) (by have := hv.shp.2.1.2; omega)
          (fun z kz => by
            have h9 := Tl.tpart_ok P W H D sw sh (Tl.cl W sw) (Tl.cl H sh) (k : Int) (q : Int) A z (hG.keep ((kv.trans kx).trans (ky.trans kz)) (by simp)) g hv.shp (by omega) (by omega) ⟨by omega, by rw [← hv.num]; omega⟩
            rw [p1, p2, p3, p4]
            exact h9)
          (fun z => by
            have h9 := Tl.size_any W H D (q : Int) A z
            have e9 : Tl.szE W H D (q : Int) A = 0 := by
              unfold Tl.szE
              rw [if_pos (Tl.shE_ok hv.shp), if_pos ⟨by omega, by rw [← hv.num]; omega⟩]
            rw [e9, if_pos rfl, if_pos rfl] at h9
            rw [Int.toNat_of_nonneg (by omega), Int.toNat_of_nonneg (by have := hv.shp.2.1.1; omega)]
            exact h9)
      · have hr9 := hrr i hi q (by omega)
        obtain ⟨b, ht⟩ := hX i hi k hk q hq
        have B := blk_of hv g (k := k) (q := q) (by omega) hq hr9.1 hr9.2
        exact Go.Proofs.YthkpligodbkofaaGreatDoor.Encode_any (sc := sc) y B hsmp (hT.kept (kk.trans ky) (by simp)) ht
      · obtain ⟨a1, _, a3⟩ := cod_len hv g (by omega) (hrr i hi) (hX i hi) hk hq
        refine ⟨a1, ?_⟩
        have h2 := pzs_le hv.shp g (k := k) (by omega)
        have h3 : pz D (pw W sw (Tl.cl W sw) (q : Int) (k : Int)) (ph H sh (Tl.cl W sw) (k : Int)) ≤ pzs W H D sw sh (Tl.cl W sw) (Tl.np A) k := by
          unfold pzs
          refine sI_one (f := fun q : Nat => pz D (pw W sw (Tl.cl W sw) (q : Int) (k : Int)) (ph H sh (Tl.cl W sw) (k : Int))) (fun q' _ => ?_) (by rw [← hv.num]; exact hq)
          have hw := pw_in g (q' : Int) (k : Int)
          have hh := ph_in g (by omega : (0 : Int) ≤ k) (by omega)
          exact (pz_le hv.shp.2.2.1 (Int.mul_nonneg (by omega) (by omega))).1
        omega
    · have h9 := Tl.count_any' P W H D sw sh (Tl.cl W sw) (Tl.cl H sh) A x (hG.keep (kv.trans kx) (by simp)) g.c0 g.c1 g.r0 g.r1
      rw [hNi]
      exact h9
    · rintro e w' ⟨gq, rfl, _, h3, h4⟩
      exact ⟨gq, rfl, h3, h4⟩
  · have eW : (W.toNat : Int) = W := Int.toNat_of_nonneg (by have := hv.shp.1.1; omega)
    have eH : (H.toNat : Int) = H := Int.toNat_of_nonneg (by have := hv.shp.2.1.1; omega)
    have eD : (D.toNat : Int) = D := Int.toNat_of_nonneg (by rcases hv.shp.2.2.1 with h | h <;> omega)
    have esw : (sw.toNat : Int) = sw := Int.toNat_of_nonneg (by have := hc.sd.1.1; omega)
    have esh : (sh.toNat : Int) = sh := Int.toNat_of_nonneg (by have := hc.sd.2.2.1; omega)
    have er : ∀ j, j < 4 → ((L i j).toNat : Int) = L i j := fun j hj => Int.toNat_of_nonneg (hrr i hi j hj).1
    have hD : D = 10 ∨ D = 12 := hv.shp.2.2.1
    refine coded_any W H D A sw sh (L i) N pn _ gg (i : Int) _ v (fun x kx => ?_)
    have hrec := record_any W.toNat H.toNat D.toNat sw.toNat sh.toNat A (fun j => (L i j).toNat) N pn (rcl (lnf (psv N m (X i))) N pn) (some ⟨gg, 0, none⟩) N (psv N m (X i)) (parR (psv N m (X i)) pn) x (hmc.keep kx) (by simp) (psv_len ..) (by omega) (by omega) (parR_len ..) (by omega)
      (fun k hk => by unfold lnf; rw [psv_at hk]; exact Nat.le_trans (hlen i hi k hk) (by decide))
      (fun k hk => by rw [psv_len] at hk; rw [psv_at hk]; exact pay_lo _ (by omega))
      (fun k hk => by rw [psv_at hk]; exact (pay_le hv g (by omega) (hrr i hi) (hX i hi) hk).2)
      (fun k hk => parR_byts hk)
      (fun k hk => by
        rw [parR_at hk, Py.rg_length, wdt_mxl, psv_len]
        exact Nat.le_trans (mxl_le (fun k hk => by unfold lnf; rw [psv_at hk]; exact hlen i hi k hk)) (by decide))
      (by have := hv.shp.1.2; omega) (by have := hv.shp.2.1.2; omega) (by omega) (by have := hc.sd.1.2; omega) (by have := hc.sd.2.2.2; omega) (fun j hj => by have := (hrr i hi j hj).2; have := er j hj; omega) rfl (hln9 i hi)
      (by rw [recB_len, psv_len])
      (fun hp1 y ky => by
        have h200 : N ≤ 200 := by rcases hpm.2 with h | h <;> omega
        refine make_ok (some ⟨gg, 0, none⟩) N N pn (psv N m (X i)) y ((hmc.keep kx).keep ky) (fun l hl => ?_) (psv_len ..) h200 (by omega) (fun k hk => by unfold lnf; rw [psv_at hk]; exact Nat.le_trans (hlen i hi k hk) (by decide)) ?_
        · obtain ⟨k, hk, rfl⟩ := List.getElem_of_mem hl
          have hk2 : k < N := by rw [psv_len] at hk; exact hk
          have e9 := psv_at (m := m) (X := X i) hk2
          rw [List.getD_eq_getElem?_getD, List.getElem?_eq_getElem hk] at e9
          simp only [Option.getD_some] at e9
          rw [e9]
          exact (pay_le hv g (by omega) (hrr i hi) (hX i hi) hk2).2
        · rw [wdt_mxl, psv_len]
          have h0 : 0 < N := by omega
          have h1 : 1 ≤ lnf (psv N m (X i)) 0 := by
            unfold lnf
            rw [psv_at h0]
            have := pay_lo (X i 0) (show 1 ≤ m by omega)
            exact List.length_pos_iff.2 this
          have h2 : ∀ k, 1 ≤ k → lnf (psv N m (X i)) 0 ≤ mxl (lnf (psv N m (X i))) k := by
            intro k
            induction k with
            | zero => intro h; omega
            | succ k ih =>
              intro _
              simp only [mxl]
              by_cases hk : 1 ≤ k
              · have := ih hk; omega
              · obtain rfl : k = 0 := by omega
                omega
          have := h2 N (by omega)
          omega)
    have e9 : dfv W H D A sw sh (L i) N pn (rcl (lnf (psv N m (X i))) N pn) (some ⟨gg, 0, none⟩) N = .agg #[.int .i64 (W.toNat : Int), .int .i64 (H.toNat : Int), .int .i64 (D.toNat : Int), .bool A, .int .i64 (sw.toNat : Int), .int .i64 (sh.toNat : Int), .int .i64 ((L i 0).toNat : Int), .int .i64 ((L i 1).toNat : Int), .int .i64 ((L i 2).toNat : Int), .int .i64 ((L i 3).toNat : Int), .int .i64 (N : Int), .int .i64 (pn : Int), .int .i64 (rcl (lnf (psv N m (X i))) N pn : Int), .slice (some ⟨gg, 0, none⟩) N N] := by
      rw [eW, eH, eD, esw, esh, er 0 (by omega), er 1 (by omega), er 2 (by omega), er 3 (by omega)]
    rw [e9]
    exact hrec
end Go.Proofs.YthkpligodbkofaaGreatDoor.Pc
