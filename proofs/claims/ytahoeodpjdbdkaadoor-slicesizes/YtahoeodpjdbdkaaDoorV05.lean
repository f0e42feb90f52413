import Derived.Test.YtahoeodpjdbdkaaDoorV04
import Derived.Deep.RegionHeldLaw
import Derived.Deep.RegionLaw
namespace Go.Proofs.YtahoeodpjdbdkaaDoor
/-- The range: so many unlike quotients there are. -/
def rg (T d : Int) : Int := (T + 2 * d) / (2 * d + 1) + 1
def ct (n l h : Int) : Int := min (max n l) h
def mg (n : Int) : Int := if n < 0 then -n else n

/-- The unreduced quotient of an error within its bounds. -/
def uq (d e : Int) : Int := if e < 0 then -((-e + d) / (2 * d + 1)) else (e + d) / (2 * d + 1)
/-- Reduced. -/
def rq (T d q : Int) : Int := if q < -(rg T d / 2) then q + rg T d else if (rg T d - 1) / 2 < q then q - rg T d else q
def shr (T d e : Int) : Int := rq T d (uq d (ct e (-T) T))
/-- Brought back. -/
def bk (T d v : Int) : Int := if v < -d then v + rg T d * (2 * d + 1) else if T + d < v then v - rg T d * (2 * d + 1) else v
def gro (T d p q : Int) : Int := ct (bk T d (ct p 0 T + ct q (-rg T d) (rg T d) * (2 * d + 1))) 0 T

/-- What a model is made by. -/
structure Gd (T d : Int) : Prop where
  top : T = 1023 ∨ T = 4095
  lo : 0 ≤ d
  hi : d ≤ 63

theorem ct_id {n l h : Int} (h0 : l ≤ n) (h1 : n ≤ h) : ct n l h = n := by unfold ct; omega
theorem ct_lo {n l h : Int} (h0 : l ≤ h) : l ≤ ct n l h := by unfold ct; omega
theorem ct_hi {n l h : Int} : ct n l h ≤ h := by unfold ct; omega

theorem rg_mul (T d : Int) (G : Gd T d) : T + 2 * d + 1 ≤ rg T d * (2 * d + 1) ∧ rg T d * (2 * d + 1) ≤ T + 4 * d + 1 := by
  have h0 := G.lo
  unfold rg
  have h1 := Int.mul_ediv_add_emod (T + 2 * d) (2 * d + 1)
  have h2 := Int.emod_nonneg (T + 2 * d) (b := 2 * d + 1) (by omega)
  have h3 := Int.emod_lt_of_pos (T + 2 * d) (b := 2 * d + 1) (by omega)
  have h4 : ((T + 2 * d) / (2 * d + 1) + 1) * (2 * d + 1) = (2 * d + 1) * ((T + 2 * d) / (2 * d + 1)) + (2 * d + 1) := by rw [Int.add_mul, Int.mul_comm]; omega
  rw [h4]
  omega

theorem rg_pos (T d : Int) (G : Gd T d) : 9 ≤ rg T d ∧ rg T d ≤ 4096 := by
  have h0 := G.lo
  have h9 := G.hi
  unfold rg
  constructor
  · have : 8 ≤ (T + 2 * d) / (2 * d + 1) := by
      rw [Int.le_ediv_iff_mul_le (by omega)]
      rcases G.top with h | h <;> omega
    omega
  · have : (T + 2 * d) / (2 * d + 1) < 4096 := by
      rw [Int.ediv_lt_iff_lt_mul (by omega)]
      rcases G.top with h | h <;> omega
    omega

/-- What the unreduced quotient is. -/
theorem uq_is (d e : Int) (hd : 0 ≤ d) : -d ≤ e - uq d e * (2 * d + 1) ∧ e - uq d e * (2 * d + 1) ≤ d := by
  unfold uq
  split
  · have h1 := Int.mul_ediv_add_emod (-e + d) (2 * d + 1)
    have h2 := Int.emod_nonneg (-e + d) (b := 2 * d + 1) (by omega)
    have h3 := Int.emod_lt_of_pos (-e + d) (b := 2 * d + 1) (by omega)
    rw [Int.neg_mul, Int.mul_comm]
    omega
  · have h1 := Int.mul_ediv_add_emod (e + d) (2 * d + 1)
    have h2 := Int.emod_nonneg (e + d) (b := 2 * d + 1) (by omega)
    have h3 := Int.emod_lt_of_pos (e + d) (b := 2 * d + 1) (by omega)
    rw [Int.mul_comm]
    omega

/-- There is but one number so near. -/
theorem near_one {d e u v : Int} (hd : 0 ≤ d) (h1 : -d ≤ e - u * (2 * d + 1)) (h2 : e - u * (2 * d + 1) ≤ d)
    (h3 : -d ≤ e - v * (2 * d + 1)) (h4 : e - v * (2 * d + 1) ≤ d) : u = v := by
  have a : (u - v) * (2 * d + 1) < 1 * (2 * d + 1) := by rw [Int.sub_mul]; omega
  have b : (v - u) * (2 * d + 1) < 1 * (2 * d + 1) := by rw [Int.sub_mul]; omega
  have a' := Int.lt_of_mul_lt_mul_right a (by omega)
  have b' := Int.lt_of_mul_lt_mul_right b (by omega)
  omega

theorem uq_one {d e u : Int} (hd : 0 ≤ d) (h1 : -d ≤ e - u * (2 * d + 1)) (h2 : e - u * (2 * d + 1) ≤ d) : uq d e = u :=
  near_one hd (uq_is d e hd).1 (uq_is d e hd).2 h1 h2

theorem uq_lt (T d e : Int) (G : Gd T d) (h0 : -T ≤ e) (h1 : e ≤ T) : -rg T d < uq d e ∧ uq d e < rg T d := by
  have hm := (rg_mul T d G).1
  have hu := uq_is d e G.lo
  have hd := G.lo
  constructor
  · have : (-rg T d) * (2 * d + 1) < uq d e * (2 * d + 1) := by rw [Int.neg_mul]; omega
    exact Int.lt_of_mul_lt_mul_right this (by omega)
  · have : uq d e * (2 * d + 1) < rg T d * (2 * d + 1) := by omega
    exact Int.lt_of_mul_lt_mul_right this (by omega)

theorem rq_bounds (T d u : Int) (G : Gd T d) (h0 : -rg T d < u) (h1 : u < rg T d) : -(rg T d / 2) ≤ rq T d u ∧ rq T d u ≤ (rg T d - 1) / 2 := by
  have := rg_pos T d G
  unfold rq
  split
  · omega
  · split <;> omega

theorem bk_is (T d p x g u : Int) (G : Gd T d) (hg : g = 1 ∨ g = -1) (p0 : 0 ≤ p) (p1 : p ≤ T)
    (x0 : 0 ≤ x) (x1 : x ≤ T) (hu : -d ≤ x - (p + g * u * (2 * d + 1))) (hu' : x - (p + g * u * (2 * d + 1)) ≤ d)
    : bk T d (p + g * rq T d u * (2 * d + 1)) = p + g * u * (2 * d + 1) := by
  have hm := (rg_mul T d G).1
  have hd := G.lo
  unfold rq
  split
  · rcases hg with rfl | rfl
    · rw [Int.one_mul, Int.one_mul, Int.add_mul] at *
      unfold bk; split <;> first | omega | (split <;> omega)
    · simp only [Int.neg_mul, Int.one_mul, Int.add_mul] at *
      unfold bk; split <;> first | omega | (split <;> omega)
  · split
    · rcases hg with rfl | rfl
      · rw [Int.one_mul, Int.one_mul, Int.sub_mul] at *
        unfold bk; split <;> first | omega | (split <;> omega)
      · simp only [Int.neg_mul, Int.one_mul, Int.sub_mul] at *
        unfold bk; split <;> first | omega | (split <;> omega)
    · unfold bk
      rw [if_neg (by omega), if_neg (by omega)]

/-- P9.1, P9.2. -/
theorem near_all (T d x p g : Int) (G : Gd T d) (hg : g = 1 ∨ g = -1) (p0 : 0 ≤ p) (p1 : p ≤ T) (x0 : 0 ≤ x) (x1 : x ≤ T) :
    let q := shr T d (g * (x - p))
    let y := gro T d p (g * q)
    0 ≤ y ∧ y ≤ T ∧ -d ≤ y - x ∧ y - x ≤ d ∧ shr T d (g * (y - p)) = q ∧ -(rg T d / 2) ≤ q ∧ q ≤ (rg T d - 1) / 2 := by
  intro q y
  have hd := G.lo
  have hT : 0 ≤ T := by rcases G.top with h | h <;> omega
  have e0 : -T ≤ g * (x - p) := by rcases hg with rfl | rfl <;> omega
  have e1 : g * (x - p) ≤ T := by rcases hg with rfl | rfl <;> omega
  have hq : q = rq T d (uq d (g * (x - p))) := by
    show shr T d (g * (x - p)) = _
    unfold shr; rw [ct_id e0 e1]
  have hu := uq_is d (g * (x - p)) hd
  have hl := uq_lt T d (g * (x - p)) G e0 e1
  obtain ⟨u, hue⟩ : ∃ u, u = uq d (g * (x - p)) := ⟨_, rfl⟩
  rw [← hue] at hu hl hq
  have hb := rq_bounds T d u G hl.1 hl.2
  have hR := rg_pos T d G
  have hu1 : -d ≤ x - (p + g * u * (2 * d + 1)) ∧ x - (p + g * u * (2 * d + 1)) ≤ d := by
    rcases hg with rfl | rfl
    · rw [Int.one_mul] at *; omega
    · rw [Int.neg_mul, Int.one_mul] at *; rw [Int.neg_mul]; omega
  have hbk := bk_is T d p x g u G hg p0 p1 x0 x1 hu1.1 hu1.2
  have hgq : -rg T d ≤ g * q ∧ g * q ≤ rg T d := by
    rw [hq]; rcases hg with rfl | rfl <;> omega
  have hy : y = ct (p + g * u * (2 * d + 1)) 0 T := by
    show gro T d p (g * q) = _
    unfold gro
    rw [ct_id p0 p1, ct_id hgq.1 hgq.2, hq, hbk]
  have y0 : 0 ≤ y := by rw [hy]; exact ct_lo hT
  have y1 : y ≤ T := by rw [hy]; exact ct_hi
  have hyw : -d ≤ y - (p + g * u * (2 * d + 1)) ∧ y - (p + g * u * (2 * d + 1)) ≤ d := by
    rw [hy]; unfold ct; omega
  have hyx : -d ≤ y - x ∧ y - x ≤ d := by
    rw [hy]; unfold ct; omega
  refine ⟨y0, y1, hyx.1, hyx.2, ?_, by rw [hq]; exact hb.1, by rw [hq]; exact hb.2⟩
  have f0 : -T ≤ g * (y - p) := by rcases hg with rfl | rfl <;> omega
  have f1 : g * (y - p) ≤ T := by rcases hg with rfl | rfl <;> omega
  unfold shr
  rw [ct_id f0 f1, hq]
  congr 1
  refine uq_one hd ?_ ?_
  · rcases hg with h | h
    · rw [h, Int.one_mul] at hyw; rw [h, Int.one_mul]; omega
    · rw [h, Int.neg_mul, Int.neg_mul, Int.one_mul] at hyw; rw [h, Int.neg_mul, Int.one_mul]; omega
  · rcases hg with h | h
    · rw [h, Int.one_mul] at hyw; rw [h, Int.one_mul]; omega
    · rw [h, Int.neg_mul, Int.neg_mul, Int.one_mul] at hyw; rw [h, Int.neg_mul, Int.one_mul]; omega

theorem near_exact (T x p g : Int) (G : Gd T 0) (hg : g = 1 ∨ g = -1) (p0 : 0 ≤ p) (p1 : p ≤ T) (x0 : 0 ≤ x) (x1 : x ≤ T) :
    gro T 0 p (g * shr T 0 (g * (x - p))) = x := by
  have := near_all T 0 x p g G hg p0 p1 x0 x1
  simp only at this
  omega

/-- P9.3. -/
theorem far_zero (T d x a : Int) (G : Gd T d) (a0 : 0 ≤ a) (a1 : a ≤ T) (x0 : 0 ≤ x) (x1 : x ≤ T) (h0 : -d ≤ x - a) (h1 : x - a ≤ d) :
    shr T d (x - a) = 0 ∧ gro T d a 0 = a := by
  have hd := G.lo
  have hR := rg_pos T d G
  have hT : 0 ≤ T := by rcases G.top with h | h <;> omega
  constructor
  · unfold shr
    rw [ct_id (by omega) (by omega), uq_one (u := 0) hd (by omega) (by omega)]
    unfold rq
    rw [if_neg (by omega), if_neg (by omega)]
  · unfold gro
    rw [ct_id a0 a1, ct_id (n := 0) (l := -rg T d) (by omega) (by omega)]
    unfold bk
    rw [Int.zero_mul, Int.add_zero, if_neg (by omega), if_neg (by omega), ct_id a0 a1]

theorem far_all (T d x a : Int) (G : Gd T d) (a0 : 0 ≤ a) (a1 : a ≤ T) (x0 : 0 ≤ x) (x1 : x ≤ T) (h : d < x - a ∨ d < a - x) :
    shr T d (x - a) ≠ 0 ∧ (d < gro T d a (shr T d (x - a)) - a ∨ d < a - gro T d a (shr T d (x - a))) := by
  have hd := G.lo
  have hT : 0 ≤ T := by rcases G.top with h | h <;> omega
  have hR := rg_pos T d G
  have e0 : -T ≤ x - a := by omega
  have e1 : x - a ≤ T := by omega
  have hq : shr T d (x - a) = rq T d (uq d (x - a)) := by unfold shr; rw [ct_id e0 e1]
  have hu := uq_is d (x - a) hd
  have hl := uq_lt T d (x - a) G e0 e1
  rw [hq]
  obtain ⟨u, hue⟩ : ∃ u, u = uq d (x - a) := ⟨_, rfl⟩
  rw [← hue] at hu hl ⊢
  have hb := rq_bounds T d u G hl.1 hl.2
  have hu0 : u ≠ 0 := by rintro rfl; omega
  have hbk := bk_is T d a x 1 u G (Or.inl rfl) a0 a1 x0 x1 (by rw [Int.one_mul]; omega) (by rw [Int.one_mul]; omega)
  rw [Int.one_mul, Int.one_mul] at hbk
  have hgr : gro T d a (rq T d u) = ct (a + u * (2 * d + 1)) 0 T := by
    unfold gro
    rw [ct_id a0 a1, ct_id (n := rq T d u) (l := -rg T d) (by omega) (by omega), hbk]
  rw [hgr]
  refine ⟨?_, ?_⟩
  · unfold rq
    split
    · omega
    · split <;> omega
  · by_cases hp : 0 < u
    · have : 1 * (2 * d + 1) ≤ u * (2 * d + 1) := Int.mul_le_mul_of_nonneg_right (by omega) (by omega)
      left; unfold ct; omega
    · have : u * (2 * d + 1) ≤ (-1) * (2 * d + 1) := Int.mul_le_mul_of_nonneg_right (by omega) (by omega)
      right; unfold ct; omega
/-- The edges of degrees. -/
def e1 (T d : Int) : Int := (if T = 1023 then 6 else 18) + 3 * d
def e2 (T d : Int) : Int := (if T = 1023 then 19 else 67) + 5 * d
def e3 (T d : Int) : Int := (if T = 1023 then 72 else 276) + 7 * d
def sz (T d g : Int) : Int := if g ≤ d then 0 else if g < e1 T d then 1 else if g < e2 T d then 2 else if g < e3 T d then 3 else 4
def dg (T d g : Int) : Int := if g < 0 then -sz T d (-g) else sz T d g

theorem sz_lo (T d g : Int) : 0 ≤ sz T d g := by
  unfold sz; repeat' (first | (split) | omega)
theorem sz_hi (T d g : Int) : sz T d g ≤ 4 := by
  unfold sz; repeat' (first | (split) | omega)
theorem dg_lo (T d g : Int) : -4 ≤ dg T d g := by
  have := sz_lo T d g
  have := sz_hi T d (-g)
  unfold dg; split <;> omega
theorem dg_hi (T d g : Int) : dg T d g ≤ 4 := by
  have := sz_lo T d (-g)
  have := sz_hi T d g
  unfold dg; split <;> omega
theorem dg_neg (T d g : Int) (hd : 0 ≤ d) : dg T d (-g) = -dg T d g := by
  unfold dg
  by_cases h : g < 0
  · rw [if_pos h, if_neg (by omega)]; omega
  · by_cases h0 : g = 0
    · subst h0; simp [sz, hd]
    · rw [if_neg h, if_pos (by omega), Int.neg_neg]

/-- The context with its sign, of four numbers. -/
def fk (T d a b c e : Int) : Int := (dg T d (ct e 0 T - ct b 0 T) * 9 + dg T d (ct b 0 T - ct c 0 T)) * 9 + dg T d (ct c 0 T - ct a 0 T)
theorem fk_lo (T d a b c e : Int) : -364 ≤ fk T d a b c e := by
  have := dg_lo T d (ct e 0 T - ct b 0 T); have := dg_lo T d (ct b 0 T - ct c 0 T); have := dg_lo T d (ct c 0 T - ct a 0 T)
  unfold fk; omega
theorem fk_hi (T d a b c e : Int) : fk T d a b c e ≤ 364 := by
  have := dg_hi T d (ct e 0 T - ct b 0 T); have := dg_hi T d (ct b 0 T - ct c 0 T); have := dg_hi T d (ct c 0 T - ct a 0 T)
  unfold fk; omega
/-- P9.4. -/
theorem fk_neg (T d a b c e : Int) (hd : 0 ≤ d) (a0 : 0 ≤ a) (a1 : a ≤ T) (b0 : 0 ≤ b) (b1 : b ≤ T) (c0 : 0 ≤ c) (c1 : c ≤ T) (h0 : 0 ≤ e) (h1 : e ≤ T) :
    fk T d (T - a) (T - b) (T - c) (T - e) = -fk T d a b c e := by
  unfold fk
  rw [ct_id a0 a1, ct_id b0 b1, ct_id c0 c1, ct_id h0 h1, ct_id (n := T - a) (by omega) (by omega), ct_id (n := T - b) (by omega) (by omega), ct_id (n := T - c) (by omega) (by omega), ct_id (n := T - e) (by omega) (by omega)]
  rw [show T - e - (T - b) = -(e - b) by omega, show T - b - (T - c) = -(b - c) by omega, show T - c - (T - a) = -(c - a) by omega, dg_neg _ _ _ hd, dg_neg _ _ _ hd, dg_neg _ _ _ hd]
  omega
def fc (T d a b c e : Int) : Int := mg (fk T d a b c e)
def fs (T d a b c e : Int) : Int := if fk T d a b c e < 0 then -1 else 1

def med (a b c : Int) : Int := if max a b ≤ c then min a b else if c ≤ min a b then max a b else a + b - c
theorem med_in {a b c T : Int} (a0 : 0 ≤ a) (a1 : a ≤ T) (b0 : 0 ≤ b) (b1 : b ≤ T) : 0 ≤ med a b c ∧ med a b c ≤ T := by
  unfold med; split
  · omega
  · split <;> omega

/-- What a context has learnt. -/
structure Sx where
  A : Int
  B : Int
  S : Int
  N : Int
/-- May it be so? -/
structure Sx.Fit (s : Sx) : Prop where
  a0 : 0 ≤ s.A
  a1 : s.A ≤ 4096 * s.N
  b0 : -s.N < s.B
  b1 : s.B ≤ 0
  s0 : -128 ≤ s.S
  s1 : s.S ≤ 127
  n0 : 1 ≤ s.N
  n1 : s.N ≤ 64
def sx0 (T d : Int) : Sx := ⟨max ((rg T d + 32) / 64) 2, 0, 0, 1⟩
theorem sx0_fit (T d : Int) (G : Gd T d) : (sx0 T d).Fit := by
  have := rg_pos T d G
  exact ⟨by show 0 ≤ max ((rg T d + 32) / 64) 2; omega, by show max ((rg T d + 32) / 64) 2 ≤ 4096 * 1; omega, by show (-1 : Int) < 0; omega, by show (0 : Int) ≤ 0; omega, by show (-128 : Int) ≤ 0; omega, by show (0 : Int) ≤ 127; omega, by show (1 : Int) ≤ 1; omega, by show (1 : Int) ≤ 64; omega⟩
/-- Taken in. -/
def Sx.add (T d q : Int) (s : Sx) : Sx := ⟨s.A + mg (ct q (-rg T d) (rg T d)), s.B + ct q (-rg T d) (rg T d) * (2 * d + 1), s.S, s.N⟩
def Sx.age (s : Sx) : Sx := if s.N = 64 then ⟨s.A / 2, s.B / 2, s.S, 33⟩ else ⟨s.A, s.B, s.S, s.N + 1⟩
def Sx.follow (s : Sx) : Sx := if s.B ≤ -s.N then ⟨s.A, max (s.B + s.N) (1 - s.N), max (s.S - 1) (-128), s.N⟩ else if 0 < s.B then ⟨s.A, min (s.B - s.N) 0, min (s.S + 1) 127, s.N⟩ else s
def Sx.learn (T d q : Int) (s : Sx) : Sx := ((s.add T d q).age).follow

theorem add_a (T d q : Int) (G : Gd T d) (s : Sx) : s.A ≤ (s.add T d q).A ∧ (s.add T d q).A ≤ s.A + 4096 := by
  have := rg_pos T d G
  show s.A ≤ s.A + mg (ct q (-rg T d) (rg T d)) ∧ s.A + mg (ct q (-rg T d) (rg T d)) ≤ s.A + 4096
  have h0 := ct_lo (n := q) (l := -rg T d) (h := rg T d) (by omega)
  have h1 := ct_hi (n := q) (l := -rg T d) (h := rg T d)
  unfold mg; split <;> omega
theorem qs_in (T d q : Int) (G : Gd T d) : -4600 ≤ ct q (-rg T d) (rg T d) * (2 * d + 1) ∧ ct q (-rg T d) (rg T d) * (2 * d + 1) ≤ 4600 := by
  have hp := rg_pos T d G
  have hm := (rg_mul T d G).2
  have hd := G.lo
  have hh := G.hi
  have h0 := ct_lo (n := q) (l := -rg T d) (h := rg T d) (by omega)
  have h1 := ct_hi (n := q) (l := -rg T d) (h := rg T d)
  have m0 : (-rg T d) * (2 * d + 1) ≤ ct q (-rg T d) (rg T d) * (2 * d + 1) := Int.mul_le_mul_of_nonneg_right h0 (by omega)
  have m1 : ct q (-rg T d) (rg T d) * (2 * d + 1) ≤ rg T d * (2 * d + 1) := Int.mul_le_mul_of_nonneg_right h1 (by omega)
  rw [Int.neg_mul] at m0
  rcases G.top with h | h <;> omega

theorem age_fit (T d q : Int) (G : Gd T d) (s : Sx) (F : s.Fit) : 0 ≤ ((s.add T d q).age).A ∧ ((s.add T d q).age).A ≤ 4096 * ((s.add T d q).age).N ∧
    ((s.add T d q).age).S = s.S ∧ 2 ≤ ((s.add T d q).age).N ∧ ((s.add T d q).age).N ≤ 64 ∧ (s.N < 64 → ((s.add T d q).age).N = s.N + 1) ∧ (s.N = 64 → ((s.add T d q).age).N = 33) := by
  have ha := add_a T d q G s
  have f0 := F.a0
  have f1 := F.a1
  have n0 := F.n0
  have n1 := F.n1
  have hN : (s.add T d q).N = s.N := rfl
  have hS : (s.add T d q).S = s.S := rfl
  unfold Sx.age
  rw [hN, hS]
  split
  · refine ⟨?_, ?_, rfl, ?_, ?_, ?_, ?_⟩ <;> dsimp <;> omega
  · refine ⟨?_, ?_, rfl, ?_, ?_, ?_, ?_⟩ <;> dsimp <;> omega

theorem follow_fit (s : Sx) (a0 : 0 ≤ s.A) (a1 : s.A ≤ 4096 * s.N) (s0 : -128 ≤ s.S) (s1 : s.S ≤ 127) (n0 : 2 ≤ s.N) (n1 : s.N ≤ 64) :
    s.follow.Fit ∧ s.follow.N = s.N ∧ s.S - 1 ≤ s.follow.S ∧ s.follow.S ≤ s.S + 1 := by
  unfold Sx.follow
  split
  · refine ⟨⟨?_, ?_, ?_, ?_, ?_, ?_, ?_, ?_⟩, rfl, ?_, ?_⟩ <;> dsimp <;> omega
  · split
    · refine ⟨⟨?_, ?_, ?_, ?_, ?_, ?_, ?_, ?_⟩, rfl, ?_, ?_⟩ <;> dsimp <;> omega
    · refine ⟨⟨?_, ?_, ?_, ?_, ?_, ?_, ?_, ?_⟩, rfl, ?_, ?_⟩ <;> omega

/-- P9.5. -/
theorem learn_fit (T d q : Int) (G : Gd T d) (s : Sx) (F : s.Fit) :
    (s.learn T d q).Fit ∧ s.S - 1 ≤ (s.learn T d q).S ∧ (s.learn T d q).S ≤ s.S + 1 ∧ 2 ≤ (s.learn T d q).N ∧ (s.N < 64 → (s.learn T d q).N = s.N + 1) ∧ (s.N = 64 → (s.learn T d q).N = 33) := by
  have ⟨h1, h2, h3, h4, h5, h6, h7⟩ := age_fit T d q G s F
  have ⟨k1, k2, k3, k4⟩ := follow_fit _ h1 h2 (by rw [h3]; exact F.s0) (by rw [h3]; exact F.s1) h4 h5
  unfold Sx.learn
  rw [h3] at k3 k4
  refine ⟨k1, k3, k4, by rw [k2]; exact h4, ?_, ?_⟩
  · rw [k2]; exact h6
  · rw [k2]; exact h7
end Go.Proofs.YtahoeodpjdbdkaaDoor

namespace Go.Proofs.YtahoeodpjdbdkaaDoor
open Go.RowKit

theorem wrap_i {x : Int} (h0 : -9223372036854775808 ≤ x) (h1 : x ≤ 9223372036854775807) : IntKind.i64.wrap x = x := by
  simp only [IntKind.wrap, IntKind.bits, IntKind.signed]; simp; omega
theorem w64_in {x : Int} (h0 : -9223372036854775808 ≤ x) (h1 : x ≤ 9223372036854775807) : wrap64 x = x := by unfold wrap64; omega
theorem alloc_cell (w : World) (cs : Array Value) (t i : Nat) (v : Value) (h : cs[i]? = some v) : (w.alloc (.cells cs t (0, 0))).cell? ⟨w.heap.size, i, none⟩ = some v := by
  rw [cell_of_row _ _ _ _ _ _ (heap_alloc_new w _)]; exact h
theorem alloc_kept (w : World) (o : Obj) : Kept [] w (w.alloc o) := (Kept.refl [] w).alloc o

/-- A model's head in memory. -/
structure Hd (w : World) (P : Nat) (T d : Int) : Prop where
  c0 : w.cell? ⟨P, 0, none⟩ = some (.int .i64 T)
  c1 : w.cell? ⟨P, 1, none⟩ = some (.int .i64 d)
  c2 : w.cell? ⟨P, 2, none⟩ = some (.int .i64 (2 * d + 1))
  c3 : w.cell? ⟨P, 3, none⟩ = some (.int .i64 (rg T d))
  c4 : w.cell? ⟨P, 4, none⟩ = some (.int .i64 (e1 T d))
  c5 : w.cell? ⟨P, 5, none⟩ = some (.int .i64 (e2 T d))
  c6 : w.cell? ⟨P, 6, none⟩ = some (.int .i64 (e3 T d))

set_option maxHeartbeats 1000000 in
theorem cut_any (n l h : Int) (w : World) : Calls Tryd.prog 88 #[.int .i64 n, .int .i64 l, .int .i64 h] w fun e w' => e = .returned (.int .i64 (ct n l h)) ∧ w' = w := by
  go_enter Tryd.func88, Tryd.ntmps88
  go_wp2
  all_goals (go_ret; exact ⟨ret_int (by unfold ct; omega), rfl⟩)

set_option maxHeartbeats 1000000 in
theorem mag_any (n : Int) (w : World) (h0 : -9223372036854775807 ≤ n) (h1 : n ≤ 9223372036854775807) : Calls Tryd.prog 76 #[.int .i64 n] w fun e w' => e = .returned (.int .i64 (mg n)) ∧ w' = w := by
  by_cases h : n < 0
  · go_enter Tryd.func76, Tryd.ntmps76
    go_wp2
    go_ret
    exact ⟨ret_int (by unfold mg; rw [if_pos h]), rfl⟩
  · go_enter Tryd.func76, Tryd.ntmps76
    go_wp2
    go_ret
    exact ⟨ret_int (by unfold mg; rw [if_neg (by omega)]), rfl⟩

set_option maxHeartbeats 1000000 in
theorem sample_any (P : Nat) (T d v : Int) (w : World) (H : Hd w P T d) : Calls Tryd.prog 79 #[.pointer (some ⟨P, 0, none⟩), .int .i64 v] w fun e w' => e = .returned (.int .i64 (ct v 0 T)) ∧ w' = w := by
  have h0 := H.c0
  go_enter Tryd.func79, Tryd.ntmps79
  go_wp2_with (go_at_call 88; refine (cut_any _ _ _ _).mono ?_; rintro e w' ⟨rfl, rfl⟩)
  go_ret
  exact ⟨rfl, rfl⟩

set_option maxHeartbeats 1000000 in
theorem range_any (P : Nat) (T d : Int) (w : World) (H : Hd w P T d) : Calls Tryd.prog 59 #[.pointer (some ⟨P, 0, none⟩)] w fun e w' => e = .returned (.int .i64 (rg T d)) ∧ w' = w := by
  have h0 := H.c3
  go_enter Tryd.func59, Tryd.ntmps59
  go_wp2
  go_ret
  exact ⟨rfl, rfl⟩

set_option maxHeartbeats 1000000 in
theorem quotient_any (P : Nat) (T d v : Int) (w : World) (H : Hd w P T d) (G : Gd T d) : Calls Tryd.prog 75 #[.pointer (some ⟨P, 0, none⟩), .int .i64 v] w fun e w' => e = .returned (.int .i64 (ct v (-rg T d) (rg T d))) ∧ ∃ m, w' = w.drewN m := by
  have h0 := H.c3
  have ⟨g0, g1⟩ := rg_pos T d G
  generalize rg T d = R at *
  go_enter Tryd.func75, Tryd.ntmps75
  go_wp2
  go_quiet ((go_at_call 88; refine Calls.quiet_of_same (cut_any _ _ _ _)))
  go_wp2
  go_ret
  exact ⟨rfl, _, rfl⟩

set_option maxHeartbeats 1000000 in
theorem size_any (P : Nat) (T d g : Int) (w : World) (H : Hd w P T d) : Calls Tryd.prog 98 #[.pointer (some ⟨P, 0, none⟩), .int .i64 g] w fun e w' => e = .returned (.int .i64 (sz T d g)) ∧ w' = w := by
  obtain ⟨-, h1, -, -, h4, h5, h6⟩ := H
  unfold sz
  generalize e1 T d = a1 at *
  generalize e2 T d = a2 at *
  generalize e3 T d = a3 at *
  by_cases k0 : g ≤ d
  · rw [if_pos k0]
    go_enter Tryd.func98, Tryd.ntmps98
    go_wp2
    go_ret
    exact ⟨rfl, rfl⟩
  · rw [if_neg k0]
    by_cases k1 : g < a1
    · rw [if_pos k1]
      go_enter Tryd.func98, Tryd.ntmps98
      go_wp2
      go_ret
      exact ⟨rfl, rfl⟩
    · rw [if_neg k1]
      by_cases k2 : g < a2
      · rw [if_pos k2]
        go_enter Tryd.func98, Tryd.ntmps98
        go_wp2
        go_ret
        exact ⟨rfl, rfl⟩
      · rw [if_neg k2]
        by_cases k3 : g < a3
        · rw [if_pos k3]
          go_enter Tryd.func98, Tryd.ntmps98
          go_wp2
          go_ret
          exact ⟨rfl, rfl⟩
        · rw [if_neg k3]
          go_enter Tryd.func98, Tryd.ntmps98
          go_wp2
          go_ret
          exact ⟨rfl, rfl⟩

set_option maxHeartbeats 1000000 in
theorem degree_any (P : Nat) (T d g : Int) (w : World) (H : Hd w P T d) (g0 : -4096 ≤ g) (g1 : g ≤ 4096) : Calls Tryd.prog 91 #[.pointer (some ⟨P, 0, none⟩), .int .i64 g] w fun e w' => e = .returned (.int .i64 (dg T d g)) ∧ w' = w := by
  unfold dg
  have C := fun x => size_any P T d x w H
  by_cases h : g < 0
  · rw [if_pos h]
    have s0 := sz_lo T d (-g)
    have s1 := sz_hi T d (-g)
    have C := Hid.mk (C (-g))
    generalize sz T d (-g) = s at *
    go_enter Tryd.func91, Tryd.ntmps91
    go_wp2_with (go_at_call 98; refine C.out.mono ?_; rintro e w' ⟨rfl, rfl⟩)
    go_ret
    exact ⟨rfl, rfl⟩
  · rw [if_neg h]
    have C := Hid.mk (C g)
    generalize sz T d g = s at *
    go_enter Tryd.func91, Tryd.ntmps91
    go_wp2_with (go_at_call 98; refine C.out.mono ?_; rintro e w' ⟨rfl, rfl⟩)
    go_ret
    exact ⟨rfl, rfl⟩
end Go.Proofs.YtahoeodpjdbdkaaDoor

namespace Go.Proofs.YtahoeodpjdbdkaaDoor
open Go.RowKit

theorem Gd.tb {T d : Int} (G : Gd T d) : 1023 ≤ T ∧ T ≤ 4095 := by rcases G.top with h | h <;> omega
theorem cell_drewN (w : World) (n : Nat) (a : Addr) : (w.drewN n).cell? a = w.cell? a := by
  induction n with
  | zero => rfl
  | succ n ih => exact ih
theorem Hd.drewN {w : World} {P : Nat} {T d : Int} (H : Hd w P T d) (n : Nat) : Hd (w.drewN n) P T d := by
  obtain ⟨h0, h1, h2, h3, h4, h5, h6⟩ := H
  have e := cell_drewN w n
  exact ⟨by rw [e]; exact h0, by rw [e]; exact h1, by rw [e]; exact h2, by rw [e]; exact h3, by rw [e]; exact h4, by rw [e]; exact h5, by rw [e]; exact h6⟩

set_option maxHeartbeats 4000000 in
theorem shrink_any (P : Nat) (T d e : Int) (w : World) (H : Hd w P T d) (G : Gd T d) : Calls Tryd.prog 66 #[.pointer (some ⟨P, 0, none⟩), .int .i64 e] w fun r w' => r = .returned (.int .i64 (shr T d e)) ∧ ∃ m, w' = w.drewN m := by
  have ⟨t0, t1⟩ := G.tb
  have d0 := G.lo
  have d1 := G.hi
  have ⟨g0, g1⟩ := rg_pos T d G
  have x0 := ct_lo (n := e) (l := -T) (h := T) (by omega)
  have x1 := ct_hi (n := e) (l := -T) (h := T)
  have hx : shr T d e = rq T d (uq d (ct e (-T) T)) := rfl
  have hr : ∀ u, rq T d u = if u < -(rg T d / 2) then u + rg T d else if (rg T d - 1) / 2 < u then u - rg T d else u := fun u => rfl
  have hu : ∀ x, uq d x = if x < 0 then -((-x + d) / (2 * d + 1)) else (x + d) / (2 * d + 1) := fun x => rfl
  have hc : ct e (-T) T = min (max e (-T)) T := rfl
  have C1 := Hid.mk (fun w => cut_any e (-T) T w)
  rw [hx, hr, hu]
  have h0 := H.c0
  have h1 := H.c1
  have h2 := H.c2
  have h3 := H.c3
  clear hx hr hu hc H G
  generalize ct e (-T) T = x at *
  generalize rg T d = R at *
  have hm : mg x = if x < 0 then -x else x := rfl
  have C2 := Hid.mk (fun w => mag_any x w (by omega) (by omega))
  generalize mg x = y at *
  have y0 : 0 ≤ y ∧ y ≤ 4095 := by rw [hm]; split <;> omega
  have hU : IntKind.i64.wrap ((y + d).tdiv (2 * d + 1)) = (y + d) / (2 * d + 1) := by
    rw [Int.tdiv_eq_ediv_of_nonneg (by omega)]
    have a : 0 ≤ (y + d) / (2 * d + 1) := Int.ediv_nonneg (by omega) (by omega)
    have b : (y + d) / (2 * d + 1) < 5000 := Int.ediv_lt_of_lt_mul (by omega) (by omega)
    exact wrap_i (by omega) (by omega)
  have u0 : 0 ≤ (y + d) / (2 * d + 1) := Int.ediv_nonneg (by omega) (by omega)
  have u1 : (y + d) / (2 * d + 1) < 5000 := Int.ediv_lt_of_lt_mul (by omega) (by omega)
  have hz : 2 * d + 1 ≠ 0 := by omega
  have hy : (if x < 0 then -((-x + d) / (2 * d + 1)) else (x + d) / (2 * d + 1)) = if x < 0 then -((y + d) / (2 * d + 1)) else (y + d) / (2 * d + 1) := by
    rw [hm]; by_cases hn : x < 0
    · simp [hn]
    · simp [hn]
  rw [hy]
  clear hy hm
  generalize (y + d) / (2 * d + 1) = U at *
  by_cases hn : x < 0
  · simp only [if_pos hn]
    go_enter Tryd.func66, Tryd.ntmps66
    go_wp2
    go_quiet ((go_at_call 88; refine Calls.quiet_of_same (C1.out _)))
    go_wp2
    obtain ⟨w1, hw1, k1, k2, k3⟩ : ∃ w1, w.drewN nq = w1 ∧ w1.cell? ⟨P, 1, none⟩ = some (.int .i64 d) ∧ w1.cell? ⟨P, 2, none⟩ = some (.int .i64 (2 * d + 1)) ∧ w1.cell? ⟨P, 3, none⟩ = some (.int .i64 R) :=
      ⟨_, rfl, by rw [cell_drewN]; exact h1, by rw [cell_drewN]; exact h2, by rw [cell_drewN]; exact h3⟩
    rw [hw1]
    have hw2 := Hid.mk hw1
    clear hw1
    go_quiet ((go_at_call 76; refine Calls.quiet_of_same (C2.out _)))
    go_wp2
    all_goals (go_ret; refine ⟨ret_int ?_, _, by rw [← hw2.out, World.drewN_drewN]⟩; first | rfl | (split <;> first | omega | (split <;> omega)))
  · simp only [if_neg hn]
    go_enter Tryd.func66, Tryd.ntmps66
    go_wp2
    go_quiet ((go_at_call 88; refine Calls.quiet_of_same (C1.out _)))
    go_wp2
    obtain ⟨w1, hw1, k1, k2, k3⟩ : ∃ w1, w.drewN nq = w1 ∧ w1.cell? ⟨P, 1, none⟩ = some (.int .i64 d) ∧ w1.cell? ⟨P, 2, none⟩ = some (.int .i64 (2 * d + 1)) ∧ w1.cell? ⟨P, 3, none⟩ = some (.int .i64 R) :=
      ⟨_, rfl, by rw [cell_drewN]; exact h1, by rw [cell_drewN]; exact h2, by rw [cell_drewN]; exact h3⟩
    rw [hw1]
    have hw2 := Hid.mk hw1
    clear hw1
    go_quiet ((go_at_call 76; refine Calls.quiet_of_same (C2.out _)))
    go_wp2
    all_goals (go_ret; refine ⟨ret_int ?_, _, by rw [← hw2.out, World.drewN_drewN]⟩; first | rfl | (split <;> first | omega | (split <;> omega)))

end Go.Proofs.YtahoeodpjdbdkaaDoor

namespace Go.Proofs.YtahoeodpjdbdkaaDoor
open Go.RowKit

set_option maxHeartbeats 4000000 in
theorem grow_any (P : Nat) (T d p q : Int) (w : World) (H : Hd w P T d) (G : Gd T d) : Calls Tryd.prog 53 #[.pointer (some ⟨P, 0, none⟩), .int .i64 p, .int .i64 q] w fun r w' => r = .returned (.int .i64 (gro T d p q)) ∧ ∃ m, w' = w.drewN m := by
  have ⟨t0, t1⟩ := G.tb
  have d0 := G.lo
  have d1 := G.hi
  have ⟨g0, g1⟩ := rg_pos T d G
  have ⟨m0, m1⟩ := rg_mul T d G
  have ⟨q0, q1⟩ := qs_in T d q G
  have p0 := ct_lo (n := p) (l := 0) (h := T) (by omega)
  have p1 := ct_hi (n := p) (l := 0) (h := T)
  have hg : gro T d p q = ct (if ct p 0 T + ct q (-rg T d) (rg T d) * (2 * d + 1) < -d then ct p 0 T + ct q (-rg T d) (rg T d) * (2 * d + 1) + rg T d * (2 * d + 1) else if T + d < ct p 0 T + ct q (-rg T d) (rg T d) * (2 * d + 1) then ct p 0 T + ct q (-rg T d) (rg T d) * (2 * d + 1) - rg T d * (2 * d + 1) else ct p 0 T + ct q (-rg T d) (rg T d) * (2 * d + 1)) 0 T := rfl
  rw [hg]
  clear hg
  have C1 := Hid.mk (fun n v => sample_any P T d v (w.drewN n) (H.drewN n))
  have C2 := Hid.mk (fun n => quotient_any P T d q (w.drewN n) (H.drewN n) G)
  have C1p := Hid.mk (fun n => sample_any P T d p (w.drewN n) (H.drewN n))
  have h0 := H.c0
  have h1 := H.c1
  have h2 := H.c2
  have h3 := H.c3
  clear H G
  generalize ct p 0 T = a at *
  generalize rg T d = R at *
  generalize ct q (-R) R = b at *
  have hX : IntKind.i64.wrap (b * (2 * d + 1)) = b * (2 * d + 1) := wrap_i (by omega) (by omega)
  have hM : IntKind.i64.wrap (R * (2 * d + 1)) = R * (2 * d + 1) := wrap_i (by omega) (by omega)
  obtain ⟨M, eM⟩ : ∃ M, R * (2 * d + 1) = M := ⟨_, rfl⟩
  obtain ⟨X, eX⟩ : ∃ X, b * (2 * d + 1) = X := ⟨_, rfl⟩
  rw [eM] at m0 m1
  rw [eX] at q0 q1
  replace hM := hM.trans eM
  replace hX := hX.trans eX
  rw [eM, eX]
  clear eM eX
  have pre : ∀ nq : Nat, ∃ w1, w.drewN nq = w1 ∧ w1.cell? ⟨P, 0, none⟩ = some (.int .i64 T) ∧ w1.cell? ⟨P, 1, none⟩ = some (.int .i64 d) ∧ w1.cell? ⟨P, 2, none⟩ = some (.int .i64 (2 * d + 1)) ∧ w1.cell? ⟨P, 3, none⟩ = some (.int .i64 R) := fun nq =>
    ⟨_, rfl, by rw [cell_drewN]; exact h0, by rw [cell_drewN]; exact h1, by rw [cell_drewN]; exact h2, by rw [cell_drewN]; exact h3⟩
  have pre := Hid.mk pre
  by_cases c1 : a + X < -d
  · rw [if_pos c1]
    go_enter Tryd.func53, Tryd.ntmps53
    go_wp2
    go_quiet ((first | (go_at_call 79; refine Calls.quiet_of_same (C1p.out _)) | (go_at_call 75; refine Calls.quiet_of (C2.out _))))
    obtain ⟨w1, hw1, k0, k1, k2, k3⟩ := pre.out nq
    rw [hw1]
    have hw2 := Hid.mk hw1
    clear hw1
    go_wp2
    go_quiet (fail)
    go_wp2_with (go_at_call 79; rw [← hw2.out, World.drewN_drewN]; refine (C1.out _ _).mono ?_; rintro e w' ⟨rfl, rfl⟩)
    go_ret
    exact ⟨rfl, _, rfl⟩
  · rw [if_neg c1]
    by_cases c2 : T + d < a + X
    · rw [if_pos c2]
      go_enter Tryd.func53, Tryd.ntmps53
      go_wp2
      go_quiet ((first | (go_at_call 79; refine Calls.quiet_of_same (C1p.out _)) | (go_at_call 75; refine Calls.quiet_of (C2.out _))))
      obtain ⟨w1, hw1, k0, k1, k2, k3⟩ := pre.out nq
      rw [hw1]
      have hw2 := Hid.mk hw1
      clear hw1
      go_wp2
      go_quiet (fail)
      obtain ⟨w3, hw3, l2, l3⟩ : ∃ w3, w1.drewN nq = w3 ∧ w3.cell? ⟨P, 2, none⟩ = some (.int .i64 (2 * d + 1)) ∧ w3.cell? ⟨P, 3, none⟩ = some (.int .i64 R) :=
        ⟨_, rfl, by rw [cell_drewN]; exact k2, by rw [cell_drewN]; exact k3⟩
      rw [hw3]
      have hw4 := Hid.mk hw3
      clear hw3
      go_wp2
      go_quiet (fail)
      go_wp2_with (go_at_call 79; rw [← hw4.out, ← hw2.out, World.drewN_drewN, World.drewN_drewN]; refine (C1.out _ _).mono ?_; rintro e w' ⟨rfl, rfl⟩)
      go_ret
      exact ⟨rfl, _, rfl⟩
    · rw [if_neg c2]
      go_enter Tryd.func53, Tryd.ntmps53
      go_wp2
      go_quiet ((first | (go_at_call 79; refine Calls.quiet_of_same (C1p.out _)) | (go_at_call 75; refine Calls.quiet_of (C2.out _))))
      obtain ⟨w1, hw1, k0, k1, k2, k3⟩ := pre.out nq
      rw [hw1]
      have hw2 := Hid.mk hw1
      clear hw1
      go_wp2
      go_quiet (fail)
      go_wp2_with (go_at_call 79; rw [← hw2.out, World.drewN_drewN]; refine (C1.out _ _).mono ?_; rintro e w' ⟨rfl, rfl⟩)
      go_ret
      exact ⟨rfl, _, rfl⟩

set_option maxHeartbeats 1000000 in
theorem known_any (k : Int) (w : World) : Calls Tryd.prog 74 #[.int .i64 k] w fun e w' => e = .returned (.bool (decide (0 ≤ k ∧ k < 365))) ∧ w' = w := by
  by_cases h : 0 ≤ k
  · go_enter Tryd.func74, Tryd.ntmps74
    go_wp2
    go_ret
    exact ⟨ret_bool (by simp; try omega), rfl⟩
  · go_enter Tryd.func74, Tryd.ntmps74
    go_wp2
    go_ret
    exact ⟨ret_bool (by simp; try omega), rfl⟩

/-- Med of any numbers, as Go reckons it. -/
def gmed (a b c : Int) : Int := if max a b ≤ c then min a b else if c ≤ min a b then max a b else wrap64 (a + b - c)
theorem gmed_in {a b c : Int} (a0 : -4096 ≤ a) (a1 : a ≤ 4096) (b0 : -4096 ≤ b) (b1 : b ≤ 4096) : gmed a b c = med a b c := by
  unfold gmed med
  split
  · rfl
  · split
    · rfl
    · exact w64_in (by omega) (by omega)

theorem w64_sub (x c : Int) : wrap64 (wrap64 x - c) = wrap64 (x - c) := by unfold wrap64; omega
set_option maxHeartbeats 2000000 in
theorem med_any (a b c : Int) (w : World) : Calls Tryd.prog 92 #[.int .i64 a, .int .i64 b, .int .i64 c] w fun e w' => e = .returned (.int .i64 (gmed a b c)) ∧ w' = w := by
  go_enter Tryd.func92, Tryd.ntmps92
  go_wp2
  all_goals (go_ret; refine ⟨ret_int ?_, rfl⟩; unfold gmed; (repeat' split) <;> first | rfl | exact w64_sub _ _ | omega)

set_option maxHeartbeats 4000000 in
theorem find_any (P : Nat) (T d a b c e : Int) (w : World) (H : Hd w P T d) (G : Gd T d) : Calls Tryd.prog 72 #[.pointer (some ⟨P, 0, none⟩), .int .i64 a, .int .i64 b, .int .i64 c, .int .i64 e] w fun r w' => r = .returned (.tuple #[.int .i64 (fc T d a b c e), .int .i64 (fs T d a b c e)]) ∧ w' = w := by
  have ⟨t0, t1⟩ := G.tb
  have f0 := fk_lo T d a b c e
  have f1 := fk_hi T d a b c e
  have a0 := ct_lo (n := a) (l := 0) (h := T) (by omega)
  have a1 := ct_hi (n := a) (l := 0) (h := T)
  have b0 := ct_lo (n := b) (l := 0) (h := T) (by omega)
  have b1 := ct_hi (n := b) (l := 0) (h := T)
  have c0 := ct_lo (n := c) (l := 0) (h := T) (by omega)
  have c1 := ct_hi (n := c) (l := 0) (h := T)
  have e0 := ct_lo (n := e) (l := 0) (h := T) (by omega)
  have e1 := ct_hi (n := e) (l := 0) (h := T)
  have S := Hid.mk (fun v => sample_any P T d v w H)
  have D := Hid.mk (fun g h0 h1 => degree_any P T d g w H h0 h1)
  have hk : fk T d a b c e = (dg T d (ct e 0 T - ct b 0 T) * 9 + dg T d (ct b 0 T - ct c 0 T)) * 9 + dg T d (ct c 0 T - ct a 0 T) := rfl
  have hc : fc T d a b c e = if fk T d a b c e < 0 then -fk T d a b c e else fk T d a b c e := rfl
  have hs : fs T d a b c e = if fk T d a b c e < 0 then -1 else 1 := rfl
  rw [hc, hs]
  clear hc hs
  have x0 := dg_lo T d (ct e 0 T - ct b 0 T)
  have x1 := dg_hi T d (ct e 0 T - ct b 0 T)
  have y0 := dg_lo T d (ct b 0 T - ct c 0 T)
  have y1 := dg_hi T d (ct b 0 T - ct c 0 T)
  have z0 := dg_lo T d (ct c 0 T - ct a 0 T)
  have z1 := dg_hi T d (ct c 0 T - ct a 0 T)
  rw [hk]
  rw [hk] at f0 f1
  clear hk H
  by_cases hn : (dg T d (ct e 0 T - ct b 0 T) * 9 + dg T d (ct b 0 T - ct c 0 T)) * 9 + dg T d (ct c 0 T - ct a 0 T) < 0
  · simp only [if_pos hn]
    go_enter Tryd.func72, Tryd.ntmps72
    go_wp2_with (first | (go_at_call 79; refine (S.out _).mono ?_; rintro e w' ⟨rfl, rfl⟩) | (go_at_call 91; refine (D.out _ (by omega) (by omega)).mono ?_; rintro e w' ⟨rfl, rfl⟩))
    go_ret2
    exact ⟨rfl, rfl⟩
  · simp only [if_neg hn]
    go_enter Tryd.func72, Tryd.ntmps72
    go_wp2_with (first | (go_at_call 79; refine (S.out _).mono ?_; rintro e w' ⟨rfl, rfl⟩) | (go_at_call 91; refine (D.out _ (by omega) (by omega)).mono ?_; rintro e w' ⟨rfl, rfl⟩))
    go_ret2
    exact ⟨rfl, rfl⟩

end Go.Proofs.YtahoeodpjdbdkaaDoor

namespace Go.Proofs.YtahoeodpjdbdkaaDoor
open Go.RowKit

/-- What one context has learnt lies there. -/
structure At4 (w : World) (P o : Nat) (s : Sx) : Prop where
  blk : ∃ cs, w.heap[P]? = some (.cells cs 75 (0, 0)) ∧ o + 3 < cs.size
  ca : w.cell? ⟨P, o, none⟩ = some (.int .i64 s.A)
  cb : w.cell? ⟨P, o + 1, none⟩ = some (.int .i64 s.B)
  cs : w.cell? ⟨P, o + 2, none⟩ = some (.int .i64 s.S)
  cn : w.cell? ⟨P, o + 3, none⟩ = some (.int .i64 s.N)
theorem At4.fz {w : World} {P o : Nat} {s : Sx} (h : At4 w P o s) (i : Nat) : w.frozen? ⟨P, i, none⟩ = false := by
  obtain ⟨cs, hb, _⟩ := h.blk
  exact frozen_of_row _ _ _ _ _ hb
theorem At4.drewN {w : World} {P o : Nat} {s : Sx} (h : At4 w P o s) (n : Nat) : At4 (w.drewN n) P o s := by
  obtain ⟨⟨cs, h0, h5⟩, h1, h2, h3, h4⟩ := h
  have e : (w.drewN n).heap = w.heap := by
    induction n with
    | zero => rfl
    | succ n ih => exact ih
  exact ⟨⟨cs, by rw [e]; exact h0, h5⟩, by rw [cell_drewN]; exact h1, by rw [cell_drewN]; exact h2, by rw [cell_drewN]; exact h3, by rw [cell_drewN]; exact h4⟩

theorem cell_set_ne (w : World) (P i j : Nat) (v : Value) (h : i ≠ j) : (w.setCell ⟨P, i, none⟩ v).cell? ⟨P, j, none⟩ = w.cell? ⟨P, j, none⟩ :=
  World.cell?_setCell_other _ _ _ _ (fun e => h (congrArg Addr.off e))
theorem cell_set_eq (w : World) (P i : Nat) (cs : Array Value) (v : Value) (hb : w.heap[P]? = some (.cells cs 75 (0, 0))) (h : i < cs.size) : (w.setCell ⟨P, i, none⟩ v).cell? ⟨P, i, none⟩ = some v := by
  rw [cell_of_row _ _ _ _ _ _ (heap_setCell_at hb), Array.getElem?_setIfInBounds_self_of_lt h]

/-- The world w' is w but for these four cells. -/
structure Chg (w w' : World) (P o : Nat) (s : Sx) : Prop where
  kept : Kept [P] w w'
  now : At4 w' P o s
  size : ∀ cs, w.heap[P]? = some (.cells cs 75 (0, 0)) → ∃ cs', w'.heap[P]? = some (.cells cs' 75 (0, 0)) ∧ cs'.size = cs.size
  other : ∀ i, i < o ∨ o + 4 ≤ i → w'.cell? ⟨P, i, none⟩ = w.cell? ⟨P, i, none⟩
theorem Chg.refl {w : World} {P o : Nat} {s : Sx} (h : At4 w P o s) : Chg w w P o s := ⟨Kept.refl _ _, h, fun cs h => ⟨cs, h, rfl⟩, fun _ _ => rfl⟩
theorem Chg.drewN {w w' : World} {P o : Nat} {s : Sx} (h : Chg w w' P o s) (n : Nat) : Chg w (w'.drewN n) P o s := by
  have e : (w'.drewN n).heap = w'.heap := by
    induction n with
    | zero => rfl
    | succ n ih => exact ih
  exact ⟨h.kept.drewN n, h.now.drewN n, fun cs hc => by rw [e]; exact h.size cs hc, fun i hi => by rw [cell_drewN]; exact h.other i hi⟩
theorem Chg.set {w w' : World} {P o : Nat} {s : Sx} (h : Chg w w' P o s) (j : Nat) (hj : j < 4) (x : Int) :
    Chg w (w'.setCell ⟨P, o + j, none⟩ (.int .i64 x)) P o ⟨if j = 0 then x else s.A, if j = 1 then x else s.B, if j = 2 then x else s.S, if j = 3 then x else s.N⟩ := by
  obtain ⟨cs, hb, hl⟩ := h.now.blk
  refine ⟨h.kept.setCell (.inl (by simp)) _, ⟨⟨_, heap_setCell_at hb, by simpa using hl⟩, ?_, ?_, ?_, ?_⟩, ?_, ?_⟩
  · by_cases h0 : j = 0
    · subst h0; exact cell_set_eq _ _ _ cs _ hb (by omega)
    · rw [cell_set_ne _ _ _ _ _ (by omega)]; simp only [h0, if_false]; exact h.now.ca
  · by_cases h0 : j = 1
    · subst h0; exact cell_set_eq _ _ _ cs _ hb (by omega)
    · rw [cell_set_ne _ _ _ _ _ (by omega)]; simp only [h0, if_false]; exact h.now.cb
  · by_cases h0 : j = 2
    · subst h0; exact cell_set_eq _ _ _ cs _ hb (by omega)
    · rw [cell_set_ne _ _ _ _ _ (by omega)]; simp only [h0, if_false]; exact h.now.cs
  · by_cases h0 : j = 3
    · subst h0; exact cell_set_eq _ _ _ cs _ hb (by omega)
    · rw [cell_set_ne _ _ _ _ _ (by omega)]; simp only [h0, if_false]; exact h.now.cn
  · intro ds hd
    obtain ⟨cs', hc, hs⟩ := h.size ds hd
    exact ⟨_, heap_setCell_at hc, by simpa using hs⟩
  · intro i hi
    rw [cell_set_ne _ _ _ _ _ (by omega)]; exact h.other i hi
theorem Chg.trans {w w1 w2 : World} {P o : Nat} {s s2 : Sx} (h : Chg w w1 P o s) (k : Chg w1 w2 P o s2) : Chg w w2 P o s2 :=
  ⟨h.kept.trans k.kept, k.now, fun cs hc => by obtain ⟨ds, h1, h2⟩ := h.size cs hc; obtain ⟨es, h3, h4⟩ := k.size ds h1; exact ⟨es, h3, by omega⟩, fun i hi => (k.other i hi).trans (h.other i hi)⟩

set_option maxHeartbeats 2000000 in
theorem age_any (P o : Nat) (s : Sx) (w : World) (H : At4 w P o s) (a0 : 0 ≤ s.A) (a1 : s.A ≤ 1000000) (b0 : -1000000 ≤ s.B) (b1 : s.B ≤ 1000000) (n0 : 0 ≤ s.N) (n1 : s.N ≤ 64) :
    Calls Tryd.prog 77 #[.pointer (some ⟨P, o, none⟩)] w fun e w' => e = .returned (.tuple #[]) ∧ Chg w w' P o s.age := by
  have R := Chg.refl H
  have f0 := H.fz o
  have f1 := H.fz (o + 1)
  have f3 := H.fz (o + 3)
  obtain ⟨A, B, S, N⟩ := s
  dsimp only at *
  obtain ⟨h0, h1, h2, h3, h4⟩ := H
  dsimp only at *
  by_cases h : N = 64
  · subst h
    go_enter Tryd.func77, Tryd.ntmps77
    go_wp2
    go_end0
    exact ⟨rfl, (((R.set 0 (by omega) (A / 2)).set 1 (by omega) (B / 2)).set 3 (by omega) 32).set 3 (by omega) 33⟩
  · have e : (Sx.mk A B S N).age = ⟨A, B, S, N + 1⟩ := by simp [Sx.age, h]
    rw [e]
    clear e
    go_enter Tryd.func77, Tryd.ntmps77
    go_wp2
    go_end0
    exact ⟨rfl, R.set 3 (by omega) (N + 1)⟩

end Go.Proofs.YtahoeodpjdbdkaaDoor

namespace Go.Proofs.YtahoeodpjdbdkaaDoor
open Go.RowKit

/-- A model in memory: what each context has learnt is L. -/
structure Md (w : World) (P : Nat) (T d : Int) (L : Nat → Sx) : Prop where
  good : Gd T d
  hd : Hd w P T d
  blk : ∃ cs, w.heap[P]? = some (.cells cs 75 (0, 0)) ∧ cs.size = 1467
  ctx : ∀ k, k < 365 → At4 w P (7 + k * 4) (L k)
  fit : ∀ k, (L k).Fit

theorem At4.keep {w w' : World} {P o : Nat} {s : Sx} {ks : List Nat} (h : At4 w P o s) (hk : Kept ks w w') (hn : P ∉ ks) : At4 w' P o s := by
  obtain ⟨⟨cs, hb, hl⟩, h1, h2, h3, h4⟩ := h
  have hb' := hk.heap hb hn
  refine ⟨⟨cs, hb', hl⟩, ?_, ?_, ?_, ?_⟩
  · rw [cell_of_row _ _ _ _ _ _ hb'] ; rw [cell_of_row _ _ _ _ _ _ hb] at h1; exact h1
  · rw [cell_of_row _ _ _ _ _ _ hb'] ; rw [cell_of_row _ _ _ _ _ _ hb] at h2; exact h2
  · rw [cell_of_row _ _ _ _ _ _ hb'] ; rw [cell_of_row _ _ _ _ _ _ hb] at h3; exact h3
  · rw [cell_of_row _ _ _ _ _ _ hb'] ; rw [cell_of_row _ _ _ _ _ _ hb] at h4; exact h4
theorem Hd.keep {w w' : World} {P : Nat} {T d : Int} {ks : List Nat} {cs : Array Value} (h : Hd w P T d) (hb : w.heap[P]? = some (.cells cs 75 (0, 0))) (hk : Kept ks w w') (hn : P ∉ ks) : Hd w' P T d := by
  have hb' := hk.heap hb hn
  obtain ⟨h0, h1, h2, h3, h4, h5, h6⟩ := h
  rw [cell_of_row _ _ _ _ _ _ hb] at h0 h1 h2 h3 h4 h5 h6
  refine ⟨?_, ?_, ?_, ?_, ?_, ?_, ?_⟩
  all_goals (rw [cell_of_row _ _ _ _ _ _ hb']; assumption)
theorem Md.keep {w w' : World} {P : Nat} {T d : Int} {L : Nat → Sx} {ks : List Nat} (h : Md w P T d L) (hk : Kept ks w w') (hn : P ∉ ks) : Md w' P T d L := by
  obtain ⟨cs, hb, hs⟩ := h.blk
  exact ⟨h.good, h.hd.keep hb hk hn, ⟨cs, hk.heap hb hn, hs⟩, fun k hk' => (h.ctx k hk').keep hk hn, h.fit⟩
theorem Md.drewN {w : World} {P : Nat} {T d : Int} {L : Nat → Sx} (h : Md w P T d L) (n : Nat) : Md (w.drewN n) P T d L := h.keep ((Kept.refl [] w).drewN n) (by simp)

/-- One context has learnt otherwise. -/
def upd (L : Nat → Sx) (k : Nat) (s : Sx) : Nat → Sx := fun j => if j = k then s else L j
theorem Md.chg {w w' : World} {P : Nat} {T d : Int} {L : Nat → Sx} (h : Md w P T d L) {k : Nat} (hk : k < 365) {s : Sx} (hs : s.Fit) (hc : Chg w w' P (7 + k * 4) s) : Md w' P T d (upd L k s) := by
  obtain ⟨cs, hb, hz⟩ := h.blk
  obtain ⟨cs', hb', hz'⟩ := hc.size cs hb
  refine ⟨h.good, ?_, ⟨cs', hb', by omega⟩, ?_, ?_⟩
  · obtain ⟨h0, h1, h2, h3, h4, h5, h6⟩ := h.hd
    exact ⟨by rw [hc.other _ (by omega)]; exact h0, by rw [hc.other _ (by omega)]; exact h1, by rw [hc.other _ (by omega)]; exact h2, by rw [hc.other _ (by omega)]; exact h3, by rw [hc.other _ (by omega)]; exact h4, by rw [hc.other _ (by omega)]; exact h5, by rw [hc.other _ (by omega)]; exact h6⟩
  · intro j hj
    by_cases e : j = k
    · subst e; unfold upd; rw [if_pos rfl]; exact hc.now
    · unfold upd; rw [if_neg e]
      have a := h.ctx j hj
      exact ⟨⟨cs', hb', by omega⟩, by rw [hc.other _ (by omega)]; exact a.ca, by rw [hc.other _ (by omega)]; exact a.cb, by rw [hc.other _ (by omega)]; exact a.cs, by rw [hc.other _ (by omega)]; exact a.cn⟩
  · intro j; unfold upd; split
    · exact hs
    · exact h.fit j

/-- A context's number as a number of Go. -/
theorem ctx_nat {k : Int} (h : 0 ≤ k ∧ k < 365) : ∃ n : Nat, k = (n : Int) ∧ n < 365 := ⟨k.toNat, by omega, by omega⟩

theorem results_tmp4 {fn : Func} {t u v x : Tmp} (h : fn.results = #[.tmp t, .tmp u, .tmp v, .tmp x]) (tmps : Array Value) (P : Program) (w : World) :
    (results fn tmps).run P w = .ok (.tuple #[tmps.getD t undef, tmps.getD u undef, tmps.getD v undef, tmps.getD x undef]) w := by
  simp [results, h]
theorem four_new (w : World) (a b c d : Value) (t : Nat) : ∃ w1, w.alloc (.cells #[a, b, c, d] t (0, 0)) = w1 ∧ Kept [] w w1 ∧ w1.cell? ⟨w.heap.size, 0, none⟩ = some a ∧ w1.cell? ⟨w.heap.size, 1, none⟩ = some b ∧ w1.cell? ⟨w.heap.size, 2, none⟩ = some c ∧ w1.cell? ⟨w.heap.size, 3, none⟩ = some d :=
  ⟨_, rfl, alloc_kept _ _, alloc_cell _ _ _ _ _ rfl, alloc_cell _ _ _ _ _ rfl, alloc_cell _ _ _ _ _ rfl, alloc_cell _ _ _ _ _ rfl⟩

/-- What is told of a number: of a context, or of none. -/
def so (L : Nat → Sx) (k : Int) : Sx := if 0 ≤ k ∧ k < 365 then L k.toNat else ⟨0, 0, 0, 0⟩
theorem so_in (L : Nat → Sx) (n : Nat) (h : n < 365) : so L (n : Int) = L n := by unfold so; rw [if_pos (by omega)]; simp
theorem so_out (L : Nat → Sx) (k : Int) (h : ¬ (0 ≤ k ∧ k < 365)) : so L k = ⟨0, 0, 0, 0⟩ := if_neg h

/-- The parameter of what was learnt. -/
def pmf (A N : Int) : Nat → Nat → Nat
  | 0, k => k
  | f + 1, k => if N * 2 ^ k < A then pmf A N f (k + 1) else k
def pm (s : Sx) : Nat := pmf s.A s.N 15 0

set_option maxHeartbeats 4000000 in
theorem param_yes (P n : Nat) (T d : Int) (L : Nat → Sx) (w : World) (M : Md w P T d L) (hn : n < 365) :
    Calls Tryd.prog 57 #[.pointer (some ⟨P, 0, none⟩), .int .i64 (n : Int)] w fun e w' => e = .returned (.int .i64 (pm (L n) : Int)) ∧ Kept [] w w' := by
  have A := M.ctx n hn
  have F := M.fit n
  have K := Hid.mk (fun w => known_any (n : Int) w)
  have hd : decide (0 ≤ (n : Int) ∧ (n : Int) < 365) = true := by simp; omega
  rw [hd] at K
  clear hd
  obtain ⟨⟨cs, hb, hl⟩, h1, h2, h3, h4⟩ := A
  generalize L n = s at *
  obtain ⟨a0, a1, -, -, -, -, n0, n1⟩ := F
  obtain ⟨A, B, S, N⟩ := s
  dsimp only at *
  have HP : Hid (pm ⟨A, B, S, N⟩ = pmf A N 15 0) := Hid.mk rfl
  generalize pm ⟨A, B, S, N⟩ = R at *
  clear M hb hl
  go_enter Tryd.func57, Tryd.ntmps57
  go_wp2_with (go_at_call 74; refine (K.out _).mono ?_; rintro e w' ⟨rfl, rfl⟩)
  obtain ⟨w2, hw2, k2, z0, z1, z2, z3⟩ := four_new w' (.int .i64 A) (.int .i64 B) (.int .i64 S) (.int .i64 N) 72
  rw [hw2]
  clear hw2
  have KK := Hid.mk k2
  clear h1 h2 h3 h4 k2 K
  generalize w'.heap.size = Q at *
  go_loopw [6] (fun i wr => ∃ k : Nat, k ≤ 15 ∧ i = .int .i64 (k : Int) ∧ R = pmf A N (15 - k) k ∧ Kept [] w' wr ∧ wr.cell? ⟨Q, 0, none⟩ = some (.int .i64 A) ∧ wr.cell? ⟨Q, 3, none⟩ = some (.int .i64 N)) (fun i _ => 15 - (intOf i).toNat)
  case atStart => exact ⟨0, by omega, rfl, HP.out, KK.out, z0, z3⟩
  case round =>
    obtain ⟨k, hk, rfl, hr, hkw, y0, y3⟩ := hrel
    have HR := Hid.mk hr
    have HW := Hid.mk hkw
    clear hr hkw z0 z1 z2 z3
    by_cases hlt : k < 15
    · have ix : (k : Int) < 15 := by omega
      have p0 : (0 : Int) < 2 ^ k := Int.pow_pos (by omega)
      have p1 : (2 : Int) ^ k ≤ 32768 := by
        have := Nat.pow_le_pow_right (n := 2) (by omega) hk
        have e : ((2 ^ k : Nat) : Int) = (2 : Int) ^ k := by simp
        omega
      have q0 : 0 ≤ N * 2 ^ k := Int.mul_nonneg (by omega) (by omega)
      have q1 : N * 2 ^ k ≤ 64 * 32768 := Int.mul_le_mul n1 p1 (by omega) (by omega)
      obtain ⟨X, hX⟩ : ∃ X, N * 2 ^ k = X := ⟨_, rfl⟩
      have hx : wrap64 (N * 2 ^ k) = X := (w64_in (by omega) (by omega)).trans hX
      have HE : Hid (pmf A N (15 - k) k = if X < A then pmf A N (14 - k) (k + 1) else k) := Hid.mk (by
        rw [show 15 - k = (14 - k) + 1 by omega]; show (if N * 2 ^ k < A then _ else _) = _; rw [hX])
      clear p0 p1 q0 q1 hX
      by_cases hc : X < A
      · go_wp2
        go_quiet (fail)
        go_wp2
        go_roundw
        case rel => exact ⟨k + 1, by omega, by go_num, by rw [HR.out, HE.out, if_pos (by omega)]; congr 1; omega, HW.out.drewN _, by rw [cell_drewN]; exact y0, by rw [cell_drewN]; exact y3⟩
        case measure => simp [intOf]; omega
      · go_wp2
        go_quiet (fail)
        go_wp2
        go_ret
        exact ⟨by rw [HR.out, HE.out, if_neg (by omega)]; rfl, HW.out.drewN _⟩
    · obtain rfl : k = 15 := by omega
      go_wp2
      go_quiet (fail)
      go_wp2
      go_ret
      exact ⟨by rw [HR.out]; rfl, HW.out.drewN _⟩

/-- The parameter that is told of a number. -/
def po (L : Nat → Sx) (k : Int) : Nat := if 0 ≤ k ∧ k < 365 then pm (L k.toNat) else 0

set_option maxHeartbeats 4000000 in
theorem param_any (P : Nat) (k T d : Int) (L : Nat → Sx) (w : World) (M : Md w P T d L) :
    Calls Tryd.prog 57 #[.pointer (some ⟨P, 0, none⟩), .int .i64 k] w fun e w' => e = .returned (.int .i64 (po L k : Int)) ∧ Kept [] w w' := by
  unfold po
  by_cases h : 0 ≤ k ∧ k < 365
  · rw [if_pos h]
    obtain ⟨n, rfl, hn⟩ := ctx_nat h
    exact param_yes P n T d L w M hn
  · rw [if_neg h]
    have K := Hid.mk (fun w => known_any k w)
    rw [decide_eq_false h] at K
    clear h M
    go_enter Tryd.func57, Tryd.ntmps57
    go_wp2_with (go_at_call 74; refine (K.out _).mono ?_; rintro e w' ⟨rfl, rfl⟩)
    go_ret
    exact ⟨rfl, Kept.refl _ _⟩

end Go.Proofs.YtahoeodpjdbdkaaDoor
