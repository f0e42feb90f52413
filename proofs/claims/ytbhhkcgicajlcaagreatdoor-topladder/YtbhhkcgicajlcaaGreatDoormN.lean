import Derived.Test.YtbhhkcgicajlcaaGreatDoorWZ
namespace Go.Proofs.YtbhhkcgicajlcaaGreatDoor
/-- The range: so many unlike quotients there are. -/
def rg (T d : Int) : Int := (T + 2 * d) / (2 * d + 1) + 1
def ct (n l h : Int) : Int := min (max n l) h
def mg (n : Int) : Int := if n < 0 then -n else n

/-- The unreduced quotient of an error within its bounds. -/
def uq (d e : Int) : Int := if e < 0 then -((-e + d) / (2 * d + 1)) else (e + d) / (2 * d + 1)
/-- Reduced. -/
def rq (T d q : Int) : Int := if q < -(rg T d / 2) then q + rg T d else if (rg T d - 1) / 2 < q then q - rg T d else q
def shr (T d e : Int) : Int := rq T d (uq d (ct e (-T) T))
/-- Brought back. -/
def bk (T d v : Int) : Int := if v < -d then v + rg T d * (2 * d + 1) else if T + d < v then v - rg T d * (2 * d + 1) else v
def gro (T d p q : Int) : Int := ct (bk T d (ct p 0 T + ct q (-rg T d) (rg T d) * (2 * d + 1))) 0 T

/-- What a model is made by. -/
structure Gd (T d : Int) : Prop where
  top : T = 1023 ∨ T = 4095
  lo : 0 ≤ d
  hi : d ≤ 63

theorem ct_id {n l h : Int} (h0 : l ≤ n) (h1 : n ≤ h) : ct n l h = n := by unfold ct; omega
theorem ct_lo {n l h : Int} (h0 : l ≤ h) : l ≤ ct n l h := by unfold ct; omega
theorem ct_hi {n l h : Int} : ct n l h ≤ h := by unfold ct; omega

theorem rg_mul (T d : Int) (G : Gd T d) : T + 2 * d + 1 ≤ rg T d * (2 * d + 1) ∧ rg T d * (2 * d + 1) ≤ T + 4 * d + 1 := by
  have h0 := G.lo
  unfold rg
  have h1 := Int.mul_ediv_add_emod (T + 2 * d) (2 * d + 1)
  have h2 := Int.emod_nonneg (T + 2 * d) (b := 2 * d + 1) (by omega)
  have h3 := Int.emod_lt_of_pos (T + 2 * d) (b := 2 * d + 1) (by omega)
  have h4 : ((T + 2 * d) / (2 * d + 1) + 1) * (2 * d + 1) = (2 * d + 1) * ((T + 2 * d) / (2 * d + 1)) + (2 * d + 1) := by rw [Int.add_mul, Int.mul_comm]; omega
  rw [h4]
  omega

theorem rg_pos (T d : Int) (G : Gd T d) : 9 ≤ rg T d ∧ rg T d ≤ 4096 := by
  have h0 := G.lo
  have h9 := G.hi
  unfold rg
  constructor
  · have : 8 ≤ (T + 2 * d) / (2 * d + 1) := by
      rw [Int.le_ediv_iff_mul_le (by omega)]
      rcases G.top with h | h <;> omega
    omega
  · have : (T + 2 * d) / (2 * d + 1) < 4096 := by
      rw [Int.ediv_lt_iff_lt_mul (by omega)]
      rcases G.top with h | h <;> omega
    omega

/-- What the unreduced quotient is. -/
theorem uq_is (d e : Int) (hd : 0 ≤ d) : -d ≤ e - uq d e * (2 * d + 1) ∧ e - uq d e * (2 * d + 1) ≤ d := by
  unfold uq
  split
  · have h1 := Int.mul_ediv_add_emod (-e + d) (2 * d + 1)
    have h2 := Int.emod_nonneg (-e + d) (b := 2 * d + 1) (by omega)
    have h3 := Int.emod_lt_of_pos (-e + d) (b := 2 * d + 1) (by omega)
    rw [Int.neg_mul, Int.mul_comm]
    omega
  · have h1 := Int.mul_ediv_add_emod (e + d) (2 * d + 1)
    have h2 := Int.emod_nonneg (e + d) (b := 2 * d + 1) (by omega)
    have h3 := Int.emod_lt_of_pos (e + d) (b := 2 * d + 1) (by omega)
    rw [Int.mul_comm]
    omega

/-- There is but one number so near. -/
theorem near_one {d e u v : Int} (hd : 0 ≤ d) (h1 : -d ≤ e - u * (2 * d + 1)) (h2 : e - u * (2 * d + 1) ≤ d)
    (h3 : -d ≤ e - v * (2 * d + 1)) (h4 : e - v * (2 * d + 1) ≤ d) : u = v := by
  have a : (u - v) * (2 * d + 1) < 1 * (2 * d + 1) := by rw [Int.sub_mul]; omega
  have b : (v - u) * (2 * d + 1) < 1 * (2 * d + 1) := by rw [Int.sub_mul]; omega
  have a' := Int.lt_of_mul_lt_mul_right a (by omega)
  have b' := Int.lt_of_mul_lt_mul_right b (by omega)
  omega

theorem uq_one {d e u : Int} (hd : 0 ≤ d) (h1 : -d ≤ e - u * (2 * d + 1)) (h2 : e - u * (2 * d + 1) ≤ d) : uq d e = u :=
  near_one hd (uq_is d e hd).1 (uq_is d e hd).2 h1 h2

theorem uq_lt (T d e : Int) (G : Gd T d) (h0 : -T ≤ e) (h1 : e ≤ T) : -rg T d < uq d e ∧ uq d e < rg T d := by
  have hm := (rg_mul T d G).1
  have hu := uq_is d e G.lo
  have hd := G.lo
  constructor
  · have : (-rg T d) * (2 * d + 1) < uq d e * (2 * d + 1) := by rw [Int.neg_mul]; omega
    exact Int.lt_of_mul_lt_mul_right this (by omega)
  · have : uq d e * (2 * d + 1) < rg T d * (2 * d + 1) := by omega
    exact Int.lt_of_mul_lt_mul_right this (by omega)

theorem rq_bounds (T d u : Int) (G : Gd T d) (h0 : -rg T d < u) (h1 : u < rg T d) : -(rg T d / 2) ≤ rq T d u ∧ rq T d u ≤ (rg T d - 1) / 2 := by
  have := rg_pos T d G
  unfold rq
  split
  · omega
  · split <;> omega

theorem bk_is (T d p x g u : Int) (G : Gd T d) (hg : g = 1 ∨ g = -1) (p0 : 0 ≤ p) (p1 : p ≤ T)
    (x0 : 0 ≤ x) (x1 : x ≤ T) (hu : -d ≤ x - (p + g * u * (2 * d + 1))) (hu' : x - (p + g * u * (2 * d + 1)) ≤ d)
    : bk T d (p + g * rq T d u * (2 * d + 1)) = p + g * u * (2 * d + 1) := by
  have hm := (rg_mul T d G).1
  have hd := G.lo
  unfold rq
  split
  · rcases hg with rfl | rfl
    · rw [Int.one_mul, Int.one_mul, Int.add_mul] at *
      unfold bk; split <;> first | omega | (split <;> omega)
    · simp only [Int.neg_mul, Int.one_mul, Int.add_mul] at *
      unfold bk; split <;> first | omega | (split <;> omega)
  · split
    · rcases hg with rfl | rfl
      · rw [Int.one_mul, Int.one_mul, Int.sub_mul] at *
        unfold bk; split <;> first | omega | (split <;> omega)
      · simp only [Int.neg_mul, Int.one_mul, Int.sub_mul] at *
        unfold bk; split <;> first | omega | (split <;> omega)
    · unfold bk
      rw [if_neg (by omega), if_neg (by omega)]

/-- P9.1, P9.2. -/
theorem near_all (T d x p g : Int) (G : Gd T d) (hg : g = 1 ∨ g = -1) (p0 : 0 ≤ p) (p1 : p ≤ T) (x0 : 0 ≤ x) (x1 : x ≤ T) :
    let q := shr T d (g * (x - p))
    let y := gro T d p (g * q)
    0 ≤ y ∧ y ≤ T ∧ -d ≤ y - x ∧ y - x ≤ d ∧ shr T d (g * (y - p)) = q ∧ -(rg T d / 2) ≤ q ∧ q ≤ (rg T d - 1) / 2 := by
  intro q y
  have hd := G.lo
  have hT : 0 ≤ T := by rcases G.top with h | h <;> omega
  have e0 : -T ≤ g * (x - p) := by rcases hg with rfl | rfl <;> omega
  have e1 : g * (x - p) ≤ T := by rcases hg with rfl | rfl <;> omega
  have hq : q = rq T d (uq d (g * (x - p))) := by
    show shr T d (g * (x - p)) = _
    unfold shr; rw [ct_id e0 e1]
  have hu := uq_is d (g * (x - p)) hd
  have hl := uq_lt T d (g * (x - p)) G e0 e1
  obtain ⟨u, hue⟩ : ∃ u, u = uq d (g * (x - p)) := ⟨_, rfl⟩
  rw [← hue] at hu hl hq
  have hb := rq_bounds T d u G hl.1 hl.2
  have hR := rg_pos T d G
  have hu1 : -d ≤ x - (p + g * u * (2 * d + 1)) ∧ x - (p + g * u * (2 * d + 1)) ≤ d := by
    rcases hg with rfl | rfl
    · rw [Int.one_mul] at *; omega
    · rw [Int.neg_mul, Int.one_mul] at *; rw [Int.neg_mul]; omega
  have hbk := bk_is T d p x g u G hg p0 p1 x0 x1 hu1.1 hu1.2
  have hgq : -rg T d ≤ g * q ∧ g * q ≤ rg T d := by
    rw [hq]; rcases hg with rfl | rfl <;> omega
  have hy : y = ct (p + g * u * (2 * d + 1)) 0 T := by
    show gro T d p (g * q) = _
    unfold gro
    rw [ct_id p0 p1, ct_id hgq.1 hgq.2, hq, hbk]
  have y0 : 0 ≤ y := by rw [hy]; exact ct_lo hT
  have y1 : y ≤ T := by rw [hy]; exact ct_hi
  have hyw : -d ≤ y - (p + g * u * (2 * d + 1)) ∧ y - (p + g * u * (2 * d + 1)) ≤ d := by
    rw [hy]; unfold ct; omega
  have hyx : -d ≤ y - x ∧ y - x ≤ d := by
    rw [hy]; unfold ct; omega
  refine ⟨y0, y1, hyx.1, hyx.2, ?_, by rw [hq]; exact hb.1, by rw [hq]; exact hb.2⟩
  have f0 : -T ≤ g * (y - p) := by rcases hg with rfl | rfl <;> omega
  have f1 : g * (y - p) ≤ T := by rcases hg with rfl | rfl <;> omega
  unfold shr
  rw [ct_id f0 f1, hq]
  congr 1
  refine uq_one hd ?_ ?_
  · rcases hg with h | h
    · rw [h, Int.one_mul] at hyw; rw [h, Int.one_mul]; omega
    · rw [h, Int.neg_mul, Int.neg_mul, Int.one_mul] at hyw; rw [h, Int.neg_mul, Int.one_mul]; omega
  · rcases hg with h | h
    · rw [h, Int.one_mul] at hyw; rw [h, Int.one_mul]; omega
    · rw [h, Int.neg_mul, Int.neg_mul, Int.one_mul] at hyw; rw [h, Int.neg_mul, Int.one_mul]; omega

theorem near_exact (T x p g : Int) (G : Gd T 0) (hg : g = 1 ∨ g = -1) (p0 : 0 ≤ p) (p1 : p ≤ T) (x0 : 0 ≤ x) (x1 : x ≤ T) :
    gro T 0 p (g * shr T 0 (g * (x - p))) = x := by
  have := near_all T 0 x p g G hg p0 p1 x0 x1
  simp only at this
  omega

/-- P9.3. -/
theorem far_zero (T d x a : Int) (G : Gd T d) (a0 : 0 ≤ a) (a1 : a ≤ T) (x0 : 0 ≤ x) (x1 : x ≤ T) (h0 : -d ≤ x - a) (h1 : x - a ≤ d) :
    shr T d (x - a) = 0 ∧ gro T d a 0 = a := by
  have hd := G.lo
  have hR := rg_pos T d G
  have hT : 0 ≤ T := by rcases G.top with h | h <;> omega
  constructor
  · unfold shr
    rw [ct_id (by omega) (by omega), uq_one (u := 0) hd (by omega) (by omega)]
    unfold rq
    rw [if_neg (by omega), if_neg (by omega)]
  · unfold gro
    rw [ct_id a0 a1, ct_id (n := 0) (l := -rg T d) (by omega) (by omega)]
    unfold bk
    rw [Int.zero_mul, Int.add_zero, if_neg (by omega), if_neg (by omega), ct_id a0 a1]

theorem far_all (T d x a : Int) (G : Gd T d) (a0 : 0 ≤ a) (a1 : a ≤ T) (x0 : 0 ≤ x) (x1 : x ≤ T) (h : d < x - a ∨ d < a - x) :
    shr T d (x - a) ≠ 0 ∧ (d < gro T d a (shr T d (x - a)) - a ∨ d < a - gro T d a (shr T d (x - a))) := by
  have hd := G.lo
  have hT : 0 ≤ T := by rcases G.top with h | h <;> omega
  have hR := rg_pos T d G
  have e0 : -T ≤ x - a := by omega
  have e1 : x - a ≤ T := by omega
  have hq : shr T d (x - a) = rq T d (uq d (x - a)) := by unfold shr; rw [ct_id e0 e1]
  have hu := uq_is d (x - a) hd
  have hl := uq_lt T d (x - a) G e0 e1
  rw [hq]
  obtain ⟨u, hue⟩ : ∃ u, u = uq d (x - a) := ⟨_, rfl⟩
  rw [← hue] at hu hl ⊢
  have hb := rq_bounds T d u G hl.1 hl.2
  have hu0 : u ≠ 0 := by rintro rfl; omega
  have hbk := bk_is T d a x 1 u G (Or.inl rfl) a0 a1 x0 x1 (by rw [Int.one_mul]; omega) (by rw [Int.one_mul]; omega)
  rw [Int.one_mul, Int.one_mul] at hbk
  have hgr : gro T d a (rq T d u) = ct (a + u * (2 * d + 1)) 0 T := by
    unfold gro
    rw [ct_id a0 a1, ct_id (n := rq T d u) (l := -rg T d) (by omega) (by omega), hbk]
  rw [hgr]
  refine ⟨?_, ?_⟩
  · unfold rq
    split
    · omega
    · split <;> omega
  · by_cases hp : 0 < u
    · have : 1 * (2 * d + 1) ≤ u * (2 * d + 1) := Int.mul_le_mul_of_nonneg_right (by omega) (by omega)
      left; unfold ct; omega
    · have : u * (2 * d + 1) ≤ (-1) * (2 * d + 1) := Int.mul_le_mul_of_nonneg_right (by omega) (by omega)
      right; unfold ct; omega
/-- The edges of degrees. -/
def e1 (T d : Int) : Int := (if T = 1023 then 6 else 18) + 3 * d
def e2 (T d : Int) : Int := (if T = 1023 then 19 else 67) + 5 * d
def e3 (T d : Int) : Int := (if T = 1023 then 72 else 276) + 7 * d
def sz (T d g : Int) : Int := if g ≤ d then 0 else if g < e1 T d then 1 else if g < e2 T d then 2 else if g < e3 T d then 3 else 4
def dg (T d g : Int) : Int := if g < 0 then -sz T d (-g) else sz T d g

theorem sz_lo (T d g : Int) : 0 ≤ sz T d g := by
  unfold sz; repeat' (first | (split) | omega)
theorem sz_hi (T d g : Int) : sz T d g ≤ 4 := by
  unfold sz; repeat' (first | (split) | omega)
theorem dg_lo (T d g : Int) : -4 ≤ dg T d g := by
  have := sz_lo T d g
  have := sz_hi T d (-g)
  unfold dg; split <;> omega
theorem dg_hi (T d g : Int) : dg T d g ≤ 4 := by
  have := sz_lo T d (-g)
  have := sz_hi T d g
  unfold dg; split <;> omega
theorem dg_neg (T d g : Int) (hd : 0 ≤ d) : dg T d (-g) = -dg T d g := by
  unfold dg
  by_cases h : g < 0
  · rw [if_pos h, if_neg (by omega)]; omega
  · by_cases h0 : g = 0
    · subst h0; simp [sz, hd]
    · rw [if_neg h, if_pos (by omega), Int.neg_neg]

/-- The context with its sign, of four numbers. -/
def fk (T d a b c e : Int) : Int := (dg T d (ct e 0 T - ct b 0 T) * 9 + dg T d (ct b 0 T - ct c 0 T)) * 9 + dg T d (ct c 0 T - ct a 0 T)
theorem fk_lo (T d a b c e : Int) : -364 ≤ fk T d a b c e := by
  have := dg_lo T d (ct e 0 T - ct b 0 T); have := dg_lo T d (ct b 0 T - ct c 0 T); have := dg_lo T d (ct c 0 T - ct a 0 T)
  unfold fk; omega
theorem fk_hi (T d a b c e : Int) : fk T d a b c e ≤ 364 := by
  have := dg_hi T d (ct e 0 T - ct b 0 T); have := dg_hi T d (ct b 0 T - ct c 0 T); have := dg_hi T d (ct c 0 T - ct a 0 T)
  unfold fk; omega
/-- P9.4. -/
theorem fk_neg (T d a b c e : Int) (hd : 0 ≤ d) (a0 : 0 ≤ a) (a1 : a ≤ T) (b0 : 0 ≤ b) (b1 : b ≤ T) (c0 : 0 ≤ c) (c1 : c ≤ T) (h0 : 0 ≤ e) (h1 : e ≤ T) :
    fk T d (T - a) (T - b) (T - c) (T - e) = -fk T d a b c e := by
  unfold fk
  rw [ct_id a0 a1, ct_id b0 b1, ct_id c0 c1, ct_id h0 h1, ct_id (n := T - a) (by omega) (by omega), ct_id (n := T - b) (by omega) (by omega), ct_id (n := T - c) (by omega) (by omega), ct_id (n := T - e) (by omega) (by omega)]
  rw [show T - e - (T - b) = -(e - b) by omega, show T - b - (T - c) = -(b - c) by omega, show T - c - (T - a) = -(c - a) by omega, dg_neg _ _ _ hd, dg_neg _ _ _ hd, dg_neg _ _ _ hd]
  omega
def fc (T d a b c e : Int) : Int := mg (fk T d a b c e)
def fs (T d a b c e : Int) : Int := if fk T d a b c e < 0 then -1 else 1

def med (a b c : Int) : Int := if max a b ≤ c then min a b else if c ≤ min a b then max a b else a + b - c
theorem med_in {a b c T : Int} (a0 : 0 ≤ a) (a1 : a ≤ T) (b0 : 0 ≤ b) (b1 : b ≤ T) : 0 ≤ med a b c ∧ med a b c ≤ T := by
  unfold med; split
  · omega
  · split <;> omega

/-- What a context has learnt. -/
structure Sx where
  A : Int
  B : Int
  S : Int
  N : Int
/-- May it be so? -/
structure Sx.Fit (s : Sx) : Prop where
  a0 : 0 ≤ s.A
  a1 : s.A ≤ 4096 * s.N
  b0 : -s.N < s.B
  b1 : s.B ≤ 0
  s0 : -128 ≤ s.S
  s1 : s.S ≤ 127
  n0 : 1 ≤ s.N
  n1 : s.N ≤ 64
def sx0 (T d : Int) : Sx := ⟨max ((rg T d + 32) / 64) 2, 0, 0, 1⟩
theorem sx0_fit (T d : Int) (G : Gd T d) : (sx0 T d).Fit := by
  have := rg_pos T d G
  exact ⟨by show 0 ≤ max ((rg T d + 32) / 64) 2; omega, by show max ((rg T d + 32) / 64) 2 ≤ 4096 * 1; omega, by show (-1 : Int) < 0; omega, by show (0 : Int) ≤ 0; omega, by show (-128 : Int) ≤ 0; omega, by show (0 : Int) ≤ 127; omega, by show (1 : Int) ≤ 1; omega, by show (1 : Int) ≤ 64; omega⟩
/-- Taken in. -/
def Sx.add (T d q : Int) (s : Sx) : Sx := ⟨s.A + mg (ct q (-rg T d) (rg T d)), s.B + ct q (-rg T d) (rg T d) * (2 * d + 1), s.S, s.N⟩
def Sx.age (s : Sx) : Sx := if s.N = 64 then ⟨s.A / 2, s.B / 2, s.S, 33⟩ else ⟨s.A, s.B, s.S, s.N + 1⟩
def Sx.follow (s : Sx) : Sx := if s.B ≤ -s.N then ⟨s.A, max (s.B + s.N) (1 - s.N), max (s.S - 1) (-128), s.N⟩ else if 0 < s.B then ⟨s.A, min (s.B - s.N) 0, min (s.S + 1) 127, s.N⟩ else s
def Sx.learn (T d q : Int) (s : Sx) : Sx := ((s.add T d q).age).follow

theorem add_a (T d q : Int) (G : Gd T d) (s : Sx) : s.A ≤ (s.add T d q).A ∧ (s.add T d q).A ≤ s.A + 4096 := by
  have := rg_pos T d G
  show s.A ≤ s.A + mg (ct q (-rg T d) (rg T d)) ∧ s.A + mg (ct q (-rg T d) (rg T d)) ≤ s.A + 4096
  have h0 := ct_lo (n := q) (l := -rg T d) (h := rg T d) (by omega)
  have h1 := ct_hi (n := q) (l := -rg T d) (h := rg T d)
  unfold mg; split <;> omega
theorem qs_in (T d q : Int) (G : Gd T d) : -4600 ≤ ct q (-rg T d) (rg T d) * (2 * d + 1) ∧ ct q (-rg T d) (rg T d) * (2 * d + 1) ≤ 4600 := by
  have hp := rg_pos T d G
  have hm := (rg_mul T d G).2
  have hd := G.lo
  have hh := G.hi
  have h0 := ct_lo (n := q) (l := -rg T d) (h := rg T d) (by omega)
  have h1 := ct_hi (n := q) (l := -rg T d) (h := rg T d)
  have m0 : (-rg T d) * (2 * d + 1) ≤ ct q (-rg T d) (rg T d) * (2 * d + 1) := Int.mul_le_mul_of_nonneg_right h0 (by omega)
  have m1 : ct q (-rg T d) (rg T d) * (2 * d + 1) ≤ rg T d * (2 * d + 1) := Int.mul_le_mul_of_nonneg_right h1 (by omega)
  rw [Int.neg_mul] at m0
  rcases G.top with h | h <;> omega

theorem age_fit (T d q : Int) (G : Gd T d) (s : Sx) (F : s.Fit) : 0 ≤ ((s.add T d q).age).A ∧ ((s.add T d q).age).A ≤ 4096 * ((s.add T d q).age).N ∧
    ((s.add T d q).age).S = s.S ∧ 2 ≤ ((s.add T d q).age).N ∧ ((s.add T d q).age).N ≤ 64 ∧ (s.N < 64 → ((s.add T d q).age).N = s.N + 1) ∧ (s.N = 64 → ((s.add T d q).age).N = 33) := by
  have ha := add_a T d q G s
  have f0 := F.a0
  have f1 := F.a1
  have n0 := F.n0
  have n1 := F.n1
  have hN : (s.add T d q).N = s.N := rfl
  have hS : (s.add T d q).S = s.S := rfl
  unfold Sx.age
  rw [hN, hS]
  split
  · refine ⟨?_, ?_, rfl, ?_, ?_, ?_, ?_⟩ <;> dsimp <;> omega
  · refine ⟨?_, ?_, rfl, ?_, ?_, ?_, ?_⟩ <;> dsimp <;> omega

theorem follow_fit (s : Sx) (a0 : 0 ≤ s.A) (a1 : s.A ≤ 4096 * s.N) (s0 : -128 ≤ s.S) (s1 : s.S ≤ 127) (n0 : 2 ≤ s.N) (n1 : s.N ≤ 64) :
    s.follow.Fit ∧ s.follow.N = s.N ∧ s.S - 1 ≤ s.follow.S ∧ s.follow.S ≤ s.S + 1 := by
  unfold Sx.follow
  split
  · refine ⟨⟨?_, ?_, ?_, ?_, ?_, ?_, ?_, ?_⟩, rfl, ?_, ?_⟩ <;> dsimp <;> omega
  · split
    · refine ⟨⟨?_, ?_, ?_, ?_, ?_, ?_, ?_, ?_⟩, rfl, ?_, ?_⟩ <;> dsimp <;> omega
    · refine ⟨⟨?_, ?_, ?_, ?_, ?_, ?_, ?_, ?_⟩, rfl, ?_, ?_⟩ <;> omega

/-- P9.5. -/
theorem learn_fit (T d q : Int) (G : Gd T d) (s : Sx) (F : s.Fit) :
    (s.learn T d q).Fit ∧ s.S - 1 ≤ (s.learn T d q).S ∧ (s.learn T d q).S ≤ s.S + 1 ∧ 2 ≤ (s.learn T d q).N ∧ (s.N < 64 → (s.learn T d q).N = s.N + 1) ∧ (s.N = 64 → (s.learn T d q).N = 33) := by
  have ⟨h1, h2, h3, h4, h5, h6, h7⟩ := age_fit T d q G s F
  have ⟨k1, k2, k3, k4⟩ := follow_fit _ h1 h2 (by rw [h3]; exact F.s0) (by rw [h3]; exact F.s1) h4 h5
  unfold Sx.learn
  rw [h3] at k3 k4
  refine ⟨k1, k3, k4, by rw [k2]; exact h4, ?_, ?_⟩
  · rw [k2]; exact h6
  · rw [k2]; exact h7
end Go.Proofs.YtbhhkcgicajlcaaGreatDoor
