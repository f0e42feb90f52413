import Derived.Test.YtmgfapooanpgfaaX1
import Derived.Test.YtmgfapooanpgfaaTh
namespace Go.Proofs.Ytmgfapooanpgfaa

/-- The lost rows; the rows more by which they are worked out. -/
def lR (go : Nat → Bool) (n : Nat) : List Nat := nm go true n n
def lU (go : Nat → Bool) (n p : Nat) : List Nat := nm (fun i => go (n + i)) false (lR go n).length p
def uF (go : Nat → Bool) (n p : Nat) : Nat → Nat → Nat := fun k t => cf ((lU go n p).getD k 0) ((lR go n).getD t 0)
def kF (go : Nat → Bool) (n p : Nat) : Nat → Nat → Nat := fun k j => if j < n then (if go j then 0 else cf ((lU go n p).getD k 0) j) else if j = n + (lU go n p).getD k 0 then 1 else 0
theorem uF_lo (go : Nat → Bool) (n p : Nat) : Lo (uF go n p) := fun _ _ => cf_lo _ _
theorem kF_lo (go : Nat → Bool) (n p : Nat) : Lo (kF go n p) := by
  intro k j
  unfold kF
  split
  · split
    · decide
    · exact cf_lo _ _
  · split <;> decide
theorem lR_len (go : Nat → Bool) (n : Nat) : (lR go n).length = cnt go n := by
  unfold lR
  rw [nm_len, cnt_congr (m' := go) (fun i _ => by cases go i <;> rfl)]
  have := cnt_le go n
  omega
theorem lU_len {go : Nat → Bool} {n p : Nat} (h : cnt go (n + p) ≤ p) : (lU go n p).length = (lR go n).length := by
  have h1 := lR_len go n
  have h2 := cnt_not (fun i => go (n + i)) p
  have h3 := cnt_le (fun i => go (n + i)) p
  rw [cnt_add] at h
  unfold lU
  rw [nm_len, cnt_congr (m' := fun i => !go (n + i)) (fun i _ => by cases go (n + i) <;> rfl), h2]
  omega
theorem nm_ix (m : Nat → Bool) (most : Nat) (k : Nat) (h : k ≤ most) : ∀ t, t < (nm m true most k).length → cnt m ((nm m true most k).getD t 0) = t := by
  induction k with
  | zero => intro t ht; simp [nm] at ht
  | succ k ih =>
    intro t ht
    have ih := ih (by omega)
    have hl : (nm m true most k).length = cnt m k := by
      rw [nm_len, cnt_congr (m' := m) (fun i _ => by cases m i <;> rfl)]
      have := cnt_le m k
      omega
    have hc := cnt_le m k
    rw [nm] at ht ⊢
    by_cases hm : m k = true
    · rw [if_pos ⟨hm, by omega⟩] at ht ⊢
      rw [List.length_append, List.length_singleton] at ht
      by_cases e : t < (nm m true most k).length
      · rw [getD_left _ _ _ e]; exact ih t e
      · have e2 : t = (nm m true most k).length := by omega
        subst e2
        rw [getD_right _ _ _ (Nat.le_refl _), Nat.sub_self]
        exact hl.symm
    · rw [if_neg (by simp [hm])] at ht ⊢
      exact ih t ht
theorem lR_ix (go : Nat → Bool) (n t : Nat) (h : t < (lR go n).length) : cnt go ((lR go n).getD t 0) = t := nm_ix go n n (Nat.le_refl _) t h
theorem lR_at {go : Nat → Bool} {n t : Nat} (h : t < (lR go n).length) : (lR go n).getD t 0 < n ∧ go ((lR go n).getD t 0) = true := nm_at h
theorem lU_at {go : Nat → Bool} {n p t : Nat} (h : t < (lU go n p).length) : (lU go n p).getD t 0 < p ∧ go (n + (lU go n p).getD t 0) = false := nm_at h
theorem lR_all {go : Nat → Bool} {n j : Nat} (hj : j < n) (hg : go j = true) : cnt go j < (lR go n).length ∧ (lR go n).getD (cnt go j) 0 = j := by
  unfold lR
  suffices h : ∀ k, k ≤ n → j < k → cnt go j < (nm go true n k).length ∧ (nm go true n k).getD (cnt go j) 0 = j from h n (Nat.le_refl _) hj
  intro k
  induction k with
  | zero => intro _ h; omega
  | succ k ih =>
    intro hk hjk
    have hl : (nm go true n k).length = cnt go k := by
      rw [nm_len, cnt_congr (m' := go) (fun i _ => by cases go i <;> rfl)]
      have := cnt_le go k
      omega
    have hc := cnt_le go k
    rw [nm]
    by_cases e : j = k
    · subst e
      rw [if_pos ⟨hg, by omega⟩, List.length_append, List.length_singleton]
      refine ⟨by omega, ?_⟩
      rw [getD_right _ _ _ (by omega), hl, Nat.sub_self]
      rfl
    · have := ih (by omega) (by omega)
      by_cases hm : go k = true
      · rw [if_pos ⟨hm, by omega⟩, List.length_append]
        exact ⟨by omega, by rw [getD_left _ _ _ this.1]; exact this.2⟩
      · rw [if_neg (by simp [hm])]; exact this

/-- A square part of Cauchy's matrix sends nothing but nought to nought. -/
theorem uF_ker {go : Nat → Bool} {n p : Nat} (hn : n ≤ 200) (hp : p ≤ 16) (hc : cnt go (n + p) ≤ p) (x : Nat → Nat) (hx : ∀ t, t < (lR go n).length → x t < 256)
    (h : ∀ k, k < (lR go n).length → sm (fun t => mu (uF go n p k t) (x t)) (lR go n).length = 0) : ∀ t, t < (lR go n).length → x t = 0 := by
  have hl := lU_len hc
  refine cauchy_ker (lR go n).length (fun k => 255 - (lU go n p).getD k 0) (fun t => (lR go n).getD t 0) x (fun i _ => by omega) (fun j hj => by have := (lR_at hj).1; omega) hx (fun i j hi hj e => ?_) (fun i j hi hj e => nm_eq hi hj e) (fun i j hi hj e => ?_) (fun i hi => h i hi)
  · have h1 := (lU_at (p := p) (by omega : i < (lU go n p).length)).1
    have h2 := (lU_at (p := p) (by omega : j < (lU go n p).length)).1
    exact nm_eq (by show i < (lU go n p).length; omega) (by show j < (lU go n p).length; omega) (by show (lU go n p).getD i 0 = (lU go n p).getD j 0; omega)
  · have h1 := (lU_at (p := p) (by omega : i < (lU go n p).length)).1
    have h2 := (lR_at hj).1
    have e2 : 255 - (lU go n p).getD i 0 = (lR go n).getD j 0 := e
    omega

theorem fn_mf_u {F : Nat → Nat → Nat} {r wd i j : Nat} (hi : i < r) (hj : j < wd) : fn (mf F r wd) i j = F i j := mf_fn F r wd i j hi hj

theorem gt_there {go : Nat → Bool} {n p : Nat} (hn : n ≤ 200) (hp : p ≤ 16) (hc : cnt go (n + p) ≤ p) (K : Nat → Nat → Nat) (wd : Nat) :
    ∃ X Y, gt (lR go n).length (fn (mf (uF go n p) (lR go n).length (lR go n).length)) (fn (mf K (lR go n).length wd)) (lR go n).length = some (X, Y) := by
  refine gt_full (fn_mf_lo (uF_lo go n p) _ _) (fun x hx h => uF_ker hn hp hc x hx (fun k hk => ?_)) _ (Nat.le_refl _)
  have := h k hk
  unfold ap at this
  rw [← this]
  exact sm_congr _ (fun t ht => by rw [fn_mf_u hk ht])

/-- The columns of what is not known are nought. -/
theorem gt_gone {go : Nat → Bool} {n p j : Nat} {X Y : Nat → Nat → Nat} (hc : cnt go (n + p) ≤ p) (h : gt (lR go n).length (fn (mf (uF go n p) (lR go n).length (lR go n).length)) (fn (mf (kF go n p) (lR go n).length (n + p))) (lR go n).length = some (X, Y)) (hj : j < n + p) (hg : go j = true) : ∀ t, t < (lR go n).length → Y t j = 0 := by
  intro t ht
  refine gt_one (x := fun _ => 0) (k := j) (fn_mf_lo (uF_lo go n p) _ _) (fn_mf_lo (kF_lo go n p) _ _) h (fun _ _ => by decide) (fun i hi => ?_) t ht
  rw [fn_mf_u hi hj]
  unfold ap kF
  rw [sm_none _ _ (fun _ _ => mu_zero _)]
  by_cases h1 : j < n
  · rw [if_pos h1, if_pos hg]
  · rw [if_neg h1, if_neg]
    intro e
    have := (lU_at (p := p) (by rw [lU_len hc]; exact hi : i < (lU go n p).length)).2
    rw [← e, hg] at this
    cases this

/-- The lost rows by what was solved. -/
def eF (go : Nat → Bool) (n p : Nat) (Y A : Nat → Nat → Nat) (j x : Nat) : Nat := sm (fun i => mu (Y (cnt go j) i) (A i x)) (n + p)
theorem eF_lt (go : Nat → Bool) (n p : Nat) (Y A : Nat → Nat → Nat) (j x : Nat) : eF go n p Y A j x < 256 := sm_lt _ _ (fun _ _ => mu_lt _ _)

/-- By the lost rows, the rows more that are used are what they must be. -/
def Slv (go : Nat → Bool) (n p : Nat) (A E : Nat → Nat → Nat) : Prop := ∀ k, k < (lR go n).length → ∀ x, sm (fun j => mu (cf ((lU go n p).getD k 0) j) (if go j then E j x else A j x)) n = A (n + (lU go n p).getD k 0) x

theorem ap_is {r : Nat} {F X : Nat → Nat → Nat} (x : Nat → Nat) (i : Nat) (hF : ∀ j, j < r → X i j = F i j) : ap r X x i = sm (fun j => mu (F i j) (x j)) r := sm_congr _ (fun j hj => by rw [hF j hj])

theorem slv_eF {go : Nat → Bool} {n p : Nat} {X Y A : Nat → Nat → Nat} (hc : cnt go (n + p) ≤ p) (hA : ∀ j x, A j x < 256) (h : gt (lR go n).length (fn (mf (uF go n p) (lR go n).length (lR go n).length)) (fn (mf (kF go n p) (lR go n).length (n + p))) (lR go n).length = some (X, Y)) : Slv go n p A (eF go n p Y A) := by
  intro k hk x
  have hu := lU_at (p := p) (by rw [lU_len hc]; exact hk : k < (lU go n p).length)
  -- the sum over the lost rows
  have h1 : sm (fun j => if go j then mu (cf ((lU go n p).getD k 0) j) (eF go n p Y A j x) else 0) n = sm (fun j => mu (kF go n p k j) (A j x)) (n + p) := by
    rw [← sm_nm go (fun j => mu (cf ((lU go n p).getD k 0) j) (eF go n p Y A j x)) n n (Nat.le_refl _)]
    show sm (fun t => mu (uF go n p k t) (eF go n p Y A ((lR go n).getD t 0) x)) (lR go n).length = _
    rw [sm_congr (g := fun t => sm (fun i => mu (uF go n p k t) (mu (Y t i) (A i x))) (n + p)) _ (fun t ht => by rw [eF, lR_ix go n t ht, sm_mu])]
    rw [sm_swap]
    refine sm_congr _ (fun i hi => ?_)
    have h2 := gt_is (fn_mf_lo (uF_lo go n p) _ _) (fn_mf_lo (kF_lo go n p) _ _) h i k hk
    rw [fn_mf_u hk hi] at h2
    rw [← h2, ap_is (F := uF go n p) _ k (fun j hj => fn_mf_u hk hj), mu_comm _ (A i x), ← sm_mu]
    exact sm_congr _ (fun t _ => by rw [mu_comm (Y t i), mu_left])
  have h3 : sm (fun j => mu (kF go n p k j) (A j x)) (n + p) = sm (fun j => if go j then 0 else mu (cf ((lU go n p).getD k 0) j) (A j x)) n ^^^ A (n + (lU go n p).getD k 0) x := by
    rw [sm_split]
    congr 1
    · refine sm_congr _ (fun j hj => ?_)
      unfold kF
      rw [if_pos hj]
      by_cases hg : go j = true
      · rw [if_pos hg, if_pos hg, zero_mu]
      · rw [if_neg hg, if_neg hg]
    · rw [sm_one _ p ((lU go n p).getD k 0) hu.1 (fun j hj hne => by
        unfold kF
        rw [if_neg (by omega), if_neg (by omega), zero_mu])]
      unfold kF
      rw [if_neg (by omega), if_pos rfl, mu_comm, mu_one (hA _ _)]
  have h4 : sm (fun j => mu (cf ((lU go n p).getD k 0) j) (if go j then eF go n p Y A j x else A j x)) n = sm (fun j => if go j then mu (cf ((lU go n p).getD k 0) j) (eF go n p Y A j x) else 0) n ^^^ sm (fun j => if go j then 0 else mu (cf ((lU go n p).getD k 0) j) (A j x)) n := by
    rw [← sm_xor]
    refine sm_congr _ (fun j _ => ?_)
    by_cases hg : go j = true
    · simp only [if_pos hg, Nat.xor_zero]
    · simp only [if_neg hg, Nat.zero_xor]
  rw [h4, h1, h3, Nat.xor_comm, ← Nat.xor_assoc, Nat.xor_self, Nat.zero_xor]

/-- There is just one answer. -/
theorem slv_one {go : Nat → Bool} {n p : Nat} {A E F : Nat → Nat → Nat} (hn : n ≤ 200) (hp : p ≤ 16) (hc : cnt go (n + p) ≤ p) (h1 : Slv go n p A E) (h2 : Slv go n p A F) (x : Nat) (hE : ∀ j, E j x < 256) (hF : ∀ j, j < n → F j x < 256) : ∀ j, j < n → go j = true → E j x = F j x := by
  have key : ∀ t, t < (lR go n).length → E ((lR go n).getD t 0) x ^^^ F ((lR go n).getD t 0) x = 0 := by
    refine uF_ker hn hp hc (fun t => E ((lR go n).getD t 0) x ^^^ F ((lR go n).getD t 0) x) (fun t ht => xor_lt (hE _) (hF _ (lR_at ht).1)) (fun k hk => ?_)
    have a := h1 k hk x
    have b := h2 k hk x
    have e : sm (fun j => mu (cf ((lU go n p).getD k 0) j) (if go j then E j x else A j x)) n ^^^ sm (fun j => mu (cf ((lU go n p).getD k 0) j) (if go j then F j x else A j x)) n = 0 := by rw [a, b, Nat.xor_self]
    rw [← sm_xor] at e
    refine Eq.trans ?_ e
    show sm (fun t => mu (cf ((lU go n p).getD k 0) ((lR go n).getD t 0)) (E ((lR go n).getD t 0) x ^^^ F ((lR go n).getD t 0) x)) (lR go n).length = _
    unfold lR
    rw [sm_nm go (fun j => mu (cf ((lU go n p).getD k 0) j) (E j x ^^^ F j x)) n n (Nat.le_refl _)]
    refine sm_congr _ (fun j _ => ?_)
    by_cases hg : go j = true
    · simp only [if_pos hg, mu_xor]
    · simp only [if_neg hg, Nat.xor_self]
  intro j hj hg
  obtain ⟨h3, h4⟩ := lR_all hj hg
  have := key _ h3
  rw [h4] at this
  exact xor_back (c := F j x) (by rw [this, Nat.xor_self])
end Go.Proofs.Ytmgfapooanpgfaa
