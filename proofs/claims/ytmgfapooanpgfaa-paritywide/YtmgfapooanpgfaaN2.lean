import Derived.Test.YtmgfapooanpgfaaN1
namespace Go.Proofs.Ytmgfapooanpgfaa
open Go Go.RowKit

/-- A sum of n elements. -/
def sm (f : Nat → Nat) : Nat → Nat
  | 0 => 0
  | n + 1 => sm f n ^^^ f n

theorem sm_congr {f g : Nat → Nat} (n : Nat) (h : ∀ j, j < n → f j = g j) : sm f n = sm g n := by
  induction n with
  | zero => rfl
  | succ n ih => rw [sm, sm, ih (fun j hj => h j (by omega)), h n (by omega)]
theorem sm_lt (f : Nat → Nat) (n : Nat) (h : ∀ j, j < n → f j < 256) : sm f n < 256 := by
  induction n with
  | zero => show 0 < 256; decide
  | succ n ih => exact xor_lt (ih (fun j hj => h j (by omega))) (h n (by omega))
theorem xor_4 (a b c d : Nat) : (a ^^^ b) ^^^ (c ^^^ d) = (a ^^^ c) ^^^ (b ^^^ d) := by
  rw [Nat.xor_assoc, ← Nat.xor_assoc b, Nat.xor_comm b c, Nat.xor_assoc c, ← Nat.xor_assoc a]
theorem sm_xor (f g : Nat → Nat) (n : Nat) : sm (fun j => f j ^^^ g j) n = sm f n ^^^ sm g n := by
  induction n with
  | zero => rw [sm, sm, sm, Nat.xor_self]
  | succ n ih => rw [sm, sm, sm, ih, xor_4]
theorem sm_mu (s : Nat) (f : Nat → Nat) (n : Nat) : sm (fun j => mu s (f j)) n = mu s (sm f n) := by
  induction n with
  | zero => rw [sm, sm, mu_zero]
  | succ n ih => rw [sm, sm, ih, mu_xor]
theorem sm_none (f : Nat → Nat) (n : Nat) (h : ∀ j, j < n → f j = 0) : sm f n = 0 := by
  induction n with
  | zero => rfl
  | succ n ih => rw [sm, ih (fun j hj => h j (by omega)), h n (by omega)]; rfl
theorem sm_one (f : Nat → Nat) (n k : Nat) (hk : k < n) (h : ∀ j, j < n → j ≠ k → f j = 0) : sm f n = f k := by
  induction n with
  | zero => omega
  | succ n ih =>
    rw [sm]
    by_cases e : k = n
    · subst e; rw [sm_none f k (fun j hj => h j (by omega) (by omega)), Nat.zero_xor]
    · rw [ih (by omega) (fun j hj => h j (by omega)), h n (by omega) (by omega), Nat.xor_zero]

/-- A matrix by a column. -/
def ap (n : Nat) (A : Nat → Nat → Nat) (x : Nat → Nat) (i : Nat) : Nat := sm (fun j => mu (A i j) (x j)) n

/-- Two rows' places. -/
def sw (a b i : Nat) : Nat := if i = a then b else if i = b then a else i
theorem sw_sw (a b i : Nat) : sw a b (sw a b i) = i := by
  unfold sw
  by_cases h1 : i = a
  · subst h1; by_cases h2 : b = i <;> simp [h2]
  · by_cases h2 : i = b
    · subst h2; simp [h1]
    · simp [h1, h2]
theorem sw_lt {a b i n : Nat} (ha : a < n) (hb : b < n) (hi : i < n) : sw a b i < n := by
  unfold sw; split
  · exact hb
  · split
    · exact ha
    · exact hi
theorem sw_left (a b : Nat) : sw a b a = b := by simp [sw]
theorem sw_inj {a b i j : Nat} (h : sw a b i = sw a b j) : i = j := by
  have := congrArg (sw a b) h
  rwa [sw_sw, sw_sw] at this

/-- One column cleared, by the row r. -/
def st (A : Nat → Nat → Nat) (c r : Nat) (X : Nat → Nat → Nat) : Nat → Nat → Nat := fun i j =>
  if i = c then mu (iv (A r c)) (X r j) else X (sw c r i) j ^^^ mu (A (sw c r i) c) (mu (iv (A r c)) (X r j))

theorem ap_st (n : Nat) (A : Nat → Nat → Nat) (c r : Nat) (x : Nat → Nat) (i : Nat) :
    ap n (st A c r A) x i = if i = c then mu (iv (A r c)) (ap n A x r) else ap n A x (sw c r i) ^^^ mu (A (sw c r i) c) (mu (iv (A r c)) (ap n A x r)) := by
  unfold ap st
  by_cases h : i = c
  · simp only [h, if_true]
    rw [← sm_mu]
    exact sm_congr n (fun j _ => by rw [mu_assoc])
  · simp only [h, if_false]
    rw [← sm_mu, ← sm_mu, ← sm_xor]
    exact sm_congr n (fun j _ => by rw [xor_mu, mu_assoc, mu_assoc])

/-- What solves the rows solves the cleared ones. -/
theorem st_on {n : Nat} {A X : Nat → Nat → Nat} {c r k : Nat} {x : Nat → Nat} (hc : c < n) (hr : r < n) (h : ∀ i, i < n → ap n A x i = X i k) : ∀ i, i < n → ap n (st A c r A) x i = st A c r X i k := by
  intro i hi
  rw [ap_st, h r hr, h _ (sw_lt hc hr hi)]
  rfl

theorem xor_back {a b c : Nat} (h : a ^^^ c = b ^^^ c) : a = b := by
  have := congrArg (· ^^^ c) h
  simpa [Nat.xor_assoc] using this

theorem ap_lt (n : Nat) (A : Nat → Nat → Nat) (x : Nat → Nat) (i : Nat) : ap n A x i < 256 := sm_lt _ _ (fun _ _ => mu_lt _ _)

/-- And back. -/
theorem st_back {n : Nat} {A X : Nat → Nat → Nat} {c r k : Nat} {x : Nat → Nat} (hc : c < n) (hr : r < n) (hp : A r c ≠ 0) (ha : A r c < 256) (hX : X r k < 256)
    (h : ∀ i, i < n → ap n (st A c r A) x i = st A c r X i k) : ∀ i, i < n → ap n A x i = X i k := by
  have h1 := h c hc
  rw [ap_st] at h1
  simp only [st, if_true] at h1
  have hrr : ap n A x r = X r k := by
    have h2 := congrArg (mu (A r c)) h1
    rw [← mu_assoc, ← mu_assoc, mu_iv hp ha, one_mu hX, one_mu (ap_lt _ _ _ _)] at h2
    exact h2
  have hs : ∀ i, i < n → ap n A x (sw c r i) = X (sw c r i) k := by
    intro i hi
    by_cases e : i = c
    · subst e; rw [sw_left]; exact hrr
    · have h2 := h i hi
      rw [ap_st] at h2
      simp only [st, e, if_false] at h2
      rw [hrr] at h2
      exact xor_back h2
  intro i hi
  have := hs (sw c r i) (sw_lt hc hr hi)
  rwa [sw_sw] at this

/-- Below 256. -/
def Lo (X : Nat → Nat → Nat) : Prop := ∀ i j, X i j < 256
theorem st_lo {A X : Nat → Nat → Nat} {c r : Nat} (hX : Lo X) : Lo (st A c r X) := by
  intro i j
  unfold st
  split
  · exact mu_lt _ _
  · exact xor_lt (hX _ _) (mu_lt _ _)

/-- The first columns are those of one. -/
def Un (n c : Nat) (A : Nat → Nat → Nat) : Prop := ∀ i j, i < n → j < c → A i j = if i = j then 1 else 0

theorem un_st {n c r : Nat} {A : Nat → Nat → Nat} (hc : c < n) (hr : r < n) (hcr : c ≤ r) (hp : A r c ≠ 0) (hA : Lo A) (h : Un n c A) : Un n (c + 1) (st A c r A) := by
  intro i j hi hj
  unfold st
  by_cases hjc : j = c
  · subst hjc
    rw [iv_mu hp (hA _ _), mu_one (hA _ _), Nat.xor_self]
  · have hj2 : j < c := by omega
    have h0 : A r j = 0 := by rw [h r j hr hj2, if_neg (by omega)]
    rw [h0, mu_zero, mu_zero, Nat.xor_zero]
    by_cases e : i = c
    · subst e; rw [if_pos rfl, if_neg (by omega)]
    · rw [if_neg e, h _ j (sw_lt hc hr hi) hj2]
      have : (sw c r i = j) = (i = j) := by
        apply propext
        unfold sw
        rw [if_neg e]
        split <;> omega
      simp [this]

/-- The row that is taken for a column: the first from c on that has something there. -/
def pv (A : Nat → Nat → Nat) (c : Nat) (r : Nat) : Nat → Option Nat
  | 0 => none
  | k + 1 => if A r c = 0 then pv A c (r + 1) k else some r

theorem pv_some {A : Nat → Nat → Nat} {c : Nat} (k r p : Nat) (h : pv A c r k = some p) : r ≤ p ∧ p < r + k ∧ A p c ≠ 0 ∧ ∀ i, r ≤ i → i < p → A i c = 0 := by
  induction k generalizing r with
  | zero => simp [pv] at h
  | succ k ih =>
    rw [pv] at h
    split at h
    · rename_i h0
      obtain ⟨h1, h2, h3, h4⟩ := ih (r + 1) h
      refine ⟨by omega, by omega, h3, fun i hi hp => ?_⟩
      by_cases e : i = r
      · subst e; exact h0
      · exact h4 i (by omega) hp
    · rename_i h0
      cases h
      exact ⟨Nat.le_refl _, by omega, h0, fun i h1 h2 => by omega⟩
theorem pv_none {A : Nat → Nat → Nat} {c : Nat} (k r : Nat) (h : pv A c r k = none) : ∀ i, r ≤ i → i < r + k → A i c = 0 := by
  induction k generalizing r with
  | zero => intro i h1 h2; omega
  | succ k ih =>
    rw [pv] at h
    split at h
    · rename_i h0
      intro i h1 h2
      by_cases e : i = r
      · subst e; exact h0
      · exact ih (r + 1) h i (by omega) (by omega)
    · cases h
theorem pv_of {A : Nat → Nat → Nat} {c : Nat} (k r p : Nat) (h1 : r ≤ p) (h2 : p < r + k) (h3 : A p c ≠ 0) (h4 : ∀ i, r ≤ i → i < p → A i c = 0) : pv A c r k = some p := by
  induction k generalizing r with
  | zero => omega
  | succ k ih =>
    rw [pv]
    by_cases e : r = p
    · subst e; rw [if_neg h3]
    · rw [if_pos (h4 r (Nat.le_refl _) (by omega)), ih (r + 1) (by omega) (by omega) (fun i hi hp => h4 i (by omega) hp)]
theorem pv_no {A : Nat → Nat → Nat} {c : Nat} (k r : Nat) (h : ∀ i, r ≤ i → i < r + k → A i c = 0) : pv A c r k = none := by
  induction k generalizing r with
  | zero => rfl
  | succ k ih => rw [pv, if_pos (h r (Nat.le_refl _) (by omega)), ih (r + 1) (fun i h1 h2 => h i (by omega) (by omega))]

/-- Gauss: of k columns more, from c on. -/
def gs (n : Nat) (c : Nat) (A B : Nat → Nat → Nat) : Nat → Option (Nat → Nat → Nat)
  | 0 => some B
  | k + 1 => match pv A c c (n - c) with
    | none => none
    | some r => gs n (c + 1) (st A c r A) (st A c r B) k

/-- What the code leaves behind: the state ahead of the column c, or that there is none. -/
def gt (n : Nat) (A B : Nat → Nat → Nat) : Nat → Option ((Nat → Nat → Nat) × (Nat → Nat → Nat))
  | 0 => some (A, B)
  | c + 1 => match gt n A B c with
    | none => none
    | some (X, Y) => match pv X c c (n - c) with
      | none => none
      | some r => some (st X c r X, st X c r Y)

theorem gt_lo {n : Nat} {A B : Nat → Nat → Nat} (hA : Lo A) (hB : Lo B) (c : Nat) {X Y : Nat → Nat → Nat} (h : gt n A B c = some (X, Y)) : Lo X ∧ Lo Y := by
  induction c generalizing X Y with
  | zero => cases h; exact ⟨hA, hB⟩
  | succ c ih =>
    rw [gt] at h
    split at h
    · cases h
    · rename_i X0 Y0 h0
      split at h
      · cases h
      · cases h
        obtain ⟨h1, h2⟩ := ih h0
        exact ⟨st_lo h1, st_lo h2⟩

theorem gt_un {n : Nat} {A B : Nat → Nat → Nat} (hA : Lo A) (hB : Lo B) (c : Nat) (hc : c ≤ n) {X Y : Nat → Nat → Nat} (h : gt n A B c = some (X, Y)) : Un n c X := by
  induction c generalizing X Y with
  | zero => intro i j _ hj; omega
  | succ c ih =>
    rw [gt] at h
    split at h
    · cases h
    · rename_i X0 Y0 h0
      split at h
      · cases h
      · rename_i r hr
        cases h
        obtain ⟨h1, h2, h3, _⟩ := pv_some _ _ _ hr
        exact un_st (by omega) (by omega) h1 h3 (gt_lo hA hB c h0).1 (ih (by omega) h0)

/-- What solves A, B solves what comes of them; and back. -/
theorem gt_on {n : Nat} {A B : Nat → Nat → Nat} (c : Nat) (hc : c ≤ n) {X Y : Nat → Nat → Nat} (h : gt n A B c = some (X, Y)) {x : Nat → Nat} {k : Nat} (hx : ∀ i, i < n → ap n A x i = B i k) : ∀ i, i < n → ap n X x i = Y i k := by
  induction c generalizing X Y with
  | zero => cases h; exact hx
  | succ c ih =>
    rw [gt] at h
    split at h
    · cases h
    · rename_i X0 Y0 h0
      split at h
      · cases h
      · rename_i r hr
        cases h
        obtain ⟨h1, h2, _, _⟩ := pv_some _ _ _ hr
        exact st_on (by omega) (by omega) (ih (by omega) h0)
theorem gt_back {n : Nat} {A B : Nat → Nat → Nat} (hA : Lo A) (hB : Lo B) (c : Nat) (hc : c ≤ n) {X Y : Nat → Nat → Nat} (h : gt n A B c = some (X, Y)) {x : Nat → Nat} {k : Nat} (hx : ∀ i, i < n → ap n X x i = Y i k) : ∀ i, i < n → ap n A x i = B i k := by
  induction c generalizing X Y with
  | zero => cases h; exact hx
  | succ c ih =>
    rw [gt] at h
    split at h
    · cases h
    · rename_i X0 Y0 h0
      split at h
      · cases h
      · rename_i r hr
        cases h
        obtain ⟨h1, h2, h3, _⟩ := pv_some _ _ _ hr
        obtain ⟨l1, l2⟩ := gt_lo hA hB c h0
        exact ih (by omega) h0 (st_back (by omega) (by omega) h3 (l1 _ _) (l2 _ _) hx)

theorem ap_un {n : Nat} {X : Nat → Nat → Nat} (h : Un n n X) {x : Nat → Nat} (hx : ∀ i, i < n → x i < 256) (i : Nat) (hi : i < n) : ap n X x i = x i := by
  unfold ap
  rw [sm_one _ n i hi (fun j hj hn => by rw [h i j hi hj, if_neg (Ne.symm hn), zero_mu]), h i i hi hi, if_pos rfl, one_mu (hx i hi)]

/-- What is found is the one that solves. -/
theorem gt_one {n : Nat} {A B : Nat → Nat → Nat} (hA : Lo A) (hB : Lo B) {X Y : Nat → Nat → Nat} (h : gt n A B n = some (X, Y)) {x : Nat → Nat} {k : Nat} (hl : ∀ i, i < n → x i < 256) (hx : ∀ i, i < n → ap n A x i = B i k) : ∀ i, i < n → Y i k = x i := by
  intro i hi
  rw [← gt_on n (Nat.le_refl _) h hx i hi]
  exact ap_un (gt_un hA hB n (Nat.le_refl _) h) hl i hi
/-- What is found solves. -/
theorem gt_is {n : Nat} {A B : Nat → Nat → Nat} (hA : Lo A) (hB : Lo B) {X Y : Nat → Nat → Nat} (h : gt n A B n = some (X, Y)) (k : Nat) : ∀ i, i < n → ap n A (fun j => Y j k) i = B i k := by
  refine gt_back hA hB n (Nat.le_refl _) h (fun i hi => ?_)
  exact ap_un (gt_un hA hB n (Nat.le_refl _) h) (fun i _ => (gt_lo hA hB n h).2 i k) i hi

/-- Whether it comes to an end hangs on A alone. -/
theorem gt_any {n : Nat} {A B : Nat → Nat → Nat} (B2 : Nat → Nat → Nat) (c : Nat) {X Y : Nat → Nat → Nat} (h : gt n A B c = some (X, Y)) : ∃ Y2, gt n A B2 c = some (X, Y2) := by
  induction c generalizing X Y with
  | zero => cases h; exact ⟨B2, rfl⟩
  | succ c ih =>
    rw [gt] at h
    split at h
    · cases h
    · rename_i X0 Y0 h0
      split at h
      · cases h
      · rename_i r hr
        cases h
        obtain ⟨Y2, h2⟩ := ih h0
        exact ⟨st X0 c r Y2, by rw [gt, h2]; simp only [hr]⟩

/-- Two equal rows: it can't be solved. -/
theorem gt_twice {n : Nat} {A B : Nat → Nat → Nat} (hA : Lo A) {k l : Nat} (hk : k < n) (hl : l < n) (hn : k ≠ l) (he : ∀ j, j < n → A k j = A l j) : gt n A B n = none := by
  rcases h : gt n A B n with _ | ⟨X, Y⟩
  · rfl
  · exfalso
    obtain ⟨Y2, h2⟩ := gt_any (fun i _ => if i = k then 1 else 0) n h
    have hB2 : Lo (fun i _ => if i = k then 1 else 0) := by intro i j; show (if i = k then 1 else 0) < 256; split <;> decide
    have h3 := gt_is hA hB2 h2 0
    have h4 := h3 k hk
    have h5 := h3 l hl
    have h6 : ap n A (fun j => Y2 j 0) k = ap n A (fun j => Y2 j 0) l := sm_congr n (fun j hj => by rw [he j hj])
    rw [h4, h5, if_pos rfl, if_neg (Ne.symm hn)] at h6
    cases h6

/-- Where nothing but noughts goes to noughts, it can be solved. -/
theorem gt_full {n : Nat} {A B : Nat → Nat → Nat} (hA : Lo A) (hk : ∀ x : Nat → Nat, (∀ i, i < n → x i < 256) → (∀ i, i < n → ap n A x i = 0) → ∀ i, i < n → x i = 0) (c : Nat) (hc : c ≤ n) : ∃ X Y, gt n A B c = some (X, Y) := by
  induction c with
  | zero => exact ⟨A, B, rfl⟩
  | succ c ih =>
    obtain ⟨X, Y, h⟩ := ih (by omega)
    rcases hr : pv X c c (n - c) with _ | r
    · exfalso
      have hB0 : Lo (fun _ _ => 0) := fun _ _ => by show 0 < 256; decide
      obtain ⟨Y0, h0⟩ := gt_any (fun _ _ => 0) c h
      have hu := gt_un hA hB0 c (by omega) h0
      have hlo := (gt_lo hA hB0 c h0).1
      have hz := pv_none _ _ hr
      -- the columns behind are noughts
      have hY : ∀ i k, Y0 i k = 0 := by
        clear hu hz hlo h hr ih
        revert X Y0
        induction c with
        | zero => intro X Y0 h0 i k; cases h0; rfl
        | succ c ih =>
          intro X Y0 h0 i k
          rw [gt] at h0
          split at h0
          · cases h0
          · rename_i X1 Y1 h1
            split at h0
            · cases h0
            · cases h0
              have := ih (by omega) X1 Y1 h1
              unfold st
              simp only [this, mu_zero, Nat.xor_zero, ite_self]
      let x : Nat → Nat := fun j => if j < c then X j c else if j = c then 1 else 0
      have hx : ∀ i, i < n → x i < 256 := by
        intro i _
        show (if i < c then X i c else if i = c then 1 else 0) < 256
        split
        · exact hlo _ _
        · split <;> decide
      have hap : ∀ i, i < n → ap n X x i = Y0 i 0 := by
        intro i hi
        rw [hY]
        unfold ap
        have e : sm (fun j => mu (X i j) (x j)) n = sm (fun j => (if j = i ∧ j < c then X j c else 0) ^^^ (if j = c then X i c else 0)) n := by
          apply sm_congr
          intro j hj
          by_cases h1 : j < c
          · have h2 : x j = X j c := if_pos h1
            rw [h2, hu i j hi h1]
            by_cases h3 : i = j
            · subst h3; rw [if_pos rfl, if_pos ⟨rfl, h1⟩, if_neg (by omega), one_mu (hlo _ _), Nat.xor_zero]
            · rw [if_neg h3, zero_mu, if_neg (fun h => h3 h.1.symm), if_neg (by omega)]; rfl
          · by_cases h2 : j = c
            · subst h2
              have h3 : x j = 1 := by show (if j < j then X j j else if j = j then 1 else 0) = 1; simp
              rw [h3, mu_one (hlo _ _), if_neg (fun h => by omega), if_pos rfl, Nat.zero_xor]
            · have h3 : x j = 0 := by show (if j < c then X j c else if j = c then 1 else 0) = 0; simp [h1, h2]
              rw [h3, mu_zero, if_neg (fun h => h1 h.2), if_neg h2]; rfl
        rw [e, sm_xor, sm_one (fun j => if j = c then X i c else 0) n c (by omega) (fun j _ hn => if_neg hn), if_pos rfl]
        by_cases h1 : i < c
        · rw [sm_one (fun j => if j = i ∧ j < c then X j c else 0) n i hi (fun j _ hn => if_neg (fun h => hn h.1)), if_pos ⟨rfl, h1⟩, Nat.xor_self]
        · rw [sm_none _ n (fun j _ => if_neg (fun h => by omega)), hz i (by omega) (by omega)]; rfl
      have hb := gt_back hA hB0 c (by omega) h0 hap
      have := hk x hx hb c (by omega)
      have h3 : x c = 1 := by show (if c < c then X c c else if c = c then 1 else 0) = 1; simp
      omega
    · exact ⟨st X c r X, st X c r Y, by rw [gt, h]; simp only [hr]⟩
end Go.Proofs.Ytmgfapooanpgfaa
