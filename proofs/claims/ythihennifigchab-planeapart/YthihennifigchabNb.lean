import Derived.Test.YthihennifigchabNa
import Derived.Test.YthihennifigchabB5
namespace Go.Proofs.Ythihennifigchab
open Go.RowKit

/-- Four numbers in a block of their own. -/
def Arr (w : World) (b : Nat) (h : Nat → Int) : Prop := w.heap[b]? = some (.cells #[.int .i64 (h 0), .int .i64 (h 1), .int .i64 (h 2), .int .i64 (h 3)] 67 (0, 0))
theorem Arr.at {w : World} {b : Nat} {h : Nat → Int} (ha : Arr w b h) {k : Nat} (hk : k < 4) : w.cell? ⟨b, k, none⟩ = some (.int .i64 (h k)) := by
  unfold Arr at ha
  rw [cell_of_row _ _ _ _ _ _ ha]
  match k, hk with
  | 0, _ => rfl
  | 1, _ => rfl
  | 2, _ => rfl
  | 3, _ => rfl
theorem Arr.fz {w : World} {b : Nat} {h : Nat → Int} (ha : Arr w b h) (k : Nat) : w.frozen? ⟨b, k, none⟩ = false := by
  unfold Arr at ha
  simp [World.frozen?, ha]
theorem Arr.set {w : World} {b : Nat} {h : Nat → Int} (ha : Arr w b h) {k : Nat} (hk : k < 4) (v : Int) : Arr (w.setCell ⟨b, k, none⟩ (.int .i64 v)) b (fun t => if t = k then v else h t) := by
  unfold Arr at ha ⊢
  rw [heap_setCell_at ha]
  match k, hk with
  | 0, _ => rfl
  | 1, _ => rfl
  | 2, _ => rfl
  | 3, _ => rfl
theorem Arr.keep {w w' : World} {b : Nat} {h : Nat → Int} {ks : List Nat} (ha : Arr w b h) (hk : Kept ks w w') (hn : b ∉ ks) : Arr w' b h := hk.heap ha hn
theorem Arr.congr {w : World} {b : Nat} {h h' : Nat → Int} (ha : Arr w b h) (e : ∀ k, k < 4 → h k = h' k) : Arr w b h' := by
  unfold Arr at ha ⊢
  rw [ha, e 0 (by decide), e 1 (by decide), e 2 (by decide), e 3 (by decide)]
/-- Four numbers as a value. -/
abbrev rgv (h : Nat → Int) : Value := .agg #[.int .i64 (h 0), .int .i64 (h 1), .int .i64 (h 2), .int .i64 (h 3)]
theorem Try.info67 : (Try.prog.info? 67).map (·.size) = some 4 := by kernel_rfl
theorem results_arr {fn : Func} {p u : Tmp} (h : fn.results = #[.cell p 67, .tmp u]) (tmps : Array Value) (w : World) (g : Nat) (f : Nat → Int) (v : Value)
    (hp : tmps.getD p undef = .pointer (some ⟨g, 0, none⟩)) (hg : Arr w g f) (hv : tmps.getD u undef = v) :
    (results fn tmps).run Try.prog w = .ok (.tuple #[rgv f, v]) w := by
  rw [results_cell_tmp h, hp, hv]
  simp [asAddr, run_loadVar_row w g 67 67 _ (0, 0) _ hg Try.underlying67 rfl Try.info67]

theorem alE_zero {W H D : Int} {A : Bool} {W2 H2 D2 : Int} {A2 : Bool} {e1 e2 : Int} (h : alE W H D A W2 H2 D2 A2 e1 e2 = 0) : e1 = 0 ∧ e2 = 0 ∧ W = W2 ∧ H = H2 ∧ D = D2 ∧ A = A2 := by
  unfold alE at h
  split at h
  · rename_i h1
    split at h
    · rename_i h2
      split at h
      · rename_i h3
        exact ⟨h1, h2, h3⟩
      · cases h
    · rename_i h2; exact absurd h h2
  · rename_i h1; exact absurd h h1
/-- How far the planes are apart. -/
def rgF (n : Nat) (ln : Nat → Nat) (F G : Nat → Nat → Nat) : Nat → Int := fun p => if p < n then (mxd (F p) (G p) (ln p) : Int) else 0
/-- So far. -/
def rgS (k j : Nat) (ln : Nat → Nat) (F G : Nat → Nat → Nat) : Nat → Int := fun p => if p < k then (mxd (F p) (G p) (ln p) : Int) else if p = k then (mxd (F k) (G k) j : Int) else 0
theorem mxd_lt {f g : Nat → Nat} {n : Nat} (hf : ∀ i, f i < 65536) (hg : ∀ i, g i < 65536) : mxd f g n < 65536 := by
  induction n with
  | zero => show 0 < 65536; decide
  | succ n ih =>
    have h1 := hf n
    have h2 := hg n
    show max (mxd f g n) (df (f n) (g n)) < 65536
    unfold df
    omega
set_option maxHeartbeats 16000000 in
set_option maxRecDepth 1000000 in
theorem apart_any (W H D : Int) (A : Bool) (po : Option Addr) (n c : Nat) (ln : Nat → Nat) (F : Nat → Nat → Nat) (W2 H2 D2 : Int) (A2 : Bool) (qo : Option Addr) (m d : Nat) (lm : Nat → Nat) (G : Nat → Nat → Nat) (w : World) (hr : Pl w po n ln F) (hs : Pl w qo m lm G) (hn : n ≤ 9223372036854775807) (hln : ∀ i, i < n → ln i ≤ 9223372036854775807) (hm : m ≤ 9223372036854775807) (hlm : ∀ i, i < m → lm i ≤ 9223372036854775807) (hF : ∀ i j, F i j < 65536) (hG : ∀ i j, G i j < 65536) :
    Calls Try.prog 27 #[frv W H D A po n c, frv W2 H2 D2 A2 qo m d] w fun e w' => e = .returned (.tuple #[rgv (if alE W H D A W2 H2 D2 A2 (vE W H D A n ln F) (vE W2 H2 D2 A2 m lm G) = 0 then rgF n ln F G else fun _ => 0), .int .i64 (alE W H D A W2 H2 D2 A2 (vE W H D A n ln F) (vE W2 H2 D2 A2 m lm G))]) ∧ Kept [] w w' := by
  have CA := Hid.mk (fun u (h1 : Pl u po n ln F) (h2 : Pl u qo m lm G) => alike_any W H D A po n c ln F W2 H2 D2 A2 qo m d lm G u h1 h2 hn hln hm hlm)
  obtain ⟨E, eE⟩ : ∃ E, E = alE W H D A W2 H2 D2 A2 (vE W H D A n ln F) (vE W2 H2 D2 A2 m lm G) := ⟨_, rfl⟩
  rw [← eE] at CA ⊢
  have Hr := Hid.mk hr
  have Hs := Hid.mk hs
  have h1 := heap_alloc_new w (.cells #[.int .i64 W, .int .i64 H, .int .i64 D, .bool A, .slice po n c] 26)
  have k1 := alloc_kept w (.cells #[.int .i64 W, .int .i64 H, .int .i64 D, .bool A, .slice po n c] 26)
  have h2 := heap_alloc_new (w.alloc (.cells #[.int .i64 W, .int .i64 H, .int .i64 D, .bool A, .slice po n c] 26)) (.cells #[.int .i64 W2, .int .i64 H2, .int .i64 D2, .bool A2, .slice qo m d] 26)
  have k2 := alloc_kept (w.alloc (.cells #[.int .i64 W, .int .i64 H, .int .i64 D, .bool A, .slice po n c] 26)) (.cells #[.int .i64 W2, .int .i64 H2, .int .i64 D2, .bool A2, .slice qo m d] 26)
  have h3 := heap_alloc_new ((w.alloc (.cells #[.int .i64 W, .int .i64 H, .int .i64 D, .bool A, .slice po n c] 26)).alloc (.cells #[.int .i64 W2, .int .i64 H2, .int .i64 D2, .bool A2, .slice qo m d] 26)) (.cells #[.int .i64 0, .int .i64 0, .int .i64 0, .int .i64 0] 67)
  have k3 := alloc_kept ((w.alloc (.cells #[.int .i64 W, .int .i64 H, .int .i64 D, .bool A, .slice po n c] 26)).alloc (.cells #[.int .i64 W2, .int .i64 H2, .int .i64 D2, .bool A2, .slice qo m d] 26)) (.cells #[.int .i64 0, .int .i64 0, .int .i64 0, .int .i64 0] 67)
  rw [World.size_alloc] at h2
  rw [World.size_alloc, World.size_alloc] at h3
  have hh1 := k3.heap (k2.heap h1 (by simp)) (by simp)
  have hh2 := k3.heap h2 (by simp)
  have K1 := Hid.mk ((k1.trans k2).trans k3)
  have P1 := Hid.mk (And.intro hh1 (And.intro hh2 h3))
  have EE := Hid.mk eE
  have HFG := Hid.mk (And.intro hF hG)
  clear hr hs hln hlm h1 k1 h2 k2 hh1 h3 k3 hh2 hF hG eE
  go_enter Try.func27, Try.ntmps27
  go_wp2_with (fail)
  obtain ⟨w1, ew1⟩ : ∃ w1, w1 = ((w.alloc (.cells #[.int .i64 W, .int .i64 H, .int .i64 D, .bool A, .slice po n c] 26)).alloc (.cells #[.int .i64 W2, .int .i64 H2, .int .i64 D2, .bool A2, .slice qo m d] 26)).alloc (.cells #[.int .i64 0, .int .i64 0, .int .i64 0, .int .i64 0] 67) := ⟨_, rfl⟩
  rw [← ew1] at P1 K1 ⊢
  obtain ⟨FB, eFB⟩ : ∃ FB, FB = w.heap.size := ⟨_, rfl⟩
  obtain ⟨BB, eBB⟩ : ∃ BB, BB = w.heap.size + 1 := ⟨_, rfl⟩
  obtain ⟨RB, eRB⟩ : ∃ RB, RB = w.heap.size + 1 + 1 := ⟨_, rfl⟩
  rw [← eRB, ← eBB, ← eFB] at P1 ⊢
  have HB := Hid.mk (And.intro eFB (And.intro eBB eRB))
  clear ew1 eFB eBB eRB
  refine (CA.out w1 (Hr.out.keep K1.out) (Hs.out.keep K1.out)).mono ?_
  rintro e w2 ⟨rfl, hk2⟩
  have hR2 := hk2.heap P1.out.2.2 (by simp)
  obtain ⟨⟨f0, f1, f2, f3, f4⟩, _⟩ := five (hk2.heap P1.out.1 (by simp))
  have K2 := Hid.mk (K1.out.trans hk2)
  by_cases hE : E = 0
  · subst hE
    obtain ⟨v1, v2, rfl, rfl, rfl, rfl⟩ := alE_zero EE.out.symm
    have V1 := vE_zero.1 v1
    have V2 := vE_zero.1 v2
    obtain rfl : m = n := by rw [V1.num, V2.num]
    have hm4 : m ≤ 4 := by rw [V1.num]; exact np_hi A
    have HV := Hid.mk (And.intro V1 V2)
    have HLE : Hid (∀ i, i < m → lm i = ln i) := Hid.mk (fun i hi => by have := V1.len i hi; have := V2.len i hi; omega)
    have HLB : Hid (∀ i, i < m → ln i ≤ 16777216) := Hid.mk (fun i hi => by
      have h := V1.len i hi
      have := wpH (i : Int) V1.shp.1.1 V1.shp.1.2 V1.shp.2.1.1 V1.shp.2.1.2
      omega)
    have hq := heap_alloc_new w2 (.cells #[.int .i64 0, .int .i64 0, .int .i64 0, .int .i64 0] 67)
    have kq := alloc_kept w2 (.cells #[.int .i64 0, .int .i64 0, .int .i64 0, .int .i64 0] 67)
    have f4' := cell_keep kq f4 (by simp)
    obtain ⟨w3, ew3⟩ : ∃ w3, w3 = w2.alloc (.cells #[.int .i64 0, .int .i64 0, .int .i64 0, .int .i64 0] 67) := ⟨_, rfl⟩
    rw [← ew3] at hq kq
    obtain ⟨QB, eQB⟩ : ∃ QB, QB = w2.heap.size := ⟨_, rfl⟩
    rw [← eQB] at hq
    have HQ : Hid (Arr w3 QB (rgS 0 0 ln F G) ∧ (FB < QB ∧ BB < QB ∧ RB < QB ∧ w.heap.size ≤ QB) ∧ Kept [] w w3) := by
      have l1 := lt_of_block (hk2.heap P1.out.1 (by simp))
      have l2 := lt_of_block (hk2.heap P1.out.2.1 (by simp))
      have l3 := lt_of_block (hk2.heap P1.out.2.2 (by simp))
      refine Hid.mk ?_
      refine ⟨(show Arr w3 QB (fun _ => 0) from hq).congr (fun k hk => ?_), ⟨by omega, by omega, by omega, by rw [eQB]; exact K2.out.size⟩, K2.out.trans kq⟩
      unfold rgS
      rw [if_neg (by omega)]
      split
      · rename_i h; subst h; rfl
      · rfl
    have P3 := Hid.mk (And.intro (kq.heap (hk2.heap P1.out.1 (by simp)) (by simp)) (And.intro (kq.heap (hk2.heap P1.out.2.1 (by simp)) (by simp)) (kq.heap hR2 (by simp))))
    have EW3 := Hid.mk ew3
    have EQB := Hid.mk eQB
    clear hq kq ew3 eQB V1 V2 v1 v2 hk2 hR2 f0 f1 f2 f3
    go_wp2
    rw [← EW3.out, ← EQB.out]
    clear EW3 EQB f4 f4'
    go_loopw [22] (fun i wr => ∃ k : Nat, k ≤ m ∧ i = .int .i64 (k : Int) ∧ Arr wr QB (rgS k 0 ln F G) ∧ Kept [QB] w3 wr) (fun i _ => m - (intOf i).toNat)
    case atStart => exact ⟨0, by omega, rfl, HQ.out.1, Kept.refl _ _⟩
    case round =>
      obtain ⟨k, hk, rfl, harr, hkr⟩ := hrel
      have nQ : ∀ {x : Nat}, x < QB → x ∉ [QB] := fun h => by simp; omega
      have hl := HQ.out.2.1
      have hB4 := hkr.heap P3.out.2.1 (nQ hl.2.1)
      obtain ⟨⟨_, _, _, _, b4⟩, _⟩ := five hB4
      have hpl := (Hr.out.keep HQ.out.2.2)
      have hql := (Hs.out.keep HQ.out.2.2)
      by_cases hlt : k < m
      · obtain ⟨g, off, bo, c', rfl, hc0, hrd⟩ := Hr.out.at hlt
        obtain ⟨g2, o2, bo2, c2, rfl, hd0, hrd2⟩ := Hs.out.at hlt
        have kw : Kept [QB] w wr := (HQ.out.2.2.mono (by simp)).trans hkr
        have hc := cell_keep kw hc0 (nQ (by have := World.block_lt_of_cell? w _ hc0; simp at this; omega))
        have hd := cell_keep kw hd0 (nQ (by have := World.block_lt_of_cell? w _ hd0; simp at this; omega))
        have ix : (k : Int) < (m : Int) := by omega
        have ix4 : (k : Int) < 4 := by omega
        rw [HLE.out k hlt] at hd hrd2
        have HRD := Hid.mk (And.intro hrd hrd2)
        have Hg2 : Hid (g2 < QB) := Hid.mk (by have := World.block_lt_of_cell? w _ hd0; simp at this; omega)
        have hLB := HLB.out k hlt
        obtain ⟨L, eL⟩ : ∃ L, L = ln k := ⟨_, rfl⟩
        rw [← eL] at hc hd HRD hLB
        have EL := Hid.mk eL
        have HA := Hid.mk harr
        have HKW := Hid.mk (And.intro kw hkr)
        clear harr hkr hB4 hpl hql hc0 hd0 hrd hrd2 kw eL hl
        go_wp2
        go_loopw [29] (fun s wq => ∃ j : Nat, j ≤ L ∧ s = .int .i64 (j : Int) ∧ Arr wq QB (rgS k j ln F G) ∧ Kept [QB] wr wq) (fun s _ => L - (intOf s).toNat)
        case atStart => exact ⟨0, by omega, rfl, HA.out, Kept.refl _ _⟩
        case round =>
          obtain ⟨j, hj, rfl, harr, hkq⟩ := hrel
          by_cases hjl : j < L
          · obtain ⟨h1, q1, rfl, hf0⟩ := HRD.out.1.at hjl
            obtain ⟨h2, q2, rfl, hg0⟩ := HRD.out.2.at hjl
            have kww : Kept [QB] w _ := HKW.out.1.trans hkq
            have hlq := HQ.out.2.1
            have hf := cell_keep kww hf0 (nQ (by have := World.block_lt_of_cell? w _ hf0; simp at this; omega))
            have z3 := cell_keep kww hg0 (nQ (by have := World.block_lt_of_cell? w _ hg0; simp at this; omega))
            have z1 := cell_keep hkq b4 (nQ hlq.2.1)
            have HH2 : Hid (h2 < QB) := Hid.mk (by have := World.block_lt_of_cell? w _ hg0; simp at this; omega)
            have z2 := cell_keep hkq hd (nQ Hg2.out)
            have hx := HFG.out.1 k j
            have hy := HFG.out.2 k j
            have hVb := mxd_lt (n := j) (HFG.out.1 k) (HFG.out.2 k)
            have hqc := harr.at (show k < 4 by omega)
            have hqf := harr.fz k
            rw [show rgS k j ln F G k = ((mxd (F k) (G k) j : Nat) : Int) by unfold rgS; rw [if_neg (by omega), if_pos rfl]] at hqc
            have HS9 : Hid (∀ nv : Nat, nv = max (mxd (F k) (G k) j) (df (F k j) (G k j)) → ∀ p, (if p = k then (nv : Int) else rgS k j ln F G p) = rgS k (j + 1) ln F G p) := Hid.mk (fun nv hnv p => by
              unfold rgS
              by_cases e : p = k
              · subst e
                rw [if_pos rfl, if_neg (by omega), if_pos rfl, hnv]
                rfl
              · rw [if_neg e]
                by_cases e2 : p < k
                · rw [if_pos e2, if_pos e2]
                · rw [if_neg e2, if_neg e2, if_neg e, if_neg e])
            obtain ⟨x, ex⟩ : ∃ x, x = F k j := ⟨_, rfl⟩
            obtain ⟨y, ey⟩ : ∃ y, y = G k j := ⟨_, rfl⟩
            obtain ⟨V, eV⟩ : ∃ V, V = mxd (F k) (G k) j := ⟨_, rfl⟩
            rw [← ex] at hf hx HS9
            rw [← ey] at z3 hy HS9
            rw [← eV] at hqc hVb HS9
            have CD := Hid.mk (fun u => distance_any x y u hx hy)
            have hdb : df x y < 65536 := by unfold df; omega
            obtain ⟨d0, ed⟩ : ∃ d0, d0 = df x y := ⟨_, rfl⟩
            rw [← ed] at CD hdb HS9
            have HA9 := Hid.mk harr
            have HK9 := Hid.mk hkq
            clear ex ey eV ed harr hkq kww hlq hf0 hg0
            by_cases hv : V < d0
            · have hvi : (V : Int) < (d0 : Int) := by omega
              have hvn : ¬ (d0 : Int) ≤ (V : Int) := by omega
              have HC9 := Hid.mk (HS9.out d0 (by omega))
              have KD := Hid.mk (((Kept.refl [QB] wr).drew).setCell (p := ⟨QB, k, none⟩) (.inl (by simp)) (.int .i64 (d0 : Int)))
              have y1 := cell_keep KD.out z1 (nQ HQ.out.2.1.2.1)
              have y2 := cell_keep KD.out z2 (nQ Hg2.out)
              have y3 := cell_keep KD.out z3 (nQ HH2.out)
              go_wp2
              refine wp_region_held_drew (S := fun w' => w'.cell? ⟨BB, 4, none⟩ = some (.slice (some ⟨g2, o2, none⟩) m d) ∧ w'.cell? ⟨g2, o2 + k, none⟩ = some (.slice (some ⟨h2, q2, none⟩) L c2) ∧ w'.cell? ⟨h2, q2 + j, none⟩ = some (.int .u16 (y : Int))) (by kernel_rfl) ⟨z1, z2, z3⟩ (fun hHeld => ?_)
              refine wpAnyH_take (i := 0) (v := ?_) rfl (by kernel_rfl) (by kernel_rfl) (by kernel_rfl) (fun _ _ _ h => h) (Or.inl ⟨by rfl, ?_⟩) (by assumption) ?_
              rotate_left
              · intro w hSw
                try dsimp only at hSw
                go_simp
                all_goals with_reducible rfl
              simp only [Act.put, List.getElem_toArray, List.getElem_cons_zero, List.setIfInBounds_toArray, List.set_cons_zero, List.set_cons_succ]
              refine wpAnyH_take (i := 1) (v := ?_) rfl (by kernel_rfl) (by kernel_rfl) (by kernel_rfl) (fun _ _ _ h => h) (Or.inl ⟨by rfl, ?_⟩) (by assumption) ?_
              rotate_left
              · intro w hSw
                try dsimp only at hSw
                go_simp
                all_goals with_reducible rfl
              simp only [Act.put, List.getElem_toArray, List.getElem_cons_zero, List.getElem_cons_succ, List.setIfInBounds_toArray, List.set_cons_zero, List.set_cons_succ]
              refine wpAnyH_take (i := 2) (v := ?_) rfl (by kernel_rfl) (by kernel_rfl) (by kernel_rfl) (fun _ _ _ h => h) (Or.inl ⟨by rfl, ?_⟩) (by assumption) ?_
              rotate_left
              · intro w hSw
                try dsimp only at hSw
                go_simp
                all_goals with_reducible rfl
              simp only [Act.put, List.getElem_toArray, List.getElem_cons_zero, List.getElem_cons_succ, List.setIfInBounds_toArray, List.set_cons_zero, List.set_cons_succ]
              refine wpAnyH_take (i := 4) (v := ?_) rfl (by kernel_rfl) (by kernel_rfl) (by kernel_rfl) (fun _ _ _ h => h) (Or.inl ⟨by rfl, ?_⟩) (by assumption) ?_
              rotate_left
              · intro w hSw
                try dsimp only at hSw
                go_simp
                all_goals with_reducible rfl
              simp only [Act.put, List.getElem_toArray, List.getElem_cons_zero, List.getElem_cons_succ, List.setIfInBounds_toArray, List.set_cons_zero, List.set_cons_succ]
              refine wpAnyH_take (i := 5) (v := ?_) rfl (by kernel_rfl) (by kernel_rfl) (by kernel_rfl) (fun _ _ _ h => h) (Or.inl ⟨by rfl, ?_⟩) (by assumption) ?_
              rotate_left
              · intro w hSw
                try dsimp only at hSw
                go_simp
                all_goals with_reducible rfl
              simp only [Act.put, List.getElem_toArray, List.getElem_cons_zero, List.getElem_cons_succ, List.setIfInBounds_toArray, List.set_cons_zero, List.set_cons_succ]
              refine wpAnyH_take (i := 6) (v := ?_) rfl (by kernel_rfl) (by kernel_rfl) (by kernel_rfl) (fun _ _ _ h => h) (Or.inl ⟨by rfl, ?_⟩) (by assumption) ?_
              rotate_left
              · intro w hSw
                try dsimp only at hSw
                go_simp
                all_goals with_reducible rfl
              simp only [Act.put, List.getElem_toArray, List.getElem_cons_zero, List.getElem_cons_succ, List.setIfInBounds_toArray, List.set_cons_zero, List.set_cons_succ]
              refine wpAnyH_take (i := 7) (v := ?_) rfl (by kernel_rfl) (by kernel_rfl) (by kernel_rfl) (fun _ _ _ h => h) (Or.inl ⟨by rfl, ?_⟩) (by assumption) ?_
              rotate_left
              · intro w hSw
                try dsimp only at hSw
                go_simp
                all_goals with_reducible rfl
              simp only [Act.put, List.getElem_toArray, List.getElem_cons_zero, List.getElem_cons_succ, List.setIfInBounds_toArray, List.set_cons_zero, List.set_cons_succ]
              refine wpAnyH_take (i := 8) (v := ?_) rfl (by kernel_rfl) (by kernel_rfl) (by kernel_rfl) (fun _ _ _ h => h) (Or.inl ⟨by rfl, ?_⟩) (by assumption) ?_
              rotate_left
              · intro w hSw
                try dsimp only at hSw
                go_simp
                all_goals with_reducible rfl
              simp only [Act.put, List.getElem_toArray, List.getElem_cons_zero, List.getElem_cons_succ, List.setIfInBounds_toArray, List.set_cons_zero, List.set_cons_succ]
              refine wpAnyH_take (i := 9) (v := ?_) rfl (by kernel_rfl) (by kernel_rfl) (by kernel_rfl) (fun _ _ _ h => h) (Or.inl ⟨by rfl, ?_⟩) (by assumption) ?_
              rotate_left
              · intro w hSw
                try dsimp only at hSw
                go_simp
                all_goals with_reducible rfl
              simp only [Act.put, List.getElem_toArray, List.getElem_cons_zero, List.getElem_cons_succ, List.setIfInBounds_toArray, List.set_cons_zero, List.set_cons_succ]
              refine wpAnyH_take (i := 10) (v := ?_) rfl (by kernel_rfl) (by kernel_rfl) (by kernel_rfl) (fun _ _ _ h => h) (Or.inl ⟨by rfl, ?_⟩) (by assumption) ?_
              rotate_left
              · intro w hSw
                try dsimp only at hSw
                go_simp
                all_goals with_reducible rfl
              simp only [Act.put, List.getElem_toArray, List.getElem_cons_zero, List.getElem_cons_succ, List.setIfInBounds_toArray, List.set_cons_zero, List.set_cons_succ]
              refine wpAnyH_take (i := 11) (v := ?_) rfl (by kernel_rfl) (by kernel_rfl) (by kernel_rfl) (fun _ _ _ h => h) (Or.inl ⟨by rfl, ?_⟩) (by assumption) ?_
              rotate_left
              · intro w hSw
                try dsimp only at hSw
                go_simp
                all_goals with_reducible rfl
              simp only [Act.put, List.getElem_toArray, List.getElem_cons_zero, List.getElem_cons_succ, List.setIfInBounds_toArray, List.set_cons_zero, List.set_cons_succ]
              refine wpAnyH_take (i := 12) (v := ?_) rfl (by kernel_rfl) (by kernel_rfl) (by kernel_rfl) (fun _ _ _ h => h) (Or.inl ⟨by rfl, ?_⟩) (by assumption) ?_
              rotate_left
              · intro w hSw
                try dsimp only at hSw
                go_simp
                all_goals with_reducible rfl
              simp only [Act.put, List.getElem_toArray, List.getElem_cons_zero, List.getElem_cons_succ, List.setIfInBounds_toArray, List.set_cons_zero, List.set_cons_succ]
              refine wpAnyH_ready (rs := [3, 13]) (by kernel_rfl) (by simp) ?_
              refine AllReadyH.cons rfl (fun K9 hK9 => ?_) (AllReadyH.cons rfl (fun K9 hK9 => ?_) AllReadyH.nil)
              · go_simp
                refine hK9.out _ _ ⟨z1, z2, z3⟩ (fun hHeld2 => ?_)
                clear hK9 K9
                refine wpAnyH_ready (rs := [13]) (by kernel_rfl) (by simp) ?_
                refine AllReadyH.cons rfl (fun K9 hK9 => ?_) AllReadyH.nil
                go_simp
                refine (CD.out _).mono ?_
                rintro e w9 ⟨rfl, rfl⟩
                refine hK9.out _ _ ⟨z1, z2, z3⟩ (fun hHeld2 => ?_)
                clear hK9 K9
                refine wpAnyH_ready (rs := [14]) (by kernel_rfl) (by simp) ?_
                refine AllReadyH.cons rfl (fun K9 hK9 => ?_) AllReadyH.nil
                go_simp
                refine hK9.out _ _ ⟨z1, z2, z3⟩ (fun hHeld2 => ?_)
                clear hK9 K9
                refine wpAnyH_take (i := 15) (v := ?_) rfl (by kernel_rfl) (by kernel_rfl) (by kernel_rfl) (fun _ _ _ h => h) (Or.inl ⟨by rfl, ?_⟩) (by assumption) ?_
                rotate_left
                · intro w hSw
                  try dsimp only at hSw
                  go_simp
                  all_goals with_reducible rfl
                simp only [Act.put, List.getElem_toArray, List.getElem_cons_zero, List.getElem_cons_succ, List.setIfInBounds_toArray, List.set_cons_zero, List.set_cons_succ]
                refine wpAnyH_ready (rs := [16]) (by kernel_rfl) (by simp) ?_
                refine AllReadyH.cons rfl (fun K9 hK9 => ?_) AllReadyH.nil
                go_simp
                refine hK9.out _ _ ⟨y1, y2, y3⟩ (fun hHeld2 => ?_)
                clear hK9 K9
                refine wpAnyH_done (by kernel_rfl) ?_ _
                go_wp2
                refine ⟨⟨j + 1, by omega, by go_num, (HA9.out.set (k := k) (by omega) _).congr (fun p hp => ?_), (HK9.out.setCell (p := ⟨QB, k, none⟩) (.inl (by simp)) _).drew⟩, by simp [intOf]; omega⟩
                exact HC9.out p
              · go_simp
                refine (CD.out _).mono ?_
                rintro e w9 ⟨rfl, rfl⟩
                refine hK9.out _ _ ⟨z1, z2, z3⟩ (fun hHeld2 => ?_)
                clear hK9 K9
                refine wpAnyH_ready (rs := [3]) (by kernel_rfl) (by simp) ?_
                refine AllReadyH.cons rfl (fun K9 hK9 => ?_) AllReadyH.nil
                go_simp
                refine hK9.out _ _ ⟨z1, z2, z3⟩ (fun hHeld2 => ?_)
                clear hK9 K9
                refine wpAnyH_ready (rs := [14]) (by kernel_rfl) (by simp) ?_
                refine AllReadyH.cons rfl (fun K9 hK9 => ?_) AllReadyH.nil
                go_simp
                refine hK9.out _ _ ⟨z1, z2, z3⟩ (fun hHeld2 => ?_)
                clear hK9 K9
                refine wpAnyH_take (i := 15) (v := ?_) rfl (by kernel_rfl) (by kernel_rfl) (by kernel_rfl) (fun _ _ _ h => h) (Or.inl ⟨by rfl, ?_⟩) (by assumption) ?_
                rotate_left
                · intro w hSw
                  try dsimp only at hSw
                  go_simp
                  all_goals with_reducible rfl
                simp only [Act.put, List.getElem_toArray, List.getElem_cons_zero, List.getElem_cons_succ, List.setIfInBounds_toArray, List.set_cons_zero, List.set_cons_succ]
                refine wpAnyH_ready (rs := [16]) (by kernel_rfl) (by simp) ?_
                refine AllReadyH.cons rfl (fun K9 hK9 => ?_) AllReadyH.nil
                go_simp
                refine hK9.out _ _ ⟨y1, y2, y3⟩ (fun hHeld2 => ?_)
                clear hK9 K9
                refine wpAnyH_done (by kernel_rfl) ?_ _
                go_wp2
                refine ⟨⟨j + 1, by omega, by go_num, (HA9.out.set (k := k) (by omega) _).congr (fun p hp => ?_), (HK9.out.setCell (p := ⟨QB, k, none⟩) (.inl (by simp)) _).drew⟩, by simp [intOf]; omega⟩
                exact HC9.out p
            · have hvi : ¬ (V : Int) < (d0 : Int) := by omega
              have hvn : (d0 : Int) ≤ (V : Int) := by omega
              have HC9 := Hid.mk (HS9.out V (by omega))
              have KD := Hid.mk (((Kept.refl [QB] wr).drew).setCell (p := ⟨QB, k, none⟩) (.inl (by simp)) (.int .i64 (V : Int)))
              have y1 := cell_keep KD.out z1 (nQ HQ.out.2.1.2.1)
              have y2 := cell_keep KD.out z2 (nQ Hg2.out)
              have y3 := cell_keep KD.out z3 (nQ HH2.out)
              go_wp2
              refine wp_region_held_drew (S := fun w' => w'.cell? ⟨BB, 4, none⟩ = some (.slice (some ⟨g2, o2, none⟩) m d) ∧ w'.cell? ⟨g2, o2 + k, none⟩ = some (.slice (some ⟨h2, q2, none⟩) L c2) ∧ w'.cell? ⟨h2, q2 + j, none⟩ = some (.int .u16 (y : Int))) (by kernel_rfl) ⟨z1, z2, z3⟩ (fun hHeld => ?_)
              refine wpAnyH_take (i := 0) (v := ?_) rfl (by kernel_rfl) (by kernel_rfl) (by kernel_rfl) (fun _ _ _ h => h) (Or.inl ⟨by rfl, ?_⟩) (by assumption) ?_
              rotate_left
              · intro w hSw
                try dsimp only at hSw
                go_simp
                all_goals with_reducible rfl
              simp only [Act.put, List.getElem_toArray, List.getElem_cons_zero, List.setIfInBounds_toArray, List.set_cons_zero, List.set_cons_succ]
              refine wpAnyH_take (i := 1) (v := ?_) rfl (by kernel_rfl) (by kernel_rfl) (by kernel_rfl) (fun _ _ _ h => h) (Or.inl ⟨by rfl, ?_⟩) (by assumption) ?_
              rotate_left
              · intro w hSw
                try dsimp only at hSw
                go_simp
                all_goals with_reducible rfl
              simp only [Act.put, List.getElem_toArray, List.getElem_cons_zero, List.getElem_cons_succ, List.setIfInBounds_toArray, List.set_cons_zero, List.set_cons_succ]
              refine wpAnyH_take (i := 2) (v := ?_) rfl (by kernel_rfl) (by kernel_rfl) (by kernel_rfl) (fun _ _ _ h => h) (Or.inl ⟨by rfl, ?_⟩) (by assumption) ?_
              rotate_left
              · intro w hSw
                try dsimp only at hSw
                go_simp
                all_goals with_reducible rfl
              simp only [Act.put, List.getElem_toArray, List.getElem_cons_zero, List.getElem_cons_succ, List.setIfInBounds_toArray, List.set_cons_zero, List.set_cons_succ]
              refine wpAnyH_take (i := 4) (v := ?_) rfl (by kernel_rfl) (by kernel_rfl) (by kernel_rfl) (fun _ _ _ h => h) (Or.inl ⟨by rfl, ?_⟩) (by assumption) ?_
              rotate_left
              · intro w hSw
                try dsimp only at hSw
                go_simp
                all_goals with_reducible rfl
              simp only [Act.put, List.getElem_toArray, List.getElem_cons_zero, List.getElem_cons_succ, List.setIfInBounds_toArray, List.set_cons_zero, List.set_cons_succ]
              refine wpAnyH_take (i := 5) (v := ?_) rfl (by kernel_rfl) (by kernel_rfl) (by kernel_rfl) (fun _ _ _ h => h) (Or.inl ⟨by rfl, ?_⟩) (by assumption) ?_
              rotate_left
              · intro w hSw
                try dsimp only at hSw
                go_simp
                all_goals with_reducible rfl
              simp only [Act.put, List.getElem_toArray, List.getElem_cons_zero, List.getElem_cons_succ, List.setIfInBounds_toArray, List.set_cons_zero, List.set_cons_succ]
              refine wpAnyH_take (i := 6) (v := ?_) rfl (by kernel_rfl) (by kernel_rfl) (by kernel_rfl) (fun _ _ _ h => h) (Or.inl ⟨by rfl, ?_⟩) (by assumption) ?_
              rotate_left
              · intro w hSw
                try dsimp only at hSw
                go_simp
                all_goals with_reducible rfl
              simp only [Act.put, List.getElem_toArray, List.getElem_cons_zero, List.getElem_cons_succ, List.setIfInBounds_toArray, List.set_cons_zero, List.set_cons_succ]
              refine wpAnyH_take (i := 7) (v := ?_) rfl (by kernel_rfl) (by kernel_rfl) (by kernel_rfl) (fun _ _ _ h => h) (Or.inl ⟨by rfl, ?_⟩) (by assumption) ?_
              rotate_left
              · intro w hSw
                try dsimp only at hSw
                go_simp
                all_goals with_reducible rfl
              simp only [Act.put, List.getElem_toArray, List.getElem_cons_zero, List.getElem_cons_succ, List.setIfInBounds_toArray, List.set_cons_zero, List.set_cons_succ]
              refine wpAnyH_take (i := 8) (v := ?_) rfl (by kernel_rfl) (by kernel_rfl) (by kernel_rfl) (fun _ _ _ h => h) (Or.inl ⟨by rfl, ?_⟩) (by assumption) ?_
              rotate_left
              · intro w hSw
                try dsimp only at hSw
                go_simp
                all_goals with_reducible rfl
              simp only [Act.put, List.getElem_toArray, List.getElem_cons_zero, List.getElem_cons_succ, List.setIfInBounds_toArray, List.set_cons_zero, List.set_cons_succ]
              refine wpAnyH_take (i := 9) (v := ?_) rfl (by kernel_rfl) (by kernel_rfl) (by kernel_rfl) (fun _ _ _ h => h) (Or.inl ⟨by rfl, ?_⟩) (by assumption) ?_
              rotate_left
              · intro w hSw
                try dsimp only at hSw
                go_simp
                all_goals with_reducible rfl
              simp only [Act.put, List.getElem_toArray, List.getElem_cons_zero, List.getElem_cons_succ, List.setIfInBounds_toArray, List.set_cons_zero, List.set_cons_succ]
              refine wpAnyH_take (i := 10) (v := ?_) rfl (by kernel_rfl) (by kernel_rfl) (by kernel_rfl) (fun _ _ _ h => h) (Or.inl ⟨by rfl, ?_⟩) (by assumption) ?_
              rotate_left
              · intro w hSw
                try dsimp only at hSw
                go_simp
                all_goals with_reducible rfl
              simp only [Act.put, List.getElem_toArray, List.getElem_cons_zero, List.getElem_cons_succ, List.setIfInBounds_toArray, List.set_cons_zero, List.set_cons_succ]
              refine wpAnyH_take (i := 11) (v := ?_) rfl (by kernel_rfl) (by kernel_rfl) (by kernel_rfl) (fun _ _ _ h => h) (Or.inl ⟨by rfl, ?_⟩) (by assumption) ?_
              rotate_left
              · intro w hSw
                try dsimp only at hSw
                go_simp
                all_goals with_reducible rfl
              simp only [Act.put, List.getElem_toArray, List.getElem_cons_zero, List.getElem_cons_succ, List.setIfInBounds_toArray, List.set_cons_zero, List.set_cons_succ]
              refine wpAnyH_take (i := 12) (v := ?_) rfl (by kernel_rfl) (by kernel_rfl) (by kernel_rfl) (fun _ _ _ h => h) (Or.inl ⟨by rfl, ?_⟩) (by assumption) ?_
              rotate_left
              · intro w hSw
                try dsimp only at hSw
                go_simp
                all_goals with_reducible rfl
              simp only [Act.put, List.getElem_toArray, List.getElem_cons_zero, List.getElem_cons_succ, List.setIfInBounds_toArray, List.set_cons_zero, List.set_cons_succ]
              refine wpAnyH_ready (rs := [3, 13]) (by kernel_rfl) (by simp) ?_
              refine AllReadyH.cons rfl (fun K9 hK9 => ?_) (AllReadyH.cons rfl (fun K9 hK9 => ?_) AllReadyH.nil)
              · go_simp
                refine hK9.out _ _ ⟨z1, z2, z3⟩ (fun hHeld2 => ?_)
                clear hK9 K9
                refine wpAnyH_ready (rs := [13]) (by kernel_rfl) (by simp) ?_
                refine AllReadyH.cons rfl (fun K9 hK9 => ?_) AllReadyH.nil
                go_simp
                refine (CD.out _).mono ?_
                rintro e w9 ⟨rfl, rfl⟩
                refine hK9.out _ _ ⟨z1, z2, z3⟩ (fun hHeld2 => ?_)
                clear hK9 K9
                refine wpAnyH_ready (rs := [14]) (by kernel_rfl) (by simp) ?_
                refine AllReadyH.cons rfl (fun K9 hK9 => ?_) AllReadyH.nil
                go_simp
                refine hK9.out _ _ ⟨z1, z2, z3⟩ (fun hHeld2 => ?_)
                clear hK9 K9
                refine wpAnyH_take (i := 15) (v := ?_) rfl (by kernel_rfl) (by kernel_rfl) (by kernel_rfl) (fun _ _ _ h => h) (Or.inl ⟨by rfl, ?_⟩) (by assumption) ?_
                rotate_left
                · intro w hSw
                  try dsimp only at hSw
                  go_simp
                  all_goals with_reducible rfl
                simp only [Act.put, List.getElem_toArray, List.getElem_cons_zero, List.getElem_cons_succ, List.setIfInBounds_toArray, List.set_cons_zero, List.set_cons_succ]
                refine wpAnyH_ready (rs := [16]) (by kernel_rfl) (by simp) ?_
                refine AllReadyH.cons rfl (fun K9 hK9 => ?_) AllReadyH.nil
                go_simp
                refine hK9.out _ _ ⟨y1, y2, y3⟩ (fun hHeld2 => ?_)
                clear hK9 K9
                refine wpAnyH_done (by kernel_rfl) ?_ _
                go_wp2
                refine ⟨⟨j + 1, by omega, by go_num, (HA9.out.set (k := k) (by omega) _).congr (fun p hp => ?_), (HK9.out.setCell (p := ⟨QB, k, none⟩) (.inl (by simp)) _).drew⟩, by simp [intOf]; omega⟩
                exact HC9.out p
              · go_simp
                refine (CD.out _).mono ?_
                rintro e w9 ⟨rfl, rfl⟩
                refine hK9.out _ _ ⟨z1, z2, z3⟩ (fun hHeld2 => ?_)
                clear hK9 K9
                refine wpAnyH_ready (rs := [3]) (by kernel_rfl) (by simp) ?_
                refine AllReadyH.cons rfl (fun K9 hK9 => ?_) AllReadyH.nil
                go_simp
                refine hK9.out _ _ ⟨z1, z2, z3⟩ (fun hHeld2 => ?_)
                clear hK9 K9
                refine wpAnyH_ready (rs := [14]) (by kernel_rfl) (by simp) ?_
                refine AllReadyH.cons rfl (fun K9 hK9 => ?_) AllReadyH.nil
                go_simp
                refine hK9.out _ _ ⟨z1, z2, z3⟩ (fun hHeld2 => ?_)
                clear hK9 K9
                refine wpAnyH_take (i := 15) (v := ?_) rfl (by kernel_rfl) (by kernel_rfl) (by kernel_rfl) (fun _ _ _ h => h) (Or.inl ⟨by rfl, ?_⟩) (by assumption) ?_
                rotate_left
                · intro w hSw
                  try dsimp only at hSw
                  go_simp
                  all_goals with_reducible rfl
                simp only [Act.put, List.getElem_toArray, List.getElem_cons_zero, List.getElem_cons_succ, List.setIfInBounds_toArray, List.set_cons_zero, List.set_cons_succ]
                refine wpAnyH_ready (rs := [16]) (by kernel_rfl) (by simp) ?_
                refine AllReadyH.cons rfl (fun K9 hK9 => ?_) AllReadyH.nil
                go_simp
                refine hK9.out _ _ ⟨y1, y2, y3⟩ (fun hHeld2 => ?_)
                clear hK9 K9
                refine wpAnyH_done (by kernel_rfl) ?_ _
                go_wp2
                refine ⟨⟨j + 1, by omega, by go_num, (HA9.out.set (k := k) (by omega) _).congr (fun p hp => ?_), (HK9.out.setCell (p := ⟨QB, k, none⟩) (.inl (by simp)) _).drew⟩, by simp [intOf]; omega⟩
                exact HC9.out p
          · obtain rfl : L = j := by omega
            have HA9 := Hid.mk harr
            have HK9 := Hid.mk hkq
            clear harr hkq
            go_wp2
            refine ⟨⟨k + 1, by omega, by go_num, HA9.out.congr (fun p hp => ?_), HKW.out.2.trans HK9.out⟩, by simp [intOf]; omega⟩
            unfold rgS
            by_cases e2 : p < k
            · rw [if_pos e2, if_pos (by omega)]
            · rw [if_neg e2]
              by_cases e : p = k
              · subst e
                rw [if_pos rfl, if_pos (by omega), EL.out]
              · rw [if_neg e, if_neg (by omega)]
                split
                · rfl
                · rfl
      · obtain rfl : m = k := by omega
        have hR4 := hkr.heap P3.out.2.2 (nQ hl.2.2.1)
        obtain ⟨⟨r0, r1, r2, r3⟩, s0, s1, s2, s3⟩ := four hR4
        have a0 := harr.at (show 0 < 4 by omega)
        have a1 := harr.at (show 1 < 4 by omega)
        have a2 := harr.at (show 2 < 4 by omega)
        have a3 := harr.at (show 3 < 4 by omega)
        have HA := Hid.mk harr
        have HR4 := Hid.mk hR4
        have HKK := Hid.mk hkr
        clear harr hkr hR4 hB4 hpl hql
        go_wp2
        have q4 := set4 (.int .i64 (rgS m 0 ln F G 0)) (.int .i64 (rgS m 0 ln F G 1)) (.int .i64 (rgS m 0 ln F G 2)) (.int .i64 (rgS m 0 ln F G 3)) HR4.out
        have hARR : Arr _ RB (rgF m ln F G) := (show Arr _ RB (rgS m 0 ln F G) from q4.1).congr (fun p hp => by
          unfold rgS rgF
          by_cases e2 : p < m
          · rw [if_pos e2, if_pos e2]
          · rw [if_neg e2, if_neg e2]
            split
            · rfl
            · rfl)
        refine bodyPost_ret (results_arr rfl _ _ RB (rgF m ln F G) (.int .i64 0) rfl hARR rfl) rfl ⟨?_, ?_⟩
        · rfl
        · have hb := HB.out
          have k5 : Kept [] w _ := HQ.out.2.2.step HKK.out (fun x hx => by simp at hx; subst hx; exact .inr hl.2.2.2)
          exact k5.step q4.2 (fun x hx => by simp at hx; right; omega)
  · have HR2 := Hid.mk hR2
    obtain ⟨⟨r0, r1, r2, r3⟩, s0, s1, s2, s3⟩ := four hR2
    clear hR2
    go_wp2
    have q4 := set4 (.int .i64 0) (.int .i64 0) (.int .i64 0) (.int .i64 0) HR2.out
    refine bodyPost_ret (results_arr rfl _ _ RB (fun _ => 0) (.int .i64 E) rfl q4.1 rfl) rfl ⟨?_, ?_⟩
    · rfl
    · have hb := HB.out
      exact K2.out.step q4.2 (fun x hx => by simp at hx; right; omega)
end Go.Proofs.Ythihennifigchab
