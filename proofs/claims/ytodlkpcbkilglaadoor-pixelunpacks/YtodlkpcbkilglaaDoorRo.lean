import Derived.Test.YtodlkpcbkilglaaDoorB2Z
namespace Go.Proofs.YtodlkpcbkilglaaDoor
open Go.RowKit

/-- Planes that are read, each where it lies. -/
def Pq (w : World) (po : Option Addr) (n : Nat) (ln pb pf pc : Nat → Nat) : Prop :=
  ∃ g off, po = some ⟨g, off, none⟩ ∧ ∀ i, i < n → w.cell? ⟨g, off + i, none⟩ = some (.slice (some ⟨pb i, pf i, none⟩) (ln i) (pc i))
theorem Pq.keep {w w' : World} {po : Option Addr} {n : Nat} {ln pb pf pc : Nat → Nat} (h : Pq w po n ln pb pf pc) (hk : Kept [] w w') : Pq w' po n ln pb pf pc := by
  obtain ⟨g, off, e, hc⟩ := h
  exact ⟨g, off, e, fun i hi => cell_keep hk (hc i hi) (by simp)⟩
/-- A list of lists, in a block of its own. -/
def Rwl (w : World) (g m : Nat) (v : Nat → Value) : Prop := w.heap[g]? = some (.cells (fl v m).toArray 68 (0, 0))
theorem Rwl.at {w : World} {g m : Nat} {v : Nat → Value} (h : Rwl w g m v) {j : Nat} (hj : j < m) : w.cell? ⟨g, j, none⟩ = some (v j) := by
  rw [cell_of_row _ _ _ _ _ _ h]; rw [List.getElem?_toArray]; exact fl_at _ _ _ hj
theorem Rwl.keep {w w' : World} {g m : Nat} {v : Nat → Value} {ks : List Nat} (h : Rwl w g m v) (hk : Kept ks w w') (hn : g ∉ ks) : Rwl w' g m v := hk.heap h hn
theorem Rwl.lt {w : World} {g m : Nat} {v : Nat → Value} (h : Rwl w g m v) : g < w.heap.size := lt_of_block h
theorem Rwl.set {w : World} {g m k : Nat} {v : Nat → Value} (h : Rwl w g m (fun j => if j < k then v j else .slice none 0 0)) (hk : k < m) :
    Rwl (w.setCell ⟨g, k, none⟩ (v k)) g m (fun j => if j < k + 1 then v j else .slice none 0 0) := by
  unfold Rwl at h ⊢
  rw [heap_setCell_at h]
  congr 2
  rw [List.setIfInBounds_toArray]
  congr 1
  apply List.ext_getElem?
  intro j
  rw [List.getElem?_set]
  by_cases h1 : k = j
  · subst h1
    rw [if_pos rfl, if_pos (by rw [fl_length]; exact hk), fl_at _ _ _ hk, if_pos (by omega)]
  · rw [if_neg h1]
    by_cases h2 : j < m
    · rw [fl_at _ _ _ h2, fl_at _ _ _ h2]
      by_cases h3 : j < k
      · rw [if_pos h3, if_pos (by omega)]
      · rw [if_neg h3, if_neg (by omega)]
    · rw [List.getElem?_eq_none (by rw [fl_length]; omega), List.getElem?_eq_none (by rw [fl_length]; omega)]

set_option maxHeartbeats 4000000 in
set_option maxRecDepth 1000000 in
/-- The samples of some planes at one height. -/
theorem rowOf_any (W D : Int) (A : Bool) (po : Option Addr) (n c h y m sb sc : Nat) (ln pb pf pc wd S : Nat → Nat) (w : World)
    (hP : Pq w po n ln pb pf pc) (hpc : ∀ i, i < n → ln i ≤ pc i) (h1 : 1 ≤ h) (h2 : h ≤ 4096) (hy : y < h) (hm : m ≤ 1000)
    (hS : ∀ j, j < m → w.cell? ⟨sb, j, none⟩ = some (.int .i64 (S j : Int)) ∧ S j < n) (hw : ∀ j, j < m → ln (S j) = wd j * h ∧ 1 ≤ wd j ∧ wd j ≤ 4096) :
    Calls Tryd.prog 94 #[frv W (h : Int) D A po n c, .slice (some ⟨sb, 0, none⟩) m sc, .int .i64 (y : Int)] w fun e w' => e = .returned (.slice (some ⟨w.heap.size + 1, 0, none⟩) m m) ∧ Rwl w' (w.heap.size + 1) m (fun j => .slice (some ⟨pb (S j), pf (S j) + y * wd j, none⟩) (wd j) (pc (S j) - y * wd j)) ∧ Kept [] w w' := by
  obtain ⟨mkR, hmk, hmw⟩ := make_planes m (by omega)
  obtain ⟨pg, poff, rfl, hPc⟩ := hP
  have m0 := hmw (w.alloc (.cells #[.int .i64 W, .int .i64 (h : Int), .int .i64 D, .bool A, .slice (some ⟨pg, poff, none⟩) n c] 31 (0, 0)))
  have hmk1 := hmk (w.alloc (.cells #[.int .i64 W, .int .i64 (h : Int), .int .i64 D, .bool A, .slice (some ⟨pg, poff, none⟩) n c] 31 (0, 0)))
  obtain ⟨w1, ew1⟩ : ∃ w1, w1 = mkR (w.alloc (.cells #[.int .i64 W, .int .i64 (h : Int), .int .i64 D, .bool A, .slice (some ⟨pg, poff, none⟩) n c] 31 (0, 0))) := ⟨_, rfl⟩
  rw [World.size_alloc, ← ew1] at m0 hmk1
  have R1 := Hid.mk ((Fat.new w W (h : Int) D A (.slice (some ⟨pg, poff, none⟩) n c) 31).keep m0.2 (by simp))
  have HR0 := Hid.mk m0.1
  have HK0 := Hid.mk ((alloc_kept w _).trans m0.2)
  have HZ : Hid (w.heap.size + 1 < w1.heap.size) := Hid.mk (lt_of_block m0.1)
  have HPc := Hid.mk hPc
  have HS := Hid.mk hS
  have HW := Hid.mk hw
  have HPC := Hid.mk hpc
  clear hmk hmw m0 ew1 hPc hS hw hpc
  go_enter Tryd.func94, Tryd.ntmps94
  go_wp2
  obtain ⟨b, eb⟩ : ∃ b, b = w.heap.size := ⟨_, rfl⟩
  rw [← eb] at HR0 R1 HZ ⊢
  have HEB := Hid.mk eb
  clear eb hmk1
  go_loopw [16] (fun i wr => ∃ k : Nat, k ≤ m ∧ i = .int .i64 (k : Int) ∧ Rwl wr (b + 1) m (fun j => if j < k then .slice (some ⟨pb (S j), pf (S j) + y * wd j, none⟩) (wd j) (pc (S j) - y * wd j) else .slice none 0 0) ∧ Kept [b + 1] w1 wr) (fun i _ => m - (intOf i).toNat)
  case atStart =>
    refine ⟨0, by omega, rfl, ?_, Kept.refl _ _⟩
    have := HR0.out
    unfold Rwl
    rw [this]
    congr 2
    apply congrArg
    apply List.ext_getElem?
    intro j
    by_cases h2 : j < m
    · rw [fl_at _ _ _ h2, List.getElem?_replicate, if_pos h2, if_neg (by omega)]
    · rw [List.getElem?_eq_none (by simp; omega), List.getElem?_eq_none (by rw [fl_length]; omega)]
  case round =>
    obtain ⟨k, hk, rfl, hrow, hkr⟩ := hrel
    have HRow := Hid.mk hrow
    have Hkr := Hid.mk hkr
    obtain ⟨p0, p1, p2, p3, p4⟩ := R1.out.keep hkr (by simp)
    clear hrow hkr
    by_cases hlt : k < m
    · have hk1 : Kept [] w wr := HK0.out.step Hkr.out (fun x hx => by simp at hx; right; have := HEB.out; omega)
      have nw : ∀ g o v, w.cell? ⟨g, o, none⟩ = some v → wr.cell? ⟨g, o, none⟩ = some v := fun g o v hv => cell_keep hk1 hv (by simp)
      obtain ⟨s0, s1⟩ := HS.out k hlt
      have s2 := nw _ _ _ s0
      obtain ⟨x, ex⟩ : ∃ x, x = S k := ⟨_, rfl⟩
      have c1 := nw _ _ _ (HPc.out (S k) s1)
      obtain ⟨l1, l2, l3⟩ := HW.out k hlt
      have l4 := HPC.out (S k) s1
      have HSET := Hid.mk (fun nq => (HRow.out.keep ((Kept.refl [] _).drewN nq) (by simp)).set hlt)
      obtain ⟨d, ed⟩ : ∃ d, d = wd k := ⟨_, rfl⟩
      obtain ⟨L, eL⟩ : ∃ L, L = ln (S k) := ⟨_, rfl⟩
      obtain ⟨C, eC⟩ : ∃ C, C = pc (S k) := ⟨_, rfl⟩
      obtain ⟨pB, eB⟩ : ∃ pB, pB = pb (S k) := ⟨_, rfl⟩
      obtain ⟨pF, eF⟩ : ∃ pF, pF = pf (S k) := ⟨_, rfl⟩
      obtain ⟨t, et⟩ : ∃ t : Nat, t = y * d := ⟨_, rfl⟩
      have t1 : y * d + d ≤ L := by
        have : (y + 1) * d ≤ h * d := Nat.mul_le_mul_right _ (by omega)
        rw [Nat.add_mul, Nat.one_mul] at this
        rw [eL, l1, ← ed, Nat.mul_comm d h]
        exact this
      have hq : (L : Int) / (h : Int) = (d : Int) := by
        rw [eL, l1, ← ed]
        have : ((d * h : Nat) : Int) / (h : Int) = ((d * h / h : Nat) : Int) := rfl
        rw [this, Nat.mul_div_cancel _ (by omega)]
      have hLb : L ≤ 16777216 := by
        rw [eL, l1]
        exact Nat.le_trans (Nat.mul_le_mul l3 h2) (by decide)
      rw [← ex] at s2 s1 c1
      simp only [← ex] at eL eC eB eF HSET l4
      rw [← eL, ← eC, ← eB, ← eF] at c1
      simp only [← ed, ← eC, ← eB, ← eF, ← et] at HSET
      rw [← eL, ← eC] at l4
      rw [← ed] at l2 l3
      rw [← et] at t1
      have w1' : IntKind.i64.wrap ((y : Int) * (d : Int)) = (t : Int) := by
        have e : (y : Int) * (d : Int) = ((y * d : Nat) : Int) := by simp
        rw [e, ← et]; exact wrap_i (by omega) (by omega)
      have w0' : IntKind.i64.wrap ((y : Int) + 1) = (y : Int) + 1 := wrap_i (by omega) (by omega)
      have w2' : IntKind.i64.wrap (((y : Int) + 1) * (d : Int)) = ((t + d : Nat) : Int) := by
        have e : ((y : Int) + 1) * (d : Int) = (((y + 1) * d : Nat) : Int) := by simp
        rw [e, Nat.add_mul, Nat.one_mul, ← et]; exact wrap_i (by omega) (by omega)
      have i1 : (t : Int) ≤ ((t + d : Nat) : Int) := by omega
      have i2 : ((t + d : Nat) : Int) ≤ (C : Int) := by omega
      have i5 : (t : Int) < (C : Int) := by omega
      have i7 : t < C := by omega
      have j1 : t ≤ t + d := by omega
      have j2 : ¬ t + d < t := by omega
      have j3 : ¬ C < t + d := by omega
      have i9 : ¬ C ≤ t := by omega
      have xn : (x : Int) < (n : Int) := by omega
      have km : (k : Int) < (m : Int) := by omega
      have hn0 : ((h : Int) == 0) = false := by simp; omega
      have fz : wr.frozen? ⟨b + 1, k, none⟩ = false := by
        have := HRow.out
        unfold Rwl at this
        simp [World.frozen?, this]
      have fz2 : wr.drew.frozen? ⟨b + 1, k, none⟩ = false := fz
      have cc := HRow.out.at hlt
      rw [if_neg (by omega)] at cc
      clear l1 ex eL eC eB eF ed et s0 hk1 nw
      go_wp2
      go_quiet (fail)
      go_wp2
      go_roundw
      case rel => exact ⟨k + 1, by omega, by go_num, HSET.out _, (Hkr.out.drewN _).setCell (.inl (by simp)) _⟩
      case measure => first | (simp [intOf]; done) | (simp [intOf]; omega)
    · obtain rfl : m = k := by omega
      have HRR : Hid (Rwl wr (b + 1) m (fun j => .slice (some ⟨pb (S j), pf (S j) + y * wd j, none⟩) (wd j) (pc (S j) - y * wd j))) := Hid.mk (by
        have := HRow.out
        unfold Rwl at this ⊢
        rw [this]
        congr 2
        exact congrArg _ (fl_congr (fun j hj => by rw [if_pos hj])))
      go_wp2
      go_ret
      obtain rfl : b = w.heap.size := HEB.out
      exact ⟨rfl, HRR.out, HK0.out.step Hkr.out (fun x hx => by simp at hx; subst hx; right; omega)⟩
end Go.Proofs.YtodlkpcbkilglaaDoor
