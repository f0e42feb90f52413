import Derived.Test.YtmgfapooanpgfaaAw
import Derived.Test.YtmgfapooanpgfaaPk
namespace Go.Proofs.Ytmgfapooanpgfaa
open Go.RowKit

theorem row_reads_le {w : World} {b T n : Nat} {f : Nat → Nat} (h : Row w b (rg f T)) (hn : n ≤ T) : Reads w (some ⟨b, 0, none⟩) (rg f n) := by
  refine .inr ⟨b, 0, rfl, fun i hi => ?_⟩
  rw [rg_length] at hi
  have := h.at (j := i) (by rw [rg_length]; omega)
  rw [rg_getD _ _ _ (by omega)] at this
  rw [Nat.zero_add, rg_getD _ _ _ hi]
  exact this

set_option maxHeartbeats 4000000 in
set_option maxRecDepth 1000000 in
theorem restore_bad (ao so mo lo : Option Addr) (n ca cs p cm m cl_ : Nat) (sz : Nat → Int) (w : World) (h1 : n ≤ 200) (h2 : p ≤ 16) (hs : RdI w so sz n) (hb : wi sz n 16777216 = false) :
    Calls Try.prog 14 #[.slice ao n ca, .slice so n cs, .slice mo p cm, .slice lo m cl_] w fun e w' => e = .returned (.tuple #[.slice none 0 0, .int .i64 52]) ∧ Kept [] w w' := by
  have d1 : decide ((200 : Int) < (n : Int)) = false := by simp; omega
  have d2 : decide ((16 : Int) < (p : Int)) = false := by simp; omega
  have C1 : Hid (Calls Try.prog 31 #[.slice so n cs, .int .i64 16777216] w fun e w' => e = .returned (.bool false) ∧ w' = w) := Hid.mk (by
    refine (within_any so n cs _ 16777216 w hs (by omega)).mono ?_
    rintro e w' ⟨rfl, rfl⟩
    exact ⟨by rw [hb], rfl⟩)
  clear hs hb
  go_enter Try.func14, Try.ntmps14
  go_wp2_with (go_at_call_of 31 so; refine C1.out.mono ?_; rintro e w' ⟨rfl, hw⟩; obtain rfl := hw.symm)
  try rw [Exit.noGoto_ret]
  go_ret2
  exact ⟨rfl, Kept.refl _ _⟩

theorem long_mk (l : List Nat) (x : Nat) : mk [l, [5]] 0 x = mu (cf 0 0) (l.getD x 0) ^^^ mu (cf 0 1) ([5].getD x 0) := by
  show (0 ^^^ mu (cf 0 0) (l.getD x 0)) ^^^ mu (cf 0 1) ([5].getD x 0) = _
  rw [Nat.zero_xor]

/-- Make of a row that is too long. -/
theorem long_one (w : World) (b T : Nat) (f : Nat → Nat) (hr : Row w b (rg f T)) (hf : ∀ j, f j < 256) (hT : 16777216 < T) (hT2 : T ≤ 140737488355328) :
    Calls Try.prog 13 #[.slice (some ⟨w.heap.size, 0, none⟩) 1 1, .int .i64 0] (w.alloc (.cells #[.slice (some ⟨b, 0, none⟩) T T] 40)) fun e w' => e = .returned (.tuple #[.slice none 0 0, .int .i64 52]) ∧ Kept [] w w' := by
  have ka := alloc_kept w (.cells #[.slice (some ⟨b, 0, none⟩) T T] 40)
  have hlen : ([rg f T].getD 0 []).length = T := rg_length _ _
  have hj0 : ∀ j, j < 1 → ([rg f T].getD j []).length ≤ 140737488355328 := fun j hj => by
    have e : j = 0 := by omega
    rw [e, hlen]
    exact hT2
  refine (make_any _ 1 1 0 [rg f T] _ (.inr ⟨_, 0, rfl, fun i hi => ?_⟩) (by intro r hr; simp only [List.mem_singleton] at hr; subst hr; exact rg_byts (fun j _ => hf j)) rfl (by omega) (by omega) hj0).mono ?_
  · have : i = 0 := by simp at hi; omega
    subst this
    rw [hlen]
    exact ⟨_, T, alloc_cell w _ 40 0 _ rfl, Nat.le_refl _, (row_reads_le (hr.keep ka (by simp)) (Nat.le_refl _))⟩
  · intro e w' h
    unfold MkPost at h
    have hw : wdt [rg f T] = T := by
      show max 0 ([rg f T].getD 0 []).length = T
      rw [hlen]; omega
    rw [hw, if_neg (by omega)] at h
    exact ⟨h.1, ka.trans h.2⟩

/-- Make of the longest row, and another one. -/
theorem long_two (w : World) (b T : Nat) (f : Nat → Nat) (hr : Row w b (rg f T)) (hf : ∀ j, f j < 256) (hT : 16777216 ≤ T) :
    Calls Try.prog 13 #[.slice (some ⟨w.heap.size + 1, 0, none⟩) 2 2, .int .i64 1] ((w.alloc (.cells #[.int .u8 5] 5)).alloc (.cells #[.slice (some ⟨b, 0, none⟩) 16777216 T, .slice (some ⟨w.heap.size, 0, none⟩) 1 1] 40)) fun e w' => ∃ g B Z, e = .returned (.tuple #[.slice (some ⟨g, 0, none⟩) 1 1, .int .i64 0]) ∧ w'.cell? ⟨g, 0, none⟩ = some (.slice (some ⟨B, 0, none⟩) 16777216 16777216) ∧ Row w' B (rg Z 16777216) ∧ (∀ x, x < 16777216 → Z x = mu (cf 0 0) (f x) ^^^ mu (cf 0 1) ([5].getD x 0)) ∧ (∀ x, Z x < 256) ∧ Kept [] w w' := by
  have k1 := alloc_kept w (.cells #[.int .u8 5] 5)
  have k2 := alloc_kept (w.alloc (.cells #[.int .u8 5] 5)) (.cells #[.slice (some ⟨b, 0, none⟩) 16777216 T, .slice (some ⟨w.heap.size, 0, none⟩) 1 1] 40)
  have s1 : (w.alloc (.cells #[.int .u8 5] 5)).heap.size = w.heap.size + 1 := World.size_alloc _ _
  obtain ⟨l, el⟩ : ∃ l, l = rg f 16777216 := ⟨_, rfl⟩
  have hl : l.length = 16777216 := by rw [el]; exact rg_length _ _
  have hrd : Reads ((w.alloc (.cells #[.int .u8 5] 5)).alloc (.cells #[.slice (some ⟨b, 0, none⟩) 16777216 T, .slice (some ⟨w.heap.size, 0, none⟩) 1 1] 40)) (some ⟨b, 0, none⟩) l := by rw [el]; exact ((row_reads_le hr hT).keep k1).keep k2
  have hbl : Byts l := by rw [el]; exact rg_byts (fun j _ => hf j)
  have hlx : ∀ x, x < 16777216 → l.getD x 0 = f x := fun x hx => by rw [el]; exact rg_getD _ _ _ hx
  clear el
  have hc0 := alloc_cell (w.alloc (.cells #[.int .u8 5] 5)) #[.slice (some ⟨b, 0, none⟩) 16777216 T, .slice (some ⟨w.heap.size, 0, none⟩) 1 1] 40 0 _ rfl
  have hc1 := alloc_cell (w.alloc (.cells #[.int .u8 5] 5)) #[.slice (some ⟨b, 0, none⟩) 16777216 T, .slice (some ⟨w.heap.size, 0, none⟩) 1 1] 40 1 _ rfl
  have hc5 := alloc_cell w #[.int .u8 5] 5 0 _ rfl
  rw [s1] at hc0 hc1
  have hw : wdt [l, [5]] = 16777216 := by
    show max (max 0 l.length) 1 = 16777216
    rw [hl]; omega
  refine (make_any _ 2 2 1 [l, [5]] _ (.inr ⟨_, 0, rfl, fun i hi => ?_⟩) (by intro r hr; simp only [List.mem_cons, List.not_mem_nil, or_false] at hr; rcases hr with rfl | rfl; exact hbl; intro b hb; simp at hb; omega) rfl (by omega) (by omega) (fun j hj => by
    match j, hj with
    | 0, _ => show l.length ≤ _; omega
    | 1, _ => show 1 ≤ _; omega)).mono ?_
  · match i, hi with
    | 0, _ => exact ⟨_, T, by rw [Nat.zero_add]; show _ = some (Value.slice (some ⟨b, 0, none⟩) l.length T); rw [hl]; exact hc0, by show l.length ≤ T; omega, hrd⟩
    | 1, _ => exact ⟨_, 1, hc1, Nat.le_refl _, .inr ⟨_, 0, rfl, fun j hj => by
        match j, hj with
        | 0, _ => exact cell_keep k2 hc5 (by simp)⟩⟩
  · intro e w' h
    unfold MkPost at h
    rw [hw, if_pos (by omega)] at h
    obtain ⟨g, B, Z, he, hct, hcn, hZ, _, _, hk⟩ := h
    refine ⟨g, B, Z, he, hct.out.at (by omega), ?_, fun x hx => ?_, hZ, (k1.trans k2).trans hk⟩
    · have := hct.row
      rw [show ofs (fun _ => 16777216) 1 = 16777216 from by show 0 + 16777216 = 16777216; omega] at this
      exact this
    · have := hcn 0 (by omega) x hx
      rw [show ofs (fun _ => 16777216) 0 + x = x from by show 0 + x = x; omega, long_mk, hlx x hx] at this
      exact this

/-- Restore of a size that is too great. -/
theorem long_bad (w : World) :
    Calls Try.prog 14 #[.slice (some ⟨w.heap.size, 0, none⟩) 1 1, .slice (some ⟨w.heap.size + 1, 0, none⟩) 1 1, .slice (some ⟨w.heap.size + 1 + 1 + 1, 0, none⟩) 1 1, .slice (some ⟨w.heap.size + 1 + 1 + 1 + 1, 0, none⟩) 1 1] (((((w.alloc (.cells #[.slice none 0 0] 40)).alloc (.cells #[.int .i64 16777217] 3)).alloc (.cells #[.int .u8 1] 5)).alloc (.cells #[.slice (some ⟨w.heap.size + 1 + 1, 0, none⟩) 1 1] 40)).alloc (.cells #[.int .i64 0] 3)) fun e w' => e = .returned (.tuple #[.slice none 0 0, .int .i64 52]) ∧ Kept [] w w' := by
  have s1 : (w.alloc (.cells #[.slice none 0 0] 40)).heap.size = w.heap.size + 1 := World.size_alloc _ _
  have c := alloc_cell (w.alloc (.cells #[.slice none 0 0] 40)) #[.int .i64 16777217] 3 0 _ rfl
  rw [s1] at c
  refine (restore_bad _ _ _ _ 1 1 1 1 1 1 1 (fun _ => 16777217) _ (by omega) (by omega) (.inr ⟨_, 0, rfl, fun i hi => by
    obtain rfl : i = 0 := by omega
    exact cell_keep (((alloc_kept _ _).trans (alloc_kept _ _)).trans (alloc_kept _ _)) c (by simp)⟩) (by decide)).mono fun e w' ⟨he, hk⟩ => ⟨he, ((((((alloc_kept _ _).trans (alloc_kept _ _)).trans (alloc_kept _ _)).trans (alloc_kept _ _)).trans (alloc_kept _ _)).trans hk)⟩

set_option maxHeartbeats 16000000 in
set_option maxRecDepth 1000000 in
theorem long_any (at_ : Int) (w : World) (hat : -9223372036854775808 ≤ at_ ∧ at_ ≤ 9223372036854775807) :
    Calls Try.prog 7 #[.int .i64 at_] w fun e w' => e = .returned (.bool true) ∧ Kept [] w w' := by
  obtain ⟨i0, hi, hz0, hz1, hz2⟩ := info_parts Try.info5
  have C1 := Hid.mk awake_any
  have C3 : Hid (∀ u, Calls Try.prog 12 #[.int .i64 at_, .int .i64 16777216] u fun e w' => e = .returned (.int .i64 ((pick at_ 16777216).toNat : Int)) ∧ w' = u) := Hid.mk (fun u => (pick_any at_ 16777216 u hat.1 hat.2 (by omega)).mono (by
    rintro e w' ⟨rfl, rfl⟩
    exact ⟨by rw [Int.toNat_of_nonneg (pick_lo at_ 16777216 (by omega))], rfl⟩))
  have hP : (pick at_ 16777216).toNat < 16777216 := by have := pick_lo at_ 16777216 (by omega); have := pick_hi at_ 16777216 (by omega); omega
  obtain ⟨P, eP⟩ : ∃ P, P = (pick at_ 16777216).toNat := ⟨_, rfl⟩
  rw [← eP] at C3 hP
  clear eP
  have HMK : Hid (∀ w1 w3, w3.ownsRow 0 5 1 (.slice (some ⟨w1.heap.size, 0, none⟩) 16777217 16777217) 16777217 (madeCells (Value.int .u8 0).cells (16777217 * 1)).toList → w1.grownBy w3 none → Row w3 w1.heap.size (rg (fun _ => 0) 16777217) ∧ Kept [] w1 w3) := Hid.mk (fun w1 w3 ho3 hg3 => by
    have hk3 := Kept.of_grown hg3
    have hr3 := row_heap ho3 rfl
    rw [madeBytes, show List.replicate 16777217 (byt 0) = (rg (fun _ => 0) 16777217).map byt from rg_none _] at hr3
    exact ⟨hr3, hk3.mono (by simp)⟩)
  go_enter Try.func7, Try.ntmps7
  go_upto_region 4 with (first | (go_at_call 8; refine (C1.out _).mono ?_; rintro e w1 ⟨rfl, hk1⟩) | (go_at_call 12; refine (C3.out _).mono ?_; rintro e w2' ⟨rfl, hw⟩; obtain rfl := hw.symm) | (at_make; refine wpList_make_full _ rfl _ _ 40 rfl 0 5 i0 (.int .u8 0) 1 Try.underlying40 hi hz0 hz1 _ _ _ _ 16777217 rfl rfl (by omega) (by omega) (by rw [hz2]; omega) (by unfold maxLen; omega) (by omega) ?_; intro w2 ho2 hg2; obtain ⟨hr2, hk2⟩ := HMK.out _ _ ho2 hg2; clear ho2 hg2))
  have hk12 : Kept [] w w2 := hk1.trans hk2
  obtain ⟨b0, eb0⟩ : ∃ b0, b0 = w1.heap.size := ⟨_, rfl⟩
  rw [← eb0] at hr2 ⊢
  have hwb : w.heap.size ≤ b0 := by have := hk1.size; omega
  have hc2 : w2.cell? ⟨b0, P, none⟩ = some (.int .u8 0) := by
    have := hr2.at (j := P) (by rw [rg_length]; omega)
    rw [rg_getD _ _ _ (by omega)] at this
    exact this
  have hf2 := hr2.fz P
  have HR3 : Hid (∀ v, v = byt 3 → Row (w2.setCell ⟨b0, P, none⟩ v) b0 (rg (fun j => if j = P then 3 else 0) 16777217)) := Hid.mk (fun v hv => hr2.put (fun j => rfl) hv)
  have HK3 : Hid (∀ v, Kept [] w (w2.setCell ⟨b0, P, none⟩ v)) := Hid.mk (fun v => hk12.setCell (p := ⟨b0, P, none⟩) (.inr hwb) v)
  have ixp : (P : Int) < 16777217 := by omega
  clear hr2 hk1 hk2 hk12 C1 C3 HMK eb0
  go_upto_region 5 with (fail)
  obtain ⟨w3, ew3⟩ : ∃ w3, w3 = w2.setCell ⟨b0, P, none⟩ (.int .u8 3) := ⟨_, rfl⟩
  have R3 := Hid.mk (HR3.out (.int .u8 3) rfl)
  have K3 := Hid.mk (HK3.out (.int .u8 3))
  rw [← ew3] at R3 K3 ⊢
  clear ew3 HR3 HK3 hc2 hf2
  obtain ⟨f, ef⟩ : ∃ f : Nat → Nat, f = fun j => if j = P then 3 else 0 := ⟨_, rfl⟩
  have Hf : Hid (∀ j, f j < 256) := Hid.mk (fun j => by rw [ef]; show (if j = P then 3 else 0) < 256; split <;> decide)
  have HfP : Hid (f P = 3) := Hid.mk (by rw [ef]; exact if_pos rfl)
  have Hf0 : Hid (∀ j, j ≠ P → f j = 0) := Hid.mk (fun j hj => by rw [ef]; exact if_neg hj)
  rw [← ef] at R3
  clear ef
  have D1 := Hid.mk (long_one w3 b0 16777217 f R3.out Hf.out (by omega) (by omega))
  have D2 := Hid.mk (fun u (hk : Kept [] w3 u) => long_two u b0 16777217 f (R3.out.keep hk (by simp)) Hf.out (by omega))
  have D3 := Hid.mk long_bad
  have D4 := Hid.mk (fun u => cauchy_ok 1 2 u (by omega) (by omega) (by omega))
  go_upto_region 6 with (go_at_call 13; refine D1.out.mono ?_; rintro e w4 ⟨rfl, hk4⟩)
  go_upto_region 7 with (go_at_call 13; refine (D2.out _ hk4).mono ?_; rintro e w5 ⟨g5, B5, Z5, rfl, hc5, hr5, hz5, hl5, hk5⟩)
  go_upto_region 9 with (first | (go_at_call 14; refine (D3.out _).mono ?_; rintro e w6 ⟨rfl, hk6⟩) | (go_at_call 16; refine (D4.out _).mono ?_; rintro e w7 ⟨gc, bs, rfl, hM7, hgc, hbs, hk7⟩))
  have k57 : Kept [] w5 w7 := hk6.trans hk7
  have k37 : Kept [] w3 w7 := (hk4.trans hk5).trans k57
  have HK7 : Hid (Kept [] w w7) := Hid.mk (K3.out.trans k37)
  have hcl := cell_keep k57 hc5 (by simp)
  have r5 := hr5.keep k57 (by simp)
  have r3 := R3.out.keep k37 (by simp)
  have hcc := hM7.out 0 (by omega)
  have rc := hM7.row 0 (by omega)
  obtain ⟨bc, ebc⟩ : ∃ bc, bc = bs 0 := ⟨_, rfl⟩
  rw [← ebc] at hcc rc
  have q0 : w7.cell? ⟨bc, 0, none⟩ = some (.int .u8 (cf 0 0 : Nat)) := rc.at (by rw [rg_length]; omega)
  have q1 : w7.cell? ⟨bc, 1, none⟩ = some (.int .u8 (cf 0 1 : Nat)) := rc.at (by rw [rg_length]; omega)
  have hbP : w7.cell? ⟨b0, P, none⟩ = some (.int .u8 3) := by
    have := r3.at (j := P) (by rw [rg_length]; omega)
    rw [rg_getD _ _ _ (by omega), HfP.out] at this
    exact this
  have hbL : w7.cell? ⟨b0, 16777215, none⟩ = some (.int .u8 (f 16777215 : Nat)) := by
    have := r3.at (j := 16777215) (by rw [rg_length]; omega)
    rw [rg_getD _ _ _ (by omega)] at this
    exact this
  have hzc : ∀ x, x < 16777216 → w7.cell? ⟨B5, x, none⟩ = some (.int .u8 (Z5 x : Nat)) := fun x hx => by
    have := r5.at (j := x) (by rw [rg_length]; omega)
    rw [rg_getD _ _ _ hx] at this
    exact this
  have HZC := Hid.mk hzc
  have HZ5 := Hid.mk hz5
  have hfl := Hf.out 16777215
  have hc0l := cf_lo 0 0
  have hc1l := cf_lo 0 1
  obtain ⟨c0, ec0⟩ : ∃ c0, c0 = cf 0 0 := ⟨_, rfl⟩
  obtain ⟨c1, ec1⟩ : ∃ c1, c1 = cf 0 1 := ⟨_, rfl⟩
  rw [← ec0] at q0 hc0l HZ5
  rw [← ec1] at q1 hc1l HZ5
  obtain ⟨fl_, efl⟩ : ∃ fl_, fl_ = f 16777215 := ⟨_, rfl⟩
  have Efl := Hid.mk efl
  rw [← efl] at hbL hfl
  have M1 := Hid.mk (fun u => mul_any c0 3 hc0l (by omega) u)
  have M2 := Hid.mk (fun u => mul_any c1 5 hc1l (by omega) u)
  have M3 := Hid.mk (fun u => mul_any c0 fl_ hc0l hfl u)
  clear k57 k37 r5 r3 rc hM7 hgc hbs hk7 hk6 hk5 hk4 hc5 hr5 hz5 hl5 hzc ec0 ec1 ebc efl R3 K3 D1 D2 D3 D4
  go_upto_region 11 with (fail)
  go_cut [13] (fun s wc => s = .int .u8 (mu c0 3 : Int) ∧ Qt w7 wc)
  case first =>
    go_quiet ((go_at_call 17; refine Calls.quiet_of (M1.out _)))
    all_goals go_wp2
    all_goals go_meet
    all_goals exact ⟨rfl, _, rfl⟩
  case rest =>
    obtain ⟨rfl, hq⟩ := hcut
    have kc := Qt.kept hq []
    replace hcl := cell_keep kc hcl (by simp)
    replace hcc := cell_keep kc hcc (by simp)
    replace q0 := cell_keep kc q0 (by simp)
    replace q1 := cell_keep kc q1 (by simp)
    replace hbL := cell_keep kc hbL (by simp)
    have HZC2 : Hid (∀ x, x < 16777216 → wc.cell? ⟨B5, x, none⟩ = some (.int .u8 (Z5 x : Nat))) := Hid.mk (fun x hx => cell_keep kc (HZC.out x hx) (by simp))
    have HKc := Hid.mk (HK7.out.trans kc)
    clear hq kc HZC HK7 hbP
    have hx3 := mu_lt c0 3
    have hy5 := mu_lt c1 5
    go_upto_region 13 with (go_at_call 17; refine (M2.out _).mono ?_; rintro e w9 ⟨rfl, m9, hw9⟩; have kc9 : Kept [] wc w9 := by { rw [hw9]; exact (Kept.refl _ _).drewN m9 }; clear hw9)
    replace hcl := cell_keep kc9 hcl (by simp)
    replace hcc := cell_keep kc9 hcc (by simp)
    replace q0 := cell_keep kc9 q0 (by simp)
    replace hbL := cell_keep kc9 hbL (by simp)
    have HZC3 : Hid (∀ x, x < 16777216 → w9.cell? ⟨B5, x, none⟩ = some (.int .u8 (Z5 x : Nat))) := Hid.mk (fun x hx => cell_keep kc9 (HZC2.out x hx) (by simp))
    have HK9 := Hid.mk (HKc.out.trans kc9)
    clear kc9 HZC2 HKc q1
    have hz0 := HZC3.out 0 (by omega)
    by_cases hP0 : P = 0
    · have hz1 := HZC3.out 1 (by omega)
      have e0 : Z5 0 = mu c0 3 ^^^ mu c1 5 := by rw [HZ5.out 0 (by omega), ← hP0, HfP.out, hP0]; rfl
      have e1 : Z5 1 = 0 := by rw [HZ5.out 1 (by omega), Hf0.out 1 (by omega), mu_zero]; show 0 ^^^ mu c1 0 = 0; rw [mu_zero]; rfl
      rw [e0] at hz0
      rw [e1] at hz1
      obtain ⟨x, ex⟩ : ∃ x, x = mu c0 3 := ⟨_, rfl⟩
      rw [← ex] at hz0 hx3 ⊢
      obtain ⟨y, ey⟩ : ∃ y, y = mu c1 5 := ⟨_, rfl⟩
      rw [← ey] at hz0 hy5 ⊢
      have hxy := u8_xor_nat x y hx3 hy5
      subst hP0
      clear e0 e1 ex ey HZC3 M1 M2 M3
      go_wp2
      go_ret
      exact ⟨rfl, HK9.out⟩
    · have hPne : ((P : Int) == 0) = false := by simp; omega
      have hg : ∀ x, x ≠ 0 → [5].getD x 0 = 0 := fun x hx => by rw [List.getD_eq_getElem?_getD, List.getElem?_eq_none (by simp; omega)]; rfl
      have hzP := HZC3.out P (by omega)
      have hzL := HZC3.out 16777215 (by omega)
      have e0 : Z5 0 = mu c1 5 := by rw [HZ5.out 0 (by omega), Hf0.out 0 (Ne.symm hP0), mu_zero, Nat.zero_xor]; rfl
      have eP : Z5 P = mu c0 3 := by rw [HZ5.out P (by omega), HfP.out, hg P hP0, mu_zero, Nat.xor_zero]
      have eL : Z5 16777215 = mu c0 fl_ := by rw [HZ5.out 16777215 (by omega), ← Efl.out, hg 16777215 (by omega), mu_zero, Nat.xor_zero]
      rw [e0] at hz0
      rw [eP] at hzP
      rw [eL] at hzL
      obtain ⟨x, ex⟩ : ∃ x, x = mu c0 3 := ⟨_, rfl⟩
      rw [← ex] at hzP hx3 ⊢
      obtain ⟨y, ey⟩ : ∃ y, y = mu c1 5 := ⟨_, rfl⟩
      rw [← ey] at hz0 hy5 ⊢
      have hzz := mu_lt c0 fl_
      obtain ⟨z, ez⟩ : ∃ z, z = mu c0 fl_ := ⟨_, rfl⟩
      rw [← ez] at hzL M3 hzz
      clear e0 eP eL ex ey ez HZC3 M1 M2 hg
      go_upto_region 15 with (fail)
      go_quiet ((go_at_call 17; refine Calls.quiet_of (M3.out _)))
      all_goals go_wp2
      all_goals go_ret
      all_goals exact ⟨rfl, HK9.out.drewN _⟩
end Go.Proofs.Ytmgfapooanpgfaa
