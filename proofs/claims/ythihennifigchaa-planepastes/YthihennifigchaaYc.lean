import Derived.Test.YthihennifigchaaYa
namespace Go.Proofs.Ythihennifigchaa
open Go.RowKit

/-- A plane is there, and a rectangle lies in it. -/
def inP (W H : Int) (A : Bool) (p X Y rw rh : Int) : Bool := decide (0 ≤ p ∧ p < (np A : Int)) && lie X Y rw rh (wp W p) H

set_option maxHeartbeats 4000000 in
set_option maxRecDepth 1000000 in
theorem inPlane_any (W H D p X Y rw rh : Int) (A : Bool) (w : World) (hX : -9223372036854775808 ≤ X ∧ X ≤ 9223372036854775807) (hY : -9223372036854775808 ≤ Y ∧ Y ≤ 9223372036854775807) (hW : 1 ≤ W ∧ W ≤ 4096) (hH : 1 ≤ H ∧ H ≤ 4096) :
    Calls Try.prog 51 #[shv W H D A, .int .i64 p, rcv X Y rw rh] w fun e w' => e = .returned (.bool (inP W H A p X Y rw rh)) ∧ Kept [] w w' := by
  have C := Hid.mk (fun u => there_any W H D p A u)
  have C2 := Hid.mk (fun u => sides_any W H D p A u (by omega) hW.2)
  have wl := wp_lo p hW.1
  have wh := wp_hi p hW.1
  have C3 := Hid.mk (fun u => lies_any X Y rw rh (wp W p) H u hX hY ⟨wl, by omega⟩ hH)
  have N := two_new w (.int .i64 W) (.int .i64 H) (.int .i64 D) (.bool A) (.int .i64 X) (.int .i64 Y) (.int .i64 rw) (.int .i64 rh) 23 51
  obtain ⟨w1, ew1⟩ : ∃ w1, w1 = (w.alloc (.cells #[.int .i64 W, .int .i64 H, .int .i64 D, .bool A] 23 (0, 0))).alloc (.cells #[.int .i64 X, .int .i64 Y, .int .i64 rw, .int .i64 rh] 51 (0, 0)) := ⟨_, rfl⟩
  rw [← ew1] at N
  have HN := Hid.mk N
  have EW := Hid.mk ew1
  clear N ew1 wl wh
  by_cases hp : 0 ≤ p ∧ p < (np A : Int)
  · rw [decide_eq_true hp] at C
    rw [show inP W H A p X Y rw rh = lie X Y rw rh (wp W p) H by unfold inP; rw [decide_eq_true hp]; rfl]
    obtain ⟨x, ex⟩ : ∃ x, x = wp W p := ⟨_, rfl⟩
    rw [← ex] at C2 C3 ⊢
    clear hp ex
    go_enter Try.func51, Try.ntmps51
    go_wp2_with (first | (go_at_call 40; rw [← EW.out]; refine (C.out _).mono ?_; rintro e w2 ⟨rfl, hk2⟩; obtain ⟨⟨c0, c1, c2, c3⟩, _⟩ := four (hk2.heap HN.out.1 (by simp)); obtain ⟨⟨r0, r1, r2, r3⟩, _⟩ := four (hk2.heap HN.out.2.1 (by simp))) | (go_at_call 41; refine (C2.out _).mono ?_; rintro e w3 ⟨rfl, hk3⟩; obtain ⟨⟨s0, s1, s2, s3⟩, _⟩ := four ((hk2.trans hk3).heap HN.out.2.1 (by simp))) | (go_at_call 62; refine (C3.out _).mono ?_; rintro e w4 ⟨rfl, hk4⟩))
    go_ret
    exact ⟨rfl, ((HN.out.2.2.trans hk2).trans hk3).trans hk4⟩
  · rw [decide_eq_false hp] at C
    rw [show inP W H A p X Y rw rh = false by unfold inP; rw [decide_eq_false hp]; rfl]
    clear hp
    go_enter Try.func51, Try.ntmps51
    go_wp2_with (first | (go_at_call 40; rw [← EW.out]; refine (C.out _).mono ?_; rintro e w2 ⟨rfl, hk2⟩))
    go_ret
    exact ⟨rfl, HN.out.2.2.trans hk2⟩

/-- A block as a value. -/
abbrev blv (a b : Int) (so : Option Addr) (m k : Nat) : Value := .agg #[.int .i64 a, .int .i64 b, .slice so m k]
theorem Try.info54 : (Try.prog.info? 54).map (·.size) = some 3 := by kernel_rfl
/-- Three cells are written. -/
theorem set3 {w : World} {B t : Nat} {a b c : Value} (a' b' c' : Value) (h : w.heap[B]? = some (.cells #[a, b, c] t (0, 0))) :
    (((w.setCell ⟨B, 0, none⟩ a').setCell ⟨B, 1, none⟩ b').setCell ⟨B, 2, none⟩ c').heap[B]? = some (.cells #[a', b', c'] t (0, 0)) ∧
    Kept [B] w (((w.setCell ⟨B, 0, none⟩ a').setCell ⟨B, 1, none⟩ b').setCell ⟨B, 2, none⟩ c') :=
  ⟨heap_setCell_at (heap_setCell_at (heap_setCell_at h)), (((Kept.refl [B] w).setCell (p := ⟨B, 0, none⟩) (.inl (by simp)) _).setCell (p := ⟨B, 1, none⟩) (.inl (by simp)) _).setCell (p := ⟨B, 2, none⟩) (.inl (by simp)) _⟩
theorem tri' {w : World} {B t : Nat} {a b c : Value} (h : w.heap[B]? = some (.cells #[a, b, c] t (0, 0))) :
    (w.cell? ⟨B, 0, none⟩ = some a ∧ w.cell? ⟨B, 1, none⟩ = some b ∧ w.cell? ⟨B, 2, none⟩ = some c) ∧ w.frozen? ⟨B, 0, none⟩ = false ∧ w.frozen? ⟨B, 1, none⟩ = false ∧ w.frozen? ⟨B, 2, none⟩ = false := by
  refine ⟨⟨?_, ?_, ?_⟩, ?_, ?_, ?_⟩
  all_goals first | (rw [cell_of_row _ _ _ _ _ _ h]; rfl) | (simp [World.frozen?, h])
/-- Blocks of a frame, a rectangle and a block. -/
theorem ent543 (w : World) (a0 a1 a2 a3 a4 b0 b1 b2 b3 c0 c1 c2 : Value) (t t' t2 : Nat) :
    (((w.alloc (.cells #[a0, a1, a2, a3, a4] t (0, 0))).alloc (.cells #[b0, b1, b2, b3] t' (0, 0))).alloc (.cells #[c0, c1, c2] t2 (0, 0))).heap[w.heap.size]? = some (.cells #[a0, a1, a2, a3, a4] t (0, 0)) ∧
    (((w.alloc (.cells #[a0, a1, a2, a3, a4] t (0, 0))).alloc (.cells #[b0, b1, b2, b3] t' (0, 0))).alloc (.cells #[c0, c1, c2] t2 (0, 0))).heap[w.heap.size + 1]? = some (.cells #[b0, b1, b2, b3] t' (0, 0)) ∧
    (((w.alloc (.cells #[a0, a1, a2, a3, a4] t (0, 0))).alloc (.cells #[b0, b1, b2, b3] t' (0, 0))).alloc (.cells #[c0, c1, c2] t2 (0, 0))).heap[w.heap.size + 1 + 1]? = some (.cells #[c0, c1, c2] t2 (0, 0)) ∧
    Kept [] w (((w.alloc (.cells #[a0, a1, a2, a3, a4] t (0, 0))).alloc (.cells #[b0, b1, b2, b3] t' (0, 0))).alloc (.cells #[c0, c1, c2] t2 (0, 0))) := by
  refine ⟨((alloc_kept _ _).trans (alloc_kept _ _)).heap (heap_alloc_new w _) (by simp), (alloc_kept _ _).heap ?_ (by simp), ?_, ((alloc_kept _ _).trans (alloc_kept _ _)).trans (alloc_kept _ _)⟩
  · have := heap_alloc_new (w.alloc (.cells #[a0, a1, a2, a3, a4] t (0, 0))) (.cells #[b0, b1, b2, b3] t' (0, 0))
    rwa [World.size_alloc] at this
  · have := heap_alloc_new ((w.alloc (.cells #[a0, a1, a2, a3, a4] t (0, 0))).alloc (.cells #[b0, b1, b2, b3] t' (0, 0))) (.cells #[c0, c1, c2] t2 (0, 0))
    rwa [World.size_alloc, World.size_alloc] at this

set_option maxHeartbeats 8000000 in
set_option maxRecDepth 1000000 in
theorem crop_yes (W H D : Int) (A : Bool) (po : Option Addr) (n c : Nat) (ln : Nat → Nat) (F : Nat → Nat → Nat) (p X Y rw rh : Nat) (w : World) (hr : Pc w po n ln F) (hv : Vld W H D A n ln F) (hp : p < n) (h1 : 1 ≤ rw) (h2 : 1 ≤ rh) (h3 : (X : Int) + rw ≤ wp W p) (h4 : (Y : Int) + rh ≤ H) :
    Calls Try.prog 26 #[frv W H D A po n c, .int .i64 (p : Int), rcv (X : Int) (Y : Int) (rw : Int) (rh : Int)] w fun e w' => ∃ b, e = .returned (.tuple #[blv (rw : Int) (rh : Int) (some ⟨b, 0, none⟩) (rw * rh) (rw * rh), .int .i64 0]) ∧ Row w' b (rw * rh) (crp (F p) (wp W (p : Int)).toNat X Y rw) ∧ w.heap.size ≤ b ∧ Kept [] w w' := by
  have hs := hv.shp
  have hs1 := hs.1
  have hs2 := hs.2.1
  have wl := wp_lo (p : Int) hs1.1
  have wh := wp_hi (p : Int) hs1.1
  have hln := hv.len p hp
  have CV := Hid.mk (fun u (hk : Kept [] w u) => by
    have h := valid_any W H D A po n c ln F u (hr.keep hk).pl (by rw [hv.num]; exact Nat.le_trans (np_hi A) (by decide)) (fun i hi => by have h1 := hv.len i hi; have h2 := wpH (i : Int) hs1.1 hs1.2 hs2.1 hs2.2; omega)
    rw [vE_zero.2 hv] at h
    exact h)
  have CI := Hid.mk (fun u => inPlane_any W H D p X Y rw rh A u (by omega) (by omega) hs1 hs2)
  rw [show inP W H A p X Y rw rh = true by unfold inP lie; rw [decide_eq_true (by rw [← hv.num]; omega), decide_eq_true (by omega)]; rfl] at CI
  obtain ⟨wN, ewN⟩ : ∃ m : Nat, wp W (p : Int) = (m : Int) := ⟨(wp W (p : Int)).toNat, by omega⟩
  obtain ⟨hN, ehN⟩ : ∃ m : Nat, H = (m : Int) := ⟨H.toNat, by omega⟩
  have hlen : ln p = wN * hN := by rw [ewN, ehN] at hln; exact_mod_cast hln
  have CS : Hid (∀ u, Calls Try.prog 41 #[shv W H D A, .int .i64 (p : Int)] u fun e w' => e = .returned (.tuple #[.int .i64 (wN : Int), .int .i64 H]) ∧ Kept [] u w') := Hid.mk (fun u => by have := sides_any W H D p A u (by omega) hs1.2; rw [ewN] at this; exact this)
  rw [show (wp W (p : Int)).toNat = wN by rw [ewN]; rfl]
  have Hr := Hid.mk hr
  have CP : Hid (∀ u bo cc, ln p ≤ cc → Rd u bo (ln p) (F p) → Calls Try.prog 52 #[.slice bo (ln p) cc, .int .i64 (wN : Int), rcv (X : Int) (Y : Int) (rw : Int) (rh : Int)] u fun e w' => ∃ b, e = .returned (.slice (some ⟨b, 0, none⟩) (rw * rh) (rw * rh)) ∧ Row w' b (rw * rh) (crp (F p) wN X Y rw) ∧ u.heap.size ≤ b ∧ Kept [] u w') := Hid.mk (fun u bo cc hcc hrd => part_any bo (ln p) cc (F p) wN hN X Y rw rh u hrd hcc hlen h1 (by omega) h2 (by omega) (by omega) (by omega))
  have N := ent543 w (.int .i64 W) (.int .i64 H) (.int .i64 D) (.bool A) (.slice po n c) (.int .i64 (X : Int)) (.int .i64 (Y : Int)) (.int .i64 (rw : Int)) (.int .i64 (rh : Int)) (.int .i64 0) (.int .i64 0) (.slice none 0 0) 38 51 54
  obtain ⟨w1, ew1⟩ : ∃ w1, w1 = ((w.alloc (.cells #[.int .i64 W, .int .i64 H, .int .i64 D, .bool A, .slice po n c] 38 (0, 0))).alloc (.cells #[.int .i64 (X : Int), .int .i64 (Y : Int), .int .i64 (rw : Int), .int .i64 (rh : Int)] 51 (0, 0))).alloc (.cells #[.int .i64 0, .int .i64 0, .slice none 0 0] 54 (0, 0)) := ⟨_, rfl⟩
  rw [← ew1] at N
  have HN := Hid.mk N
  have EW := Hid.mk ew1
  have ixp : (p : Int) < (n : Int) := by omega
  obtain ⟨M, eM⟩ : ∃ M, M = rw * rh := ⟨_, rfl⟩
  rw [← eM] at CP ⊢
  clear N ew1 hr hv hs hs1 hs2 wl wh hln ewN ehN hlen h1 h2 h3 h4 eM
  go_enter Try.func26, Try.ntmps26
  go_wp2_with (first | (go_at_call 22; rw [← EW.out]; refine (CV.out _ HN.out.2.2.2).mono ?_; rintro e w2 ⟨rfl, hk2⟩; obtain ⟨⟨c0, c1, c2, c3, c4⟩, _⟩ := five (hk2.heap HN.out.1 (by simp)); obtain ⟨⟨r0, r1, r2, r3⟩, _⟩ := four (hk2.heap HN.out.2.1 (by simp))) | (go_at_call 51; refine (CI.out _).mono ?_; rintro e w3 ⟨rfl, hk3⟩; obtain ⟨⟨d0, d1, d2, d3, d4⟩, _⟩ := five ((hk2.trans hk3).heap HN.out.1 (by simp))) | (go_at_call 41; refine (CS.out _).mono ?_; rintro e w4 ⟨rfl, hk4⟩))
  have hk24 := (hk2.trans hk3).trans hk4
  have HN4 := Hid.mk (And.intro (hk24.heap HN.out.1 (by simp)) (And.intro (hk24.heap HN.out.2.1 (by simp)) (And.intro (hk24.heap HN.out.2.2.1 (by simp)) (HN.out.2.2.2.trans hk24))))
  obtain ⟨g1, off, bo, cc, rfl, hc, hcc, hrd⟩ := (Hr.out.keep HN4.out.2.2.2).at hp
  have hg1 : g1 < w.heap.size := by
    obtain ⟨g1', off', _, _, e1, h1, _⟩ := Hr.out.at hp
    cases e1
    exact World.block_lt_of_cell? w _ h1
  have CP2 := Hid.mk (CP.out w4.drew bo cc hcc (hrd.keep ((Kept.refl [] w4).drew)))
  obtain ⟨y, ey⟩ : ∃ y, y = ln p := ⟨_, rfl⟩
  rw [← ey] at hc CP2
  obtain ⟨b, eb⟩ : ∃ b, b = w.heap.size := ⟨_, rfl⟩
  rw [← eb] at HN4 hg1 ⊢
  have HEB := Hid.mk eb
  have HC := Hid.mk hc
  have n1 : g1 ≠ b + 1 + 1 := by omega
  have n2 : b + 1 + 1 ≠ g1 := by omega
  clear ey eb hrd hcc c0 c1 c2 c3 c4 r0 r1 r2 r3 d0 d1 d2 d3 d4 hk2 hk3 hk4 hk24 HN EW CV CI CS CP hg1
  obtain ⟨⟨_, _, _, _, c4⟩, _⟩ := five HN4.out.1
  obtain ⟨⟨r0, r1, r2, r3⟩, _⟩ := four HN4.out.2.1
  go_region_held_law (fun w' => w'.cell? ⟨b, 4, none⟩ = some (.slice (some ⟨g1, off, none⟩) n c) ∧ w'.cell? ⟨b + 1, 0, none⟩ = some (.int .i64 (X : Int)) ∧ w'.cell? ⟨b + 1, 1, none⟩ = some (.int .i64 (Y : Int)) ∧ w'.cell? ⟨b + 1, 2, none⟩ = some (.int .i64 (rw : Int)) ∧ w'.cell? ⟨b + 1, 3, none⟩ = some (.int .i64 (rh : Int)) ∧ w'.cell? ⟨g1, off + p, none⟩ = some (.slice bo y cc)) (first | exact ⟨c4, r0, r1, r2, r3, hc⟩ | exact ⟨d4, s0, s1, s2, s3, hd⟩ | exact ⟨cell_keep KS d4 (by rw [List.mem_singleton]; omega), cell_keep KS s0 (by simp), cell_keep KS s1 (by simp), cell_keep KS s2 (by simp), cell_keep KS s3 (by simp), cell_keep KS hd (by simpa using n1)⟩ | go_keep) (first | (go_at_call 52; refine CP2.out.mono ?_; rintro e w5 ⟨bb, rfl, hrow5, hb5, hk5⟩; obtain ⟨⟨_, _, _, _, d4⟩, _⟩ := five (hk5.undrew.heap HN4.out.1 (by simp)); obtain ⟨⟨s0, s1, s2, s3⟩, _⟩ := four (hk5.undrew.heap HN4.out.2.1 (by simp)); have hd := cell_keep hk5.undrew HC.out (by simp); have HR5 := Hid.mk (hk5.undrew.heap HN4.out.2.2.1 (by simp)); obtain ⟨⟨z0, z1, z2⟩, f0, f1, f2⟩ := tri' HR5.out; have KS := (set3 (.int .i64 (rw : Int)) (.int .i64 (rh : Int)) (.slice (some ⟨bb, 0, none⟩) M M) HR5.out).2))
  clear c4 r0 r1 r2 r3 hc KS d4 s0 s1 s2 s3 hd z0 z1 z2 f0 f1 f2
  go_wp2
  have s3' := set3 (.int .i64 (rw : Int)) (.int .i64 (rh : Int)) (.slice (some ⟨bb, 0, none⟩) M M) HR5.out
  have hlt3 : b + 1 + 1 < w4.heap.size := lt_of_block HN4.out.2.2.1
  have hb6 : w4.heap.size ≤ bb := hb5
  refine bodyPost_ret (v := .tuple #[blv (rw : Int) (rh : Int) (some ⟨bb, 0, none⟩) M M, .int .i64 0]) ?_ rfl ⟨bb, rfl, ?_, ?_, ?_⟩
  · exact results_two rfl _ _ (b + 1 + 1) 54 _ (0, 0) _ _ rfl s3'.1 Try.underlying54 Try.info54 rfl
  · exact (hrow5.keep s3'.2 (by rw [List.mem_singleton]; omega))
  · have := HN4.out.2.2.2.size
    omega
  · exact ((HN4.out.2.2.2.trans hk5.undrew).step s3'.2 (fun x hx => by simp at hx; subst hx; exact .inr (by have := HEB.out; omega)))

set_option maxHeartbeats 8000000 in
set_option maxRecDepth 1000000 in
theorem sameBlock_yes (a b : Int) (so uo : Option Addr) (m k j : Nat) (f g : Nat → Nat) (w : World) (hr : Rd w so m f) (hs : Rd w uo m g) (hm : m ≤ 9223372036854775807) (hfg : ∀ i, i < m → f i = g i) :
    Calls Try.prog 29 #[blv a b so m k, blv a b uo m j] w fun e w' => e = .returned (.bool true) ∧ Kept [] w w' := by
  have Hr := Hid.mk hr
  have Hs := Hid.mk hs
  have Hf := Hid.mk hfg
  clear hr hs hfg
  have K1 := Hid.mk ((alloc_kept w (.cells #[.int .i64 a, .int .i64 b, .slice so m k] 54 (0, 0))).trans (alloc_kept _ (.cells #[.int .i64 a, .int .i64 b, .slice uo m j] 54 (0, 0))))
  have Q1 := (alloc_kept (w.alloc (.cells #[.int .i64 a, .int .i64 b, .slice so m k] 54 (0, 0))) (.cells #[.int .i64 a, .int .i64 b, .slice uo m j] 54 (0, 0))).heap (heap_alloc_new w (.cells #[.int .i64 a, .int .i64 b, .slice so m k] 54 (0, 0))) (by simp)
  have Q2 := heap_alloc_new (w.alloc (.cells #[.int .i64 a, .int .i64 b, .slice so m k] 54 (0, 0))) (.cells #[.int .i64 a, .int .i64 b, .slice uo m j] 54 (0, 0))
  rw [World.size_alloc] at Q2
  have HQ1 := Hid.mk Q1
  have HQ2 := Hid.mk Q2
  clear Q1 Q2
  go_enter Try.func29, Try.ntmps29
  go_wp2
  obtain ⟨w1, ew1⟩ : ∃ w1, w1 = (w.alloc (.cells #[.int .i64 a, .int .i64 b, .slice so m k] 54 (0, 0))).alloc (.cells #[.int .i64 a, .int .i64 b, .slice uo m j] 54 (0, 0)) := ⟨_, rfl⟩
  rw [← ew1] at K1 HQ1 HQ2 ⊢
  obtain ⟨bl, eb⟩ : ∃ b, b = w.heap.size := ⟨_, rfl⟩
  rw [← eb] at HQ1 HQ2 ⊢
  clear eb ew1
  go_loopw [5] (fun i wr => ∃ t : Nat, t ≤ m ∧ i = .int .i64 (t : Int) ∧ Kept [] w1 wr) (fun i _ => m - (intOf i).toNat)
  case atStart => exact ⟨0, by omega, rfl, Kept.refl _ _⟩
  case round =>
    obtain ⟨t, ht, rfl, hkr⟩ := hrel
    have Hkr := Hid.mk hkr
    obtain ⟨⟨_, _, q2⟩, _⟩ := tri' (hkr.heap HQ1.out (by simp))
    obtain ⟨⟨_, _, p2⟩, _⟩ := tri' (hkr.heap HQ2.out (by simp))
    by_cases hlt : t < m
    · obtain ⟨g1, o1, rfl, c1⟩ := (Hr.out.keep (K1.out.trans hkr)).at hlt
      obtain ⟨g2, o2, rfl, c2⟩ := (Hs.out.keep (K1.out.trans hkr)).at hlt
      have ix : (t : Int) < (m : Int) := by omega
      rw [← Hf.out t hlt] at c2
      obtain ⟨x, ex⟩ : ∃ x, x = f t := ⟨_, rfl⟩
      rw [← ex] at c1 c2
      clear ex hkr
      go_wp2
      go_quiet (fail)
      go_wp2
      go_roundw
      case rel => exact ⟨t + 1, by omega, by go_num, Hkr.out.drewN _⟩
      case measure => simp [intOf]; omega
    · obtain rfl : m = t := by omega
      clear hkr
      go_wp2
      go_ret
      exact ⟨rfl, K1.out.trans Hkr.out⟩
end Go.Proofs.Ythihennifigchaa
