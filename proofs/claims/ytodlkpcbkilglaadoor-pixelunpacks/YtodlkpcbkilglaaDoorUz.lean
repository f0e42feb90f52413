import Derived.Test.YtodlkpcbkilglaaDoorUxZ
import Derived.Test.YtodlkpcbkilglaaDoorUn
namespace Go.Proofs.YtodlkpcbkilglaaDoor
open Go.RowKit Go.Shelf

/-- What comes out, read. -/
def UnR (lo : Nat) (E W H D : Int) (A : Bool) (F : Nat → Nat → Nat) (w' : World) (x1 x2 x3 : Int) (x4 : Bool) (po : Option Addr) (n k : Nat) : Prop :=
  (E = 0 → x1 = W ∧ x2 = H ∧ x3 = D ∧ x4 = A ∧ n = np A ∧ k = np A ∧ ∃ (G : Nat) (bs : Nat → Nat), po = some ⟨G, 0, none⟩ ∧ lo ≤ G ∧ (∀ i, i < np A → lo ≤ bs i) ∧ (∀ i, i < np A → w'.cell? ⟨G, i, none⟩ = some (.slice (some ⟨bs i, 0, none⟩) (pz W H i) (pz W H i))) ∧ ∀ i, i < np A → Row w' (bs i) (pz W H i) (F i)) ∧ (E ≠ 0 → x1 = 0 ∧ x2 = 0 ∧ x3 = 0 ∧ x4 = false ∧ po = none ∧ n = 0 ∧ k = 0)
theorem UnR.kept {lo : Nat} {E W H D : Int} {A : Bool} {F : Nat → Nat → Nat} {w' w2 : World} {x1 x2 x3 : Int} {x4 : Bool} {po : Option Addr} {n k : Nat} {ks : List Nat} (h : UnR lo E W H D A F w' x1 x2 x3 x4 po n k) (hk : Kept ks w' w2) (hl : ∀ b ∈ ks, b < lo) : UnR lo E W H D A F w2 x1 x2 x3 x4 po n k := by
  refine ⟨fun e => ?_, h.2⟩
  obtain ⟨a1, a2, a3, a4, a5, a6, G, bs, a7, a8, a9, a10, a11⟩ := h.1 e
  exact ⟨a1, a2, a3, a4, a5, a6, G, bs, a7, a8, a9, fun i hi => cell_keep hk (a10 i hi) (fun hm => by have := hl _ hm; omega), fun i hi => (a11 i hi).keep hk (fun hm => by have := hl _ hm; have := a9 i hi; omega)⟩
theorem UnR.keep {lo : Nat} {E W H D : Int} {A : Bool} {F : Nat → Nat → Nat} {w' w2 : World} {x1 x2 x3 : Int} {x4 : Bool} {po : Option Addr} {n k : Nat} (h : UnR lo E W H D A F w' x1 x2 x3 x4 po n k) (hk : Kept [] w' w2) : UnR lo E W H D A F w2 x1 x2 x3 x4 po n k := h.kept hk (by simp)
theorem UnR.low {lo lo' : Nat} {E W H D : Int} {A : Bool} {F : Nat → Nat → Nat} {w' : World} {x1 x2 x3 : Int} {x4 : Bool} {po : Option Addr} {n k : Nat} (h : UnR lo E W H D A F w' x1 x2 x3 x4 po n k) (hl : lo' ≤ lo) : UnR lo' E W H D A F w' x1 x2 x3 x4 po n k := by
  refine ⟨fun e => ?_, h.2⟩
  obtain ⟨a1, a2, a3, a4, a5, a6, G, bs, a7, a8, a9, a10⟩ := h.1 e
  exact ⟨a1, a2, a3, a4, a5, a6, G, bs, a7, Nat.le_trans hl a8, fun i hi => Nat.le_trans hl (a9 i hi), a10⟩
theorem UnQ.read {lo : Nat} {E W H D : Int} {A : Bool} {F : Nat → Nat → Nat} {u w2 w' : World} {x1 x2 x3 : Int} {x4 : Bool} {po : Option Addr} {n k b : Nat} (h : UnQ E W H D A F u w2 x1 x2 x3 x4 po n k) (hk : Kept [b] w2 w') (hb : b < u.heap.size) (hl : lo ≤ u.heap.size) : UnR lo E W H D A F w' x1 x2 x3 x4 po n k := by
  refine ⟨fun e => ?_, h.2⟩
  obtain ⟨a1, a2, a3, a4, a5, a6, G, bs, rfl, hm⟩ := h.1 e
  have hn := hm.new
  refine ⟨a1, a2, a3, a4, a5, a6, G, bs, rfl, by omega, fun i hi => by have := hm.gt i hi; omega, fun i hi => ?_, fun i hi => ?_⟩
  · exact cell_keep hk (hm.cell hi (Nat.le_refl _)) (by simp; omega)
  · exact (hm.row i hi).keep hk (by have := hm.gt i hi; simp; omega)
/-- UnpackPlanar of any bytes. -/
theorem Unpack_any_planar (W H D : Int) (A : Bool) (bo : Option Addr) (M cb : Nat) (fb : Nat → Nat) (w : World) (hb : RB w bo M fb) (hfb : ∀ i, i < M → fb i < 256) (hcb : M ≤ cb) :
    Calls Tryd.prog 32 #[shv W H D A, .slice bo M cb] w fun e w' => ∃ x1 x2 x3 x4 po n k, e = .returned (.tuple #[frv x1 x2 x3 x4 po n k, .int .i64 (plE W H D A M fb)]) ∧ Kept [] w w' ∧ UnR w.heap.size (plE W H D A M fb) W H D A (pnF W H.toNat fb) w' x1 x2 x3 x4 po n k := by
  refine (Unpack_of_planar W H D A bo M cb w (fun u x1 x2 x3 x4 po n k z w2 => z = plE W H D A M fb ∧ UnQ (plE W H D A M fb) W H D A (pnF W H.toNat fb) u w2 x1 x2 x3 x4 po n k) (fun u hk => ?_)).mono ?_
  · refine (un57_planar W H D A bo M cb fb u (hb.keep hk) hfb hcb).mono ?_
    rintro e w' ⟨x1, x2, x3, x4, po, n, k, rfl, hk2, hq⟩
    exact ⟨x1, x2, x3, x4, po, n, k, _, rfl, hk2, rfl, hq⟩
  · rintro e w' ⟨u, x1, x2, x3, x4, po, n, k, z, w2, hku, hlt, rfl, hkw, hk2, rfl, hq⟩
    exact ⟨x1, x2, x3, x4, po, n, k, rfl, hkw, hq.read hk2 hlt (by omega)⟩
/-- UnpackV210 of any bytes. -/
theorem Unpack_any_v210 (W H D : Int) (A : Bool) (bo : Option Addr) (M cb : Nat) (fb : Nat → Nat) (w : World) (hT : Tab w) (hb : RB w bo M fb) (hfb : ∀ i, i < M → fb i < 256) (hcb : M ≤ cb) :
    Calls Tryd.prog 33 #[shv W H D A, .slice bo M cb] w fun e w' => ∃ x1 x2 x3 x4 po n k, e = .returned (.tuple #[frv x1 x2 x3 x4 po n k, .int .i64 (v2E W H D A M fb)]) ∧ Kept [] w w' ∧ UnR w.heap.size (v2E W H D A M fb) W H D A (vnF W fb) w' x1 x2 x3 x4 po n k := by
  refine (Unpack_of_v210 W H D A bo M cb w (fun u x1 x2 x3 x4 po n k z w2 => z = v2E W H D A M fb ∧ UnQ (v2E W H D A M fb) W H D A (vnF W fb) u w2 x1 x2 x3 x4 po n k) (fun u hk => ?_)).mono ?_
  · refine (un57_v210 W H D A bo M cb fb u (hT.keep hk (by simp)) (hb.keep hk) hfb hcb).mono ?_
    rintro e w' ⟨x1, x2, x3, x4, po, n, k, rfl, hk2, hq⟩
    exact ⟨x1, x2, x3, x4, po, n, k, _, rfl, hk2, rfl, hq⟩
  · rintro e w' ⟨u, x1, x2, x3, x4, po, n, k, z, w2, hku, hlt, rfl, hkw, hk2, rfl, hq⟩
    exact ⟨x1, x2, x3, x4, po, n, k, rfl, hkw, hq.read hk2 hlt (by omega)⟩
/-- By one of both. -/
noncomputable def unE (v : Bool) (W H D : Int) (A : Bool) (M : Nat) (fb : Nat → Nat) : Int := if v = true then v2E W H D A M fb else plE W H D A M fb
def unF (v : Bool) (W H : Int) (fb : Nat → Nat) : Nat → Nat → Nat := if v = true then vnF W fb else pnF W H.toNat fb
def UnC (v : Bool) (W H D : Int) (A : Bool) (M : Nat) (fb : Nat → Nat) (w : World) (e : Ending) (w' : World) : Prop := ∃ x1 x2 x3 x4 po n k, e = .returned (.tuple #[frv x1 x2 x3 x4 po n k, .int .i64 (unE v W H D A M fb)]) ∧ Kept [] w w' ∧ UnR w.heap.size (unE v W H D A M fb) W H D A (unF v W H fb) w' x1 x2 x3 x4 po n k
set_option maxHeartbeats 8000000 in
set_option maxRecDepth 1000000 in
theorem unp24 (v : Bool) (W H D : Int) (A : Bool) (bo : Option Addr) (M cb : Nat) (fb : Nat → Nat) (w : World) (hT : Tab w) (hb : RB w bo M fb) (hfb : ∀ i, i < M → fb i < 256) (hcb : M ≤ cb) :
    Calls Tryd.prog 24 #[.bool v, shv W H D A, .slice bo M cb] w fun e w' => UnC v W H D A M fb w e w' := by
  obtain ⟨E, eE⟩ : ∃ E, unE v W H D A M fb = E := ⟨_, rfl⟩
  obtain ⟨F, eF⟩ : ∃ F, unF v W H fb = F := ⟨_, rfl⟩
  have C : Hid (∀ u, Kept [] w u → Calls Tryd.prog (if v = true then 33 else 32) #[shv W H D A, .slice bo M cb] u fun e w' => ∃ x1 x2 x3 x4 po n k, e = .returned (.tuple #[frv x1 x2 x3 x4 po n k, .int .i64 E]) ∧ Kept [] u w' ∧ UnR u.heap.size E W H D A F w' x1 x2 x3 x4 po n k) := Hid.mk (fun u hk => by
    rw [← eE, ← eF]
    cases v
    · exact Unpack_any_planar W H D A bo M cb fb u (hb.keep hk) hfb hcb
    · exact Unpack_any_v210 W H D A bo M cb fb u (hT.keep hk (by simp)) (hb.keep hk) hfb hcb)
  unfold UnC
  rw [eE, eF]
  clear hT hb hfb eE eF
  have hS0 := Sat.new w W H D A 24
  have hk1 := alloc_kept w (.cells #[.int .i64 W, .int .i64 H, .int .i64 D, .bool A] 24)
  have hk2 := alloc_kept (w.alloc (.cells #[.int .i64 W, .int .i64 H, .int .i64 D, .bool A] 24)) (.cells #[.int .i64 0, .int .i64 0, .int .i64 0, .bool false, .slice none 0 0] 31)
  have hF := heap_alloc_new (w.alloc (.cells #[.int .i64 W, .int .i64 H, .int .i64 D, .bool A] 24)) (.cells #[.int .i64 0, .int .i64 0, .int .i64 0, .bool false, .slice none 0 0] 31)
  rw [World.size_alloc] at hF
  have hS := hS0.keep hk2 (by simp)
  have hk0 := hk1.trans hk2
  obtain ⟨wa, ewa⟩ : ∃ wa, wa = (w.alloc (.cells #[.int .i64 W, .int .i64 H, .int .i64 D, .bool A] 24)).alloc (.cells #[.int .i64 0, .int .i64 0, .int .i64 0, .bool false, .slice none 0 0] 31) := ⟨_, rfl⟩
  rw [← ewa] at hS hk0 hF
  obtain ⟨q0, q1, q2, q3⟩ := hS
  obtain ⟨b1, eb1⟩ : ∃ b1, b1 = w.heap.size + 1 := ⟨_, rfl⟩
  rw [← eb1] at hF
  have HB := Hid.mk (And.intro hF (And.intro eb1 hk0))
  clear hk0 hk1 hk2 hS0 hF
  cases v with
  | true =>
    have C := Hid.mk (show ∀ u, Kept [] w u → Calls Tryd.prog 33 #[shv W H D A, .slice bo M cb] u _ from C.out)
    go_enter Tryd.func24, Tryd.ntmps24
    go_wp2_with (fail)
    rw [← ewa, ← eb1]
    clear eb1 ewa
    refine (C.out _ HB.out.2.2).mono ?_
    rintro e w2 ⟨x1, x2, x3, x4, po, n, k, rfl, hk2, hq⟩
    have g6 := hk2.heap HB.out.1 (by simp)
    obtain ⟨⟨r0, r1, r2, r3, r4⟩, s0, s1, s2, s3, s4⟩ := five g6
    have HG := Hid.mk (And.intro g6 (And.intro hk2 hq))
    clear g6 hk2 hq q0 q1 q2 q3 C
    go_wp2
    obtain ⟨g6, hk2, hq⟩ := HG.out
    have s5 := set5 (.int .i64 x1) (.int .i64 x2) (.int .i64 x3) (.bool x4) (.slice po n k) g6
    obtain ⟨wz, ewz⟩ : ∃ wz, wz = ((((w2.setCell ⟨b1, 0, none⟩ (.int .i64 x1)).setCell ⟨b1, 1, none⟩ (.int .i64 x2)).setCell ⟨b1, 2, none⟩ (.int .i64 x3)).setCell ⟨b1, 3, none⟩ (.bool x4)).setCell ⟨b1, 4, none⟩ (.slice po n k) := ⟨_, rfl⟩
    rw [← ewz] at s5 ⊢
    refine bodyPost_ret (v := .tuple #[frv x1 x2 x3 x4 po n k, .int .i64 E]) ?_ rfl ?_
    · exact results_two rfl _ _ b1 31 _ (0, 0) _ _ rfl s5.1 Tryd.underlying31 Tryd.info38 rfl
    · exact ⟨x1, x2, x3, x4, po, n, k, rfl, (HB.out.2.2.trans hk2).step s5.2 (fun y hy => by simp at hy; right; have := HB.out.2.1; omega), (hq.kept s5.2 (fun y hy => by simp at hy; have := lt_of_block HB.out.1; omega)).low HB.out.2.2.size⟩
  | false =>
    have C := Hid.mk (show ∀ u, Kept [] w u → Calls Tryd.prog 32 #[shv W H D A, .slice bo M cb] u _ from C.out)
    go_enter Tryd.func24, Tryd.ntmps24
    go_wp2_with (fail)
    rw [← ewa, ← eb1]
    clear eb1 ewa
    refine (C.out _ HB.out.2.2).mono ?_
    rintro e w2 ⟨x1, x2, x3, x4, po, n, k, rfl, hk2, hq⟩
    have g6 := hk2.heap HB.out.1 (by simp)
    obtain ⟨⟨r0, r1, r2, r3, r4⟩, s0, s1, s2, s3, s4⟩ := five g6
    have HG := Hid.mk (And.intro g6 (And.intro hk2 hq))
    clear g6 hk2 hq q0 q1 q2 q3 C
    go_wp2
    obtain ⟨g6, hk2, hq⟩ := HG.out
    have s5 := set5 (.int .i64 x1) (.int .i64 x2) (.int .i64 x3) (.bool x4) (.slice po n k) g6
    obtain ⟨wz, ewz⟩ : ∃ wz, wz = ((((w2.setCell ⟨b1, 0, none⟩ (.int .i64 x1)).setCell ⟨b1, 1, none⟩ (.int .i64 x2)).setCell ⟨b1, 2, none⟩ (.int .i64 x3)).setCell ⟨b1, 3, none⟩ (.bool x4)).setCell ⟨b1, 4, none⟩ (.slice po n k) := ⟨_, rfl⟩
    rw [← ewz] at s5 ⊢
    refine bodyPost_ret (v := .tuple #[frv x1 x2 x3 x4 po n k, .int .i64 E]) ?_ rfl ?_
    · exact results_two rfl _ _ b1 31 _ (0, 0) _ _ rfl s5.1 Tryd.underlying31 Tryd.info38 rfl
    · exact ⟨x1, x2, x3, x4, po, n, k, rfl, (HB.out.2.2.trans hk2).step s5.2 (fun y hy => by simp at hy; right; have := HB.out.2.1; omega), (hq.kept s5.2 (fun y hy => by simp at hy; have := lt_of_block HB.out.1; omega)).low HB.out.2.2.size⟩
end Go.Proofs.YtodlkpcbkilglaaDoor
