import Derived.Test.YtahoeodpjdbdkabDoorDc
namespace Go.Proofs.YtahoeodpjdbdkabDoor
open Go.RowKit

/-- The decoder's driver: what is read of any bytes. -/
def dvr (T d : Int) (W : Nat) (l : List Nat) : Drv Nat where
  run := fun s x m x' => RunRes l x s.r (rom W s.t) (m : Int) 0 x' (rr s.r m (rom W s.t))
  one := fun s k _ _ least x q x' => ∃ v : Nat, NumRes l x (po s.L k) (wde T d) (v : Int) 0 x' ∧ fld q = v + least ∧ (fld q : Int) < rg T d
  runB := fun s x => ∃ X E t' r', RunRes l x s.r (rom W s.t) X E t' r' ∧ E ≠ 0
  oneB := fun s k _ _ least x => (∃ X E t', NumRes l x (po s.L k) (wde T d) X E t' ∧ E ≠ 0) ∨ ∃ (v : Nat) (x' : Nat), NumRes l x (po s.L k) (wde T d) (v : Int) 0 x' ∧ rg T d ≤ ((v + least : Nat) : Int)

/-- Unfold. -/
def unf (F : Nat) : Int := if F % 2 = 0 then (F / 2 : Nat) else -(((F + 1) / 2 : Nat) : Int)
theorem fld_unf (F : Nat) : fld (unf F) = F := by
  unfold fld unf
  split <;> split <;> omega

set_option maxHeartbeats 4000000 in
set_option maxRecDepth 1000000 in
theorem drun_no (w0 : World) (B P X G O g : Nat) (T d D : Int) (W n : Nat) (l : List Nat) (w : World) (s : Wk) (t : Nat) (h : Dm w0 B P X G O g T d D W n l w s t) (a : Int) (rm : Nat) (hr1 : 1 ≤ rm) (hr2 : rm ≤ 4096) (Y E : Int) (t' r' : Nat) (hres : RunRes l t s.r rm Y E t' r') (hE : ¬ E = 0) :
    Calls Tryd.prog 37 #[.pointer (some ⟨B, 0, none⟩), .int .i64 a, .int .i64 (rm : Int)] w fun e w' => e = .panicked (pnc 102) ∧ Kept [X, O] w w' := by
  have c3 := h.wm.fact.c3
  have c6 := dext_cell h.wm
  have hlo := h.lo
  have hpos := h.tab.pos
  have C := Hid.mk (fun W' (hk : Kept [] w W') => show Calls Tryd.prog 54 #[.pointer (some ⟨X, 0, none⟩), .pointer (some ⟨O, 0, none⟩), .int .i64 (rm : Int)] W' (fun e w' => e = .returned (.tuple #[.int .i64 Y, .int .i64 E]) ∧ Hid (Kept [X, O] w w') ∧ w'.cell? ⟨B, 3, none⟩ = some (.pointer (some ⟨X, 0, none⟩)) ∧ w'.cell? ⟨B, 6, none⟩ = some (.pointer (some ⟨O, 0, none⟩))) from by
    have h1 := h.kp hk
    obtain ⟨n1, n2, n3, n4, n5, n6⟩ := h1.wm.ne
    have o1 := ne_ty h1.rd.1 h1.wm.blk (by decide)
    refine (rget_any X O g l t s.r (rm : Int) W' h1.wm.co h1.rd (h1.tab.kept h1.keep (by simp)) (by omega) (by omega) (by omega)).mono ?_
    rintro e w' ⟨Y2, E2, t2, r2, rfl, hrd, hco, hkk, hres2⟩
    rw [Int.toNat_natCast] at hres2
    obtain ⟨rfl, rfl, rfl, rfl⟩ := runRes_one hres2 hres
    have bB : w'.heap[B]? = _ := hkk.heap h1.wm.blk (by intro hh; simp at hh; omega)
    exact ⟨rfl, Hid.mk ((hk.mono (by simp)).trans hkk), by simp [World.cell?, bB], by simp [World.cell?, bB]⟩)
  clear h hres
  go_enter Tryd.func37, Tryd.ntmps37
  go_wp2
  refine wp_region_held_drew (S := fun w' => w'.cell? ⟨B, 3, none⟩ = some (.pointer (some ⟨X, 0, none⟩)) ∧ w'.cell? ⟨B, 6, none⟩ = some (.pointer (some ⟨O, 0, none⟩))) (by kernel_rfl) ⟨c3, c6⟩ (fun hHeld => ?_)
  refine wpAnyH_take (i := 0) (oi := _) (v := ?_) rfl (by kernel_rfl) (by kernel_rfl) (by kernel_rfl) (fun _ _ _ h => h) (Or.inl ⟨by rfl, ?y0⟩) (by assumption) ?r0
  case y0 => (intro w hSw; (try dsimp only at hSw); go_simp; try with_reducible rfl)
  refine wpAnyH_take (i := 1) (oi := _) (v := ?_) rfl (by kernel_rfl) (by kernel_rfl) (by kernel_rfl) (fun _ _ _ h => h) (Or.inl ⟨by rfl, ?y1⟩) (by assumption) ?r1
  case y1 => (intro w hSw; (try dsimp only at hSw); go_simp; try with_reducible rfl)
  refine wpAnyH_take (i := 2) (oi := _) (v := ?_) rfl (by kernel_rfl) (by kernel_rfl) (by kernel_rfl) (fun _ _ _ h => h) (Or.inl ⟨by rfl, ?y2⟩) (by assumption) ?r2
  case y2 => (intro w hSw; (try dsimp only at hSw); go_simp; try with_reducible rfl)
  refine wpAnyH_take (i := 3) (oi := _) (v := ?_) rfl (by kernel_rfl) (by kernel_rfl) (by kernel_rfl) (fun _ _ _ h => h) (Or.inl ⟨by rfl, ?y3⟩) (by assumption) ?r3
  case y3 => (intro w hSw; (try dsimp only at hSw); go_simp; try with_reducible rfl)
  refine wpAnyH_take (i := 4) (oi := _) (v := ?_) rfl (by kernel_rfl) (by kernel_rfl) (by kernel_rfl) (fun _ _ _ h => h) (Or.inl ⟨by rfl, ?y4⟩) (by assumption) ?r4
  case y4 => (intro w hSw; (try dsimp only at hSw); go_simp; try with_reducible rfl)
  refine wpAnyH_take (i := 5) (oi := _) (v := ?_) rfl (by kernel_rfl) (by kernel_rfl) (by kernel_rfl) (fun _ _ _ h => h) (Or.inl ⟨by rfl, ?y5⟩) (by assumption) ?r5
  case y5 => (intro w hSw; (try dsimp only at hSw); go_simp; try with_reducible rfl)
  refine wpAnyH_take (i := 6) (oi := _) (v := ?_) rfl (by kernel_rfl) (by kernel_rfl) (by kernel_rfl) (fun _ _ _ h => h) (Or.inl ⟨by rfl, ?y6⟩) (by assumption) ?r6
  case y6 => (intro w hSw; (try dsimp only at hSw); go_simp; try with_reducible rfl)
  refine wpAnyH_take (i := 7) (oi := _) (v := ?_) rfl (by kernel_rfl) (by kernel_rfl) (by kernel_rfl) (fun _ _ _ h => h) (Or.inl ⟨by rfl, ?y7⟩) (by assumption) ?r7
  case y7 => (intro w hSw; (try dsimp only at hSw); go_simp; try with_reducible rfl)
  refine wpAnyH_take (i := 8) (oi := _) (v := ?_) rfl (by kernel_rfl) (by kernel_rfl) (by kernel_rfl) (fun _ _ _ h => h) (Or.inl ⟨by rfl, ?y8⟩) (by assumption) ?r8
  case y8 => (intro w hSw; (try dsimp only at hSw); go_simp; try with_reducible rfl)
  refine wpAnyH_take (i := 9) (oi := _) (v := ?_) rfl (by kernel_rfl) (by kernel_rfl) (by kernel_rfl) (fun _ _ _ h => h) (Or.inl ⟨by rfl, ?y9⟩) (by assumption) ?r9
  case y9 => (intro w hSw; (try dsimp only at hSw); go_simp; try with_reducible rfl)
  refine wpAnyH_ready (rs := [10]) (by kernel_rfl) (by simp) ?_
  refine AllReadyH.cons rfl (fun K hK => ?_) AllReadyH.nil
  go_simp
  go_at_call 54
  refine (C.out _ (by with_reducible exact (Kept.refl _ _).drew)).mono ?_
  rintro e w1 ⟨rfl, R1, t3, t6⟩
  go_wp2
  refine hK.out _ _ ⟨t3, t6⟩ (fun hHeld => ?_)
  clear hK K
  refine wpAnyH_take (i := 11) (oi := _) (v := ?_) rfl (by kernel_rfl) (by kernel_rfl) (by kernel_rfl) (fun _ _ _ h => h) (Or.inl ⟨by rfl, ?y11⟩) (by assumption) ?r11
  case y11 => (intro w hSw; (try dsimp only at hSw); go_simp; try with_reducible rfl)
  refine wpAnyH_take (i := 12) (oi := _) (v := ?_) rfl (by kernel_rfl) (by kernel_rfl) (by kernel_rfl) (fun _ _ _ h => h) (Or.inl ⟨by rfl, ?y12⟩) (by assumption) ?r12
  case y12 => (intro w hSw; (try dsimp only at hSw); go_simp; try with_reducible rfl)
  refine wpAnyH_ready (rs := [13]) (by kernel_rfl) (by simp) ?_
  refine AllReadyH.cons rfl (fun K hK => ?_) AllReadyH.nil
  go_simp
  go_at_call 53
  refine (taken_no _ _ _ hE).mono ?_
  rintro e w2 ⟨rfl, hw2⟩
  obtain rfl := hw2.symm
  exact bodyPost_panic rfl ⟨rfl, R1.out⟩
end Go.Proofs.YtahoeodpjdbdkabDoor

namespace Go.Proofs.YtahoeodpjdbdkabDoor
open Go.RowKit

set_option maxHeartbeats 4000000 in
set_option maxRecDepth 1000000 in
theorem done_big (w0 : World) (B P X G O gg : Nat) (T d D : Int) (W n : Nat) (l : List Nat) (w : World) (s : Wk) (t : Nat) (h : Dm w0 B P X G O gg T d D W n l w s t) (hG : Gd T d) (k g p : Int) (least : Nat) (v : Nat) (hle : least ≤ 1) (hv : v < 2 ^ wde T d) (hq2 : rg T d ≤ ((v + least : Nat) : Int))
    (hl : t + gw v (po s.L k) (wde T d) ≤ 8 * l.length) (hb : nextN l t (gw v (po s.L k) (wde T d)) = gf v (po s.L k)) :
    Calls Tryd.prog 38 #[.pointer (some ⟨B, 0, none⟩), .agg #[.int .i64 k, .int .i64 g, .int .i64 p], .int .i64 (least : Int)] w fun e w' =>
      e = .panicked (pnc 102) ∧ Kept [O] w w' := by
  have hF : v ≤ 65536 := by
    have := wde_in hG
    have : 2 ^ wde T d ≤ 2 ^ 16 := Nat.pow_le_pow_right (by decide) (by omega)
    omega
  obtain ⟨w2, hw2, k2, b2⟩ := three_new w (.int .i64 k) (.int .i64 g) (.int .i64 p) 103
  have h2 := h.kp k2
  have y6 := dext_cell h2.wm
  have y2 : w2.cell? ⟨B, 2, none⟩ = some (.pointer (some ⟨P, 0, none⟩)) := h2.wm.fact.c2
  obtain ⟨y0, -, -⟩ := agg3 b2
  obtain ⟨Q, hQ⟩ : ∃ Q, w.heap.size = Q := ⟨_, rfl⟩
  rw [hQ] at y0 b2
  have hpo := po_le s.L k
  have hwd := wde_in hG
  have hrg := rg_pos T d hG
  have C3 := Hid.mk (fun W' (hk : Kept [] w2 W') => (param_any P k T d s.L W' (h2.wm.md.keep hk (by simp))).mono (R' := fun e w' => e = .returned (.int .i64 (po s.L k : Int)) ∧ Hid (Kept [] w2 w') ∧ w'.cell? ⟨B, 6, none⟩ = some (.pointer (some ⟨O, 0, none⟩)) ∧ w'.cell? ⟨B, 2, none⟩ = some (.pointer (some ⟨P, 0, none⟩)) ∧ w'.cell? ⟨Q, 0, none⟩ = some (.int .i64 k)) (by
    rintro e w' ⟨rfl, hk'⟩
    have hk3 := hk.trans hk'
    have h3 := h2.kp hk3
    exact ⟨rfl, Hid.mk hk3, dext_cell h3.wm, h3.wm.fact.c2, (agg3 (hk3.heap b2 (by simp))).1⟩))
  have C4 := Hid.mk (fun W' (hk : Kept [] w2 W') => wide_any P T d W' (h2.wm.md.keep hk (by simp)).hd hG)
  have ew : Lib.bitLen (rg T d - 1).toNat = wde T d := rfl
  rw [ew] at C4
  clear ew
  have C5 := Hid.mk (fun W' (hk : Kept [] w2 W') => show Calls Tryd.prog 55 #[.pointer (some ⟨O, 0, none⟩), .int .i64 (po s.L k : Int), .int .i64 (wde T d : Int)] W' (fun e w' => e = .returned (.tuple #[.int .i64 (v : Int), .int .i64 0]) ∧ Hid (Dm w0 B P X G O gg T d D W n l w' s (t + gw v (po s.L k) (wde T d)) ∧ S98 w w' ∧ Kept [O] w w') ∧ w'.cell? ⟨B, 6, none⟩ = some (.pointer (some ⟨O, 0, none⟩)) ∧ w'.cell? ⟨B, 2, none⟩ = some (.pointer (some ⟨P, 0, none⟩)) ∧ w'.cell? ⟨Q, 0, none⟩ = some (.int .i64 k)) from by
    have h3 := h2.kp hk
    obtain ⟨cs, hr, hl', hc⟩ := h3.wm.row
    obtain ⟨ps, hp, _⟩ := h3.wm.md.blk
    have o1 := ne_ty h3.rd.1 h3.wm.blk (by decide)
    have o2 := ne_ty h3.rd.1 hr (by decide)
    have o3 := ne_ty h3.rd.1 hp (by decide)
    have o4 := ne_ty h3.rd.1 h3.wm.co.1 (by decide)
    have hlo := h3.lo
    refine (gget_any O gg l t (po s.L k : Int) (wde T d : Int) W' h3.rd (by omega) (by omega) (by omega) (by omega)).mono ?_
    rintro e w' ⟨X2, E2, t2, rfl, hrd, hkk, hres⟩
    rw [Int.toNat_natCast, Int.toNat_natCast] at hres
    obtain ⟨rfl, rfl, rfl⟩ := numRes_form hres hv hl hb
    have hm' : Wm w' B P X G 61 T d D W n (dext O) s := h3.wm.keep hkk (by simp; omega)
    refine ⟨rfl, Hid.mk ⟨⟨hm', hrd, h3.keep.step hkk (fun y hy => by right; simp at hy; omega), h3.tab, h3.lo⟩, ?_, ((k2.trans hk).mono (by simp)).trans hkk⟩, dext_cell hm', hm'.fact.c2, ?_⟩
    · intro Q' c hQ'
      have hQ2 := (k2.trans hk).heap hQ' (by simp)
      have q2 := ne_ty hQ2 h3.rd.1 (by decide)
      exact hkk.heap hQ2 (by intro hh; simp at hh; omega)
    · have hb' := hk.heap b2 (by simp)
      have q2 := ne_ty hb' h3.rd.1 (by decide)
      exact (agg3 (hkk.heap hb' (by intro hh; simp at hh; omega))).1)
  have C6 := Hid.mk (fun W' (hm : Hid (Dm w0 B P X G O gg T d D W n l W' s (t + gw v (po s.L k) (wde T d)) ∧ S98 w W' ∧ Kept [O] w W')) => range_any' P T d W' hm.out.1.wm.md.hd)
  obtain ⟨F, hFF⟩ : ∃ F, v + least = F := ⟨_, rfl⟩
  rw [hFF] at hq2
  have hsum : (least : Int) + v = (F : Int) := by omega
  have hsw : IntKind.i64.wrap (F : Int) = (F : Int) := wrap_i (by omega) (by omega)
  generalize rg T d = K at *
  clear h h2 k2 b2 hb hl hv hFF
  generalize gw v (po s.L k) (wde T d) = dt at *
  generalize (po s.L k : Int) = kk at *
  generalize (wde T d : Int) = ww at *
  go_enter Tryd.func38, Tryd.ntmps38
  go_wp2
  go_region_held_law (fun w' => w'.cell? ⟨B, 6, none⟩ = some (.pointer (some ⟨O, 0, none⟩)) ∧ w'.cell? ⟨B, 2, none⟩ = some (.pointer (some ⟨P, 0, none⟩)) ∧ w'.cell? ⟨Q, 0, none⟩ = some (.int .i64 k)) (first | exact ⟨y6, y2, y0⟩ | exact ⟨t6, t2, t0⟩ | exact ⟨r6, r2, r0⟩ | go_keep) (first | (go_at_call 56; refine (C3.out _ (by with_reducible exact (Kept.refl _ _).drew)).mono ?_; rintro e w3 ⟨rfl, K3, t6, t2, t0⟩) | (go_at_call 57; refine (C4.out _ (by first | with_reducible exact (Kept.refl _ _).drew | exact K3.out)).mono ?_; rintro e w4 ⟨rfl, hw4⟩; obtain rfl := hw4.symm) | (go_at_call 55; refine (C5.out _ K3.out).mono ?_; rintro e w5 ⟨rfl, R5, r6, r2, r0⟩) | (go_at_call 53; refine (taken_ok _ _).mono ?_; rintro e w6 ⟨rfl, hw6⟩; obtain rfl := hw6.symm))
  all_goals
    clear C3 C4 C5 t6 t2 t0 hsum
    go_wp2_with (first | (go_at_call 58; refine (C6.out _ R5).mono ?_; rintro e w7 ⟨rfl, hw7⟩; obtain rfl := hw7.symm))
    exact bodyPost_panic rfl ⟨rfl, R5.out.2.2⟩

set_option maxHeartbeats 4000000 in
set_option maxRecDepth 1000000 in
theorem done_no (w0 : World) (B P X G O gg : Nat) (T d D : Int) (W n : Nat) (l : List Nat) (w : World) (s : Wk) (t : Nat) (h : Dm w0 B P X G O gg T d D W n l w s t) (hG : Gd T d) (k g p : Int) (least : Nat) (Y E : Int) (t' : Nat) (hnr : NumRes l t (po s.L k) (wde T d) Y E t') (hE : ¬ E = 0) :
    Calls Tryd.prog 38 #[.pointer (some ⟨B, 0, none⟩), .agg #[.int .i64 k, .int .i64 g, .int .i64 p], .int .i64 (least : Int)] w fun e w' =>
      e = .panicked (pnc 102) ∧ Kept [O] w w' := by
  obtain ⟨w2, hw2, k2, b2⟩ := three_new w (.int .i64 k) (.int .i64 g) (.int .i64 p) 103
  have h2 := h.kp k2
  have y6 := dext_cell h2.wm
  have y2 : w2.cell? ⟨B, 2, none⟩ = some (.pointer (some ⟨P, 0, none⟩)) := h2.wm.fact.c2
  obtain ⟨y0, -, -⟩ := agg3 b2
  obtain ⟨Q, hQ⟩ : ∃ Q, w.heap.size = Q := ⟨_, rfl⟩
  rw [hQ] at y0 b2
  have hpo := po_le s.L k
  have hwd := wde_in hG
  have hrg := rg_pos T d hG
  have C3 := Hid.mk (fun W' (hk : Kept [] w2 W') => (param_any P k T d s.L W' (h2.wm.md.keep hk (by simp))).mono (R' := fun e w' => e = .returned (.int .i64 (po s.L k : Int)) ∧ Hid (Kept [] w2 w') ∧ w'.cell? ⟨B, 6, none⟩ = some (.pointer (some ⟨O, 0, none⟩)) ∧ w'.cell? ⟨B, 2, none⟩ = some (.pointer (some ⟨P, 0, none⟩)) ∧ w'.cell? ⟨Q, 0, none⟩ = some (.int .i64 k)) (by
    rintro e w' ⟨rfl, hk'⟩
    have hk3 := hk.trans hk'
    have h3 := h2.kp hk3
    exact ⟨rfl, Hid.mk hk3, dext_cell h3.wm, h3.wm.fact.c2, (agg3 (hk3.heap b2 (by simp))).1⟩))
  have C4 := Hid.mk (fun W' (hk : Kept [] w2 W') => wide_any P T d W' (h2.wm.md.keep hk (by simp)).hd hG)
  have ew : Lib.bitLen (rg T d - 1).toNat = wde T d := rfl
  rw [ew] at C4
  clear ew
  have C5 := Hid.mk (fun W' (hk : Kept [] w2 W') => show Calls Tryd.prog 55 #[.pointer (some ⟨O, 0, none⟩), .int .i64 (po s.L k : Int), .int .i64 (wde T d : Int)] W' (fun e w' => e = .returned (.tuple #[.int .i64 Y, .int .i64 E]) ∧ Hid (Kept [O] w w') ∧ w'.cell? ⟨B, 6, none⟩ = some (.pointer (some ⟨O, 0, none⟩)) ∧ w'.cell? ⟨B, 2, none⟩ = some (.pointer (some ⟨P, 0, none⟩)) ∧ w'.cell? ⟨Q, 0, none⟩ = some (.int .i64 k)) from by
    have h3 := h2.kp hk
    obtain ⟨cs, hr, hl', hc⟩ := h3.wm.row
    obtain ⟨ps, hp, _⟩ := h3.wm.md.blk
    have o1 := ne_ty h3.rd.1 h3.wm.blk (by decide)
    have o2 := ne_ty h3.rd.1 hr (by decide)
    have o3 := ne_ty h3.rd.1 hp (by decide)
    have o4 := ne_ty h3.rd.1 h3.wm.co.1 (by decide)
    have hlo := h3.lo
    refine (gget_any O gg l t (po s.L k : Int) (wde T d : Int) W' h3.rd (by omega) (by omega) (by omega) (by omega)).mono ?_
    rintro e w' ⟨X2, E2, t2, rfl, hrd, hkk, hres⟩
    rw [Int.toNat_natCast, Int.toNat_natCast] at hres
    obtain ⟨rfl, rfl, rfl⟩ := numRes_one hres hnr
    have hm' : Wm w' B P X G 61 T d D W n (dext O) s := h3.wm.keep hkk (by simp; omega)
    refine ⟨rfl, Hid.mk (((k2.trans hk).mono (by simp)).trans hkk), dext_cell hm', hm'.fact.c2, ?_⟩
    · have hb' := hk.heap b2 (by simp)
      have q2 := ne_ty hb' h3.rd.1 (by decide)
      exact (agg3 (hkk.heap hb' (by intro hh; simp at hh; omega))).1)
  clear h h2 k2 b2 hnr hrg
  generalize (po s.L k : Int) = kk at *
  generalize (wde T d : Int) = ww at *
  go_enter Tryd.func38, Tryd.ntmps38
  go_wp2
  refine wp_region_held_drew (S := fun w' => w'.cell? ⟨B, 6, none⟩ = some (.pointer (some ⟨O, 0, none⟩)) ∧ w'.cell? ⟨B, 2, none⟩ = some (.pointer (some ⟨P, 0, none⟩)) ∧ w'.cell? ⟨Q, 0, none⟩ = some (.int .i64 k)) (by kernel_rfl) ⟨y6, y2, y0⟩ (fun hHeld => ?_)
  refine wpAnyH_take (i := 0) (oi := _) (v := ?_) rfl (by kernel_rfl) (by kernel_rfl) (by kernel_rfl) (fun _ _ _ h => h) (Or.inl ⟨by rfl, ?y0⟩) (by assumption) ?r0
  case y0 => (intro w hSw; (try dsimp only at hSw); go_simp; try with_reducible rfl)
  refine wpAnyH_take (i := 1) (oi := _) (v := ?_) rfl (by kernel_rfl) (by kernel_rfl) (by kernel_rfl) (fun _ _ _ h => h) (Or.inl ⟨by rfl, ?y1⟩) (by assumption) ?r1
  case y1 => (intro w hSw; (try dsimp only at hSw); go_simp; try with_reducible rfl)
  refine wpAnyH_take (i := 2) (oi := _) (v := ?_) rfl (by kernel_rfl) (by kernel_rfl) (by kernel_rfl) (fun _ _ _ h => h) (Or.inl ⟨by rfl, ?y2⟩) (by assumption) ?r2
  case y2 => (intro w hSw; (try dsimp only at hSw); go_simp; try with_reducible rfl)
  refine wpAnyH_take (i := 3) (oi := _) (v := ?_) rfl (by kernel_rfl) (by kernel_rfl) (by kernel_rfl) (fun _ _ _ h => h) (Or.inl ⟨by rfl, ?y3⟩) (by assumption) ?r3
  case y3 => (intro w hSw; (try dsimp only at hSw); go_simp; try with_reducible rfl)
  refine wpAnyH_take (i := 4) (oi := _) (v := ?_) rfl (by kernel_rfl) (by kernel_rfl) (by kernel_rfl) (fun _ _ _ h => h) (Or.inl ⟨by rfl, ?y4⟩) (by assumption) ?r4
  case y4 => (intro w hSw; (try dsimp only at hSw); go_simp; try with_reducible rfl)
  refine wpAnyH_take (i := 5) (oi := _) (v := ?_) rfl (by kernel_rfl) (by kernel_rfl) (by kernel_rfl) (fun _ _ _ h => h) (Or.inl ⟨by rfl, ?y5⟩) (by assumption) ?r5
  case y5 => (intro w hSw; (try dsimp only at hSw); go_simp; try with_reducible rfl)
  refine wpAnyH_take (i := 6) (oi := _) (v := ?_) rfl (by kernel_rfl) (by kernel_rfl) (by kernel_rfl) (fun _ _ _ h => h) (Or.inl ⟨by rfl, ?y6⟩) (by assumption) ?r6
  case y6 => (intro w hSw; (try dsimp only at hSw); go_simp; try with_reducible rfl)
  refine wpAnyH_take (i := 7) (oi := _) (v := ?_) rfl (by kernel_rfl) (by kernel_rfl) (by kernel_rfl) (fun _ _ _ h => h) (Or.inl ⟨by rfl, ?y7⟩) (by assumption) ?r7
  case y7 => (intro w hSw; (try dsimp only at hSw); go_simp; try with_reducible rfl)
  refine wpAnyH_take (i := 8) (oi := _) (v := ?_) rfl (by kernel_rfl) (by kernel_rfl) (by kernel_rfl) (fun _ _ _ h => h) (Or.inl ⟨by rfl, ?y8⟩) (by assumption) ?r8
  case y8 => (intro w hSw; (try dsimp only at hSw); go_simp; try with_reducible rfl)
  refine wpAnyH_take (i := 9) (oi := _) (v := ?_) rfl (by kernel_rfl) (by kernel_rfl) (by kernel_rfl) (fun _ _ _ h => h) (Or.inl ⟨by rfl, ?y9⟩) (by assumption) ?r9
  case y9 => (intro w hSw; (try dsimp only at hSw); go_simp; try with_reducible rfl)
  refine wpAnyH_take (i := 10) (oi := _) (v := ?_) rfl (by kernel_rfl) (by kernel_rfl) (by kernel_rfl) (fun _ _ _ h => h) (Or.inl ⟨by rfl, ?y10⟩) (by assumption) ?r10
  case y10 => (intro w hSw; (try dsimp only at hSw); go_simp; try with_reducible rfl)
  refine wpAnyH_take (i := 11) (oi := _) (v := ?_) rfl (by kernel_rfl) (by kernel_rfl) (by kernel_rfl) (fun _ _ _ h => h) (Or.inl ⟨by rfl, ?y11⟩) (by assumption) ?r11
  case y11 => (intro w hSw; (try dsimp only at hSw); go_simp; try with_reducible rfl)
  refine wpAnyH_take (i := 13) (oi := _) (v := ?_) rfl (by kernel_rfl) (by kernel_rfl) (by kernel_rfl) (fun _ _ _ h => h) (Or.inl ⟨by rfl, ?y13⟩) (by assumption) ?r13
  case y13 => (intro w hSw; (try dsimp only at hSw); go_simp; try with_reducible rfl)
  refine wpAnyH_take (i := 14) (oi := _) (v := ?_) rfl (by kernel_rfl) (by kernel_rfl) (by kernel_rfl) (fun _ _ _ h => h) (Or.inl ⟨by rfl, ?y14⟩) (by assumption) ?r14
  case y14 => (intro w hSw; (try dsimp only at hSw); go_simp; try with_reducible rfl)
  refine wpAnyH_take (i := 15) (oi := _) (v := ?_) rfl (by kernel_rfl) (by kernel_rfl) (by kernel_rfl) (fun _ _ _ h => h) (Or.inl ⟨by rfl, ?y15⟩) (by assumption) ?r15
  case y15 => (intro w hSw; (try dsimp only at hSw); go_simp; try with_reducible rfl)
  refine wpAnyH_take (i := 16) (oi := _) (v := ?_) rfl (by kernel_rfl) (by kernel_rfl) (by kernel_rfl) (fun _ _ _ h => h) (Or.inl ⟨by rfl, ?y16⟩) (by assumption) ?r16
  case y16 => (intro w hSw; (try dsimp only at hSw); go_simp; try with_reducible rfl)
  refine wpAnyH_take (i := 17) (oi := _) (v := ?_) rfl (by kernel_rfl) (by kernel_rfl) (by kernel_rfl) (fun _ _ _ h => h) (Or.inl ⟨by rfl, ?y17⟩) (by assumption) ?r17
  case y17 => (intro w hSw; (try dsimp only at hSw); go_simp; try with_reducible rfl)
  refine wpAnyH_ready (rs := [12]) (by kernel_rfl) (by simp) ?_
  refine AllReadyH.cons rfl (fun K hK => ?_) AllReadyH.nil
  go_simp
  go_at_call 56
  refine (C3.out _ (by with_reducible exact (Kept.refl _ _).drew)).mono ?_
  rintro e w3 ⟨rfl, K3, t6, t2, t0⟩
  refine hK.out _ _ ⟨t6, t2, t0⟩ (fun hHeld => ?_)
  clear hK K
  refine wpAnyH_ready (rs := [18]) (by kernel_rfl) (by simp) ?_
  refine AllReadyH.cons rfl (fun K hK => ?_) AllReadyH.nil
  go_simp
  go_at_call 57
  refine (C4.out _ K3.out).mono ?_
  rintro e w4 ⟨rfl, hw4⟩
  obtain rfl := hw4.symm
  refine hK.out _ _ ⟨t6, t2, t0⟩ (fun hHeld => ?_)
  clear hK K
  refine wpAnyH_ready (rs := [19]) (by kernel_rfl) (by simp) ?_
  refine AllReadyH.cons rfl (fun K hK => ?_) AllReadyH.nil
  go_simp
  go_at_call 55
  refine (C5.out _ K3.out).mono ?_
  rintro e w5 ⟨rfl, R5, r6, r2, r0⟩
  refine hK.out _ _ ⟨r6, r2, r0⟩ (fun hHeld => ?_)
  clear hK K
  refine wpAnyH_take (i := 20) (oi := _) (v := ?_) rfl (by kernel_rfl) (by kernel_rfl) (by kernel_rfl) (fun _ _ _ h => h) (Or.inl ⟨by rfl, ?y20⟩) (by assumption) ?r20
  case y20 => (intro w hSw; (try dsimp only at hSw); go_simp; try with_reducible rfl)
  refine wpAnyH_take (i := 21) (oi := _) (v := ?_) rfl (by kernel_rfl) (by kernel_rfl) (by kernel_rfl) (fun _ _ _ h => h) (Or.inl ⟨by rfl, ?y21⟩) (by assumption) ?r21
  case y21 => (intro w hSw; (try dsimp only at hSw); go_simp; try with_reducible rfl)
  refine wpAnyH_ready (rs := [22]) (by kernel_rfl) (by simp) ?_
  refine AllReadyH.cons rfl (fun K hK => ?_) AllReadyH.nil
  go_simp
  go_at_call 53
  refine (taken_no _ _ _ hE).mono ?_
  rintro e w6 ⟨rfl, hw6⟩
  obtain rfl := hw6.symm
  exact bodyPost_panic rfl ⟨rfl, R5.out⟩
end Go.Proofs.YtahoeodpjdbdkabDoor
