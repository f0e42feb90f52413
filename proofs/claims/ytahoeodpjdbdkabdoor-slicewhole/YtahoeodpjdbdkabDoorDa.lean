import Derived.Test.YtahoeodpjdbdkabDoorShZ
import Derived.Recover
import Derived.Test.YtahoeodpjdbdkabDoorGaZ
namespace Go.Proofs.YtahoeodpjdbdkabDoor
open Go.RowKit

/-- The panic with an error's number. -/
abbrev pnc (n : Int) : List PanicEntry := [{ v := .iface 29 (.int .i64 n), recovered := false }]

set_option maxHeartbeats 1000000 in
theorem taken_ok (v : Int) (w : World) :
    Calls Tryd.prog 53 #[.int .i64 v, .int .i64 0] w fun e w' => e = .returned (.int .i64 v) ∧ w' = w := by
  go_enter Tryd.func53, Tryd.ntmps53
  go_wp2
  go_ret
  exact ⟨rfl, rfl⟩
set_option maxHeartbeats 1000000 in
theorem taken_no (v E : Int) (w : World) (h : ¬ E = 0) :
    Calls Tryd.prog 53 #[.int .i64 v, .int .i64 E] w fun e w' => e = .panicked (pnc 102) ∧ w' = w := by
  go_enter Tryd.func53, Tryd.ntmps53
  go_wp2
  exact bodyPost_panic rfl ⟨rfl, rfl⟩
set_option maxHeartbeats 1000000 in
theorem takenU_ok (v : Int) (w : World) :
    Calls Tryd.prog 33 #[.int .u32 v, .int .i64 0] w fun e w' => e = .returned (.int .u32 v) ∧ w' = w := by
  go_enter Tryd.func33, Tryd.ntmps33
  go_wp2
  go_ret
  exact ⟨rfl, rfl⟩
set_option maxHeartbeats 1000000 in
theorem takenU_no (v E : Int) (w : World) (h : ¬ E = 0) :
    Calls Tryd.prog 33 #[.int .u32 v, .int .i64 E] w fun e w' => e = .panicked (pnc 102) ∧ w' = w := by
  go_enter Tryd.func33, Tryd.ntmps33
  go_wp2
  exact bodyPost_panic rfl ⟨rfl, rfl⟩

abbrev dext (O : Nat) : List Value := [.pointer (some ⟨O, 0, none⟩)]
/-- A decoder in memory. -/
structure Dm (w0 : World) (B P X G O g : Nat) (T d D : Int) (W n : Nat) (l : List Nat) (w : World) (s : Wk) (t : Nat) : Prop where
  wm : Wm w B P X G 61 T d D W n (dext O) s
  rd : ReaderAt w O g l t
  keep : Kept [] w0 w
  tab : Tab w0
  lo : w0.heap.size ≤ B ∧ w0.heap.size ≤ P ∧ w0.heap.size ≤ X ∧ w0.heap.size ≤ G ∧ w0.heap.size ≤ O ∧ w0.heap.size ≤ g

theorem dext_cell {w : World} {B P X G : Nat} {T d D : Int} {W n O : Nat} {s : Wk} (h : Wm w B P X G 61 T d D W n (dext O) s) : w.cell? ⟨B, 6, none⟩ = some (.pointer (some ⟨O, 0, none⟩)) := by
  have hb := h.blk
  simp [World.cell?, hb]
theorem Dm.kp {w0 : World} {B P X G O g : Nat} {T d D : Int} {W n : Nat} {l : List Nat} {w w' : World} {s : Wk} {t : Nat} (h : Dm w0 B P X G O g T d D W n l w s t) (hk : Kept [] w w') : Dm w0 B P X G O g T d D W n l w' s t :=
  ⟨h.wm.keep hk (by simp), reader_kept h.rd hk (by simp) (by simp), h.keep.trans hk, h.tab, h.lo⟩
theorem Dm.step {w0 : World} {B P X G O g : Nat} {T d D : Int} {W n : Nat} {l : List Nat} {w w' : World} {s s' : Wk} {t : Nat} (h : Dm w0 B P X G O g T d D W n l w s t) (hk : Kept [B, G, P] w w') (hm : Wm w' B P X G 61 T d D W n (dext O) s') : Dm w0 B P X G O g T d D W n l w' s' t := by
  obtain ⟨cs, hr, hl, hc⟩ := h.wm.row
  obtain ⟨ps, hp, _⟩ := h.wm.md.blk
  have hlo := h.lo
  have o1 := ne_ty h.rd.1 h.wm.blk (by decide)
  have o2 := ne_ty h.rd.1 hr (by decide)
  have o3 := ne_ty h.rd.1 hp (by decide)
  have g1 := ne_ty h.rd.2.1 h.wm.blk (by decide)
  have g2 := ne_ty h.rd.2.1 hr (by decide)
  have g3 := ne_ty h.rd.2.1 hp (by decide)
  exact ⟨hm, reader_kept h.rd hk (by intro hh; simp at hh; omega) (by intro hh; simp at hh; omega), h.keep.step hk (fun y hy => by right; simp at hy; omega), h.tab, h.lo⟩

set_option maxHeartbeats 4000000 in
set_option maxRecDepth 1000000 in
theorem drun_ok (w0 : World) (B P X G O g : Nat) (T d D : Int) (W n : Nat) (l : List Nat) (w : World) (s : Wk) (t : Nat) (h : Dm w0 B P X G O g T d D W n l w s t) (a : Int) (rm : Nat) (hr1 : 1 ≤ rm) (hr2 : rm ≤ 4096) (m : Nat) (hm : m ≤ rm) (hl : t + rw_ s.r m rm ≤ 8 * l.length) (hb : nextN l t (rw_ s.r m rm) = rf s.r m rm) :
    Calls Tryd.prog 37 #[.pointer (some ⟨B, 0, none⟩), .int .i64 a, .int .i64 (rm : Int)] w fun e w' =>
      e = .returned (.int .i64 (m : Int)) ∧ Dm w0 B P X G O g T d D W n l w' ⟨s.L, rr s.r m rm, s.b, s.t⟩ (t + rw_ s.r m rm) ∧ S98 w w' ∧ Kept [X, O] w w' := by
  have c3 := h.wm.fact.c3
  have c6 := dext_cell h.wm
  have hlo := h.lo
  have hpos := h.tab.pos
  have C := Hid.mk (fun W' (hk : Kept [] w W') => show Calls Tryd.prog 54 #[.pointer (some ⟨X, 0, none⟩), .pointer (some ⟨O, 0, none⟩), .int .i64 (rm : Int)] W' (fun e w' => e = .returned (.tuple #[.int .i64 (m : Int), .int .i64 0]) ∧ Hid (Dm w0 B P X G O g T d D W n l w' ⟨s.L, rr s.r m rm, s.b, s.t⟩ (t + rw_ s.r m rm) ∧ S98 w w' ∧ Kept [X, O] w w') ∧ w'.cell? ⟨B, 3, none⟩ = some (.pointer (some ⟨X, 0, none⟩)) ∧ w'.cell? ⟨B, 6, none⟩ = some (.pointer (some ⟨O, 0, none⟩))) from by
    have h1 := h.kp hk
    obtain ⟨cs, hr, hl', hc⟩ := h1.wm.row
    obtain ⟨ps, hp, _⟩ := h1.wm.md.blk
    obtain ⟨n1, n2, n3, n4, n5, n6⟩ := h1.wm.ne
    have o1 := ne_ty h1.rd.1 h1.wm.blk (by decide)
    have o2 := ne_ty h1.rd.1 hr (by decide)
    have o3 := ne_ty h1.rd.1 hp (by decide)
    refine (rget_any X O g l t s.r (rm : Int) W' h1.wm.co h1.rd (h1.tab.kept h1.keep (by simp)) (by omega) (by omega) (by omega)).mono ?_
    rintro e w' ⟨Y2, E2, t2, r2, rfl, hrd, hco, hkk, hres2⟩
    rw [Int.toNat_natCast] at hres2
    obtain ⟨rfl, rfl, rfl, rfl⟩ := runRes_form hres2 hm hl hb
    have bB : w'.heap[B]? = _ := hkk.heap h1.wm.blk (by intro hh; simp at hh; omega)
    have k0 : Kept [] w0 w' := h1.keep.step hkk (fun y hy => by right; simp at hy; omega)
    refine ⟨rfl, Hid.mk ⟨⟨⟨bB, h1.wm.md.keep hkk (by intro hh; simp at hh; omega), hco, ⟨cs, hkk.heap hr (by intro hh; simp at hh; omega), hl', hc⟩, h1.wm.ty⟩, hrd, k0, h1.tab, h1.lo⟩, ?_, (hk.mono (by simp)).trans hkk⟩, by simp [World.cell?, bB], by simp [World.cell?, bB]⟩
    intro Q c hQ
    have hQ2 := hk.heap hQ (by simp)
    have q1 := ne_ty hQ2 h1.wm.co.1 (by decide)
    have q2 := ne_ty hQ2 h1.rd.1 (by decide)
    exact hkk.heap hQ2 (by intro hh; simp at hh; omega))
  clear h hl hb
  go_enter Tryd.func37, Tryd.ntmps37
  go_wp2
  go_region_held_law (fun w' => w'.cell? ⟨B, 3, none⟩ = some (.pointer (some ⟨X, 0, none⟩)) ∧ w'.cell? ⟨B, 6, none⟩ = some (.pointer (some ⟨O, 0, none⟩))) (first | exact ⟨c3, c6⟩ | exact ⟨t3, t6⟩ | go_keep) (first | (go_at_call 54; refine (C.out _ (by with_reducible exact (Kept.refl _ _).drew)).mono ?_; rintro e w1 ⟨rfl, R1, t3, t6⟩) | (go_at_call 53; refine (taken_ok _ _).mono ?_; rintro e w2 ⟨rfl, hw⟩; obtain rfl := hw.symm))
  go_wp2
  go_ret
  exact ⟨rfl, R1.out.1, R1.out.2.1, R1.out.2.2⟩

theorem unfold_any' (v : Nat) (q : Int) (w : World) (h1 : v ≤ 100000) (hq : fld q = v) : Calls Tryd.prog 59 #[.int .i64 (v : Int)] w fun r w' => r = .returned (.tuple #[.int .i64 q, .int .i64 0]) ∧ w' = w := by
  refine unfold_to (v : Int) q w (by omega) (by omega) ?_
  unfold fld at hq
  split at hq <;> omega

set_option maxHeartbeats 1000000 in
theorem range_any' (P : Nat) (T d : Int) (w : World) (H : Hd w P T d) : Calls Tryd.prog 58 #[.pointer (some ⟨P, 0, none⟩)] w fun e w' => e = .returned (.int .i64 (rg T d)) ∧ w' = w := by
  have h3 := H.c3
  generalize rg T d = K at *
  clear H
  go_enter Tryd.func58, Tryd.ntmps58
  go_wp2
  go_ret
  exact ⟨rfl, rfl⟩

set_option maxHeartbeats 4000000 in
set_option maxRecDepth 1000000 in
theorem done_ok (w0 : World) (B P X G O gg : Nat) (T d D : Int) (W n : Nat) (l : List Nat) (w : World) (s : Wk) (t : Nat) (h : Dm w0 B P X G O gg T d D W n l w s t) (hG : Gd T d) (k g p : Int) (least : Nat) (q : Int) (v : Nat) (hv : v < 2 ^ wde T d) (hq : fld q = v + least) (hq2 : (fld q : Int) < rg T d)
    (hl : t + gw v (po s.L k) (wde T d) ≤ 8 * l.length) (hb : nextN l t (gw v (po s.L k) (wde T d)) = gf v (po s.L k)) :
    Calls Tryd.prog 38 #[.pointer (some ⟨B, 0, none⟩), .agg #[.int .i64 k, .int .i64 g, .int .i64 p], .int .i64 (least : Int)] w fun e w' =>
      e = .returned (.int .i64 q) ∧ Dm w0 B P X G O gg T d D W n l w' s (t + gw v (po s.L k) (wde T d)) ∧ S98 w w' ∧ Kept [O] w w' := by
  obtain ⟨w2, hw2, k2, b2⟩ := three_new w (.int .i64 k) (.int .i64 g) (.int .i64 p) 103
  have h2 := h.kp k2
  have y6 := dext_cell h2.wm
  have y2 : w2.cell? ⟨B, 2, none⟩ = some (.pointer (some ⟨P, 0, none⟩)) := h2.wm.fact.c2
  obtain ⟨y0, -, -⟩ := agg3 b2
  obtain ⟨Q, hQ⟩ : ∃ Q, w.heap.size = Q := ⟨_, rfl⟩
  rw [hQ] at y0 b2
  have hpo := po_le s.L k
  have hwd := wde_in hG
  have hrg := rg_pos T d hG
  have C3 := Hid.mk (fun W' (hk : Kept [] w2 W') => (param_any P k T d s.L W' (h2.wm.md.keep hk (by simp))).mono (R' := fun e w' => e = .returned (.int .i64 (po s.L k : Int)) ∧ Hid (Kept [] w2 w') ∧ w'.cell? ⟨B, 6, none⟩ = some (.pointer (some ⟨O, 0, none⟩)) ∧ w'.cell? ⟨B, 2, none⟩ = some (.pointer (some ⟨P, 0, none⟩)) ∧ w'.cell? ⟨Q, 0, none⟩ = some (.int .i64 k)) (by
    rintro e w' ⟨rfl, hk'⟩
    have hk3 := hk.trans hk'
    have h3 := h2.kp hk3
    exact ⟨rfl, Hid.mk hk3, dext_cell h3.wm, h3.wm.fact.c2, (agg3 (hk3.heap b2 (by simp))).1⟩))
  have C4 := Hid.mk (fun W' (hk : Kept [] w2 W') => wide_any P T d W' (h2.wm.md.keep hk (by simp)).hd hG)
  have ew : Lib.bitLen (rg T d - 1).toNat = wde T d := rfl
  rw [ew] at C4
  clear ew
  have C5 := Hid.mk (fun W' (hk : Kept [] w2 W') => show Calls Tryd.prog 55 #[.pointer (some ⟨O, 0, none⟩), .int .i64 (po s.L k : Int), .int .i64 (wde T d : Int)] W' (fun e w' => e = .returned (.tuple #[.int .i64 (v : Int), .int .i64 0]) ∧ Hid (Dm w0 B P X G O gg T d D W n l w' s (t + gw v (po s.L k) (wde T d)) ∧ S98 w w' ∧ Kept [O] w w') ∧ w'.cell? ⟨B, 6, none⟩ = some (.pointer (some ⟨O, 0, none⟩)) ∧ w'.cell? ⟨B, 2, none⟩ = some (.pointer (some ⟨P, 0, none⟩)) ∧ w'.cell? ⟨Q, 0, none⟩ = some (.int .i64 k)) from by
    have h3 := h2.kp hk
    obtain ⟨cs, hr, hl', hc⟩ := h3.wm.row
    obtain ⟨ps, hp, _⟩ := h3.wm.md.blk
    have o1 := ne_ty h3.rd.1 h3.wm.blk (by decide)
    have o2 := ne_ty h3.rd.1 hr (by decide)
    have o3 := ne_ty h3.rd.1 hp (by decide)
    have o4 := ne_ty h3.rd.1 h3.wm.co.1 (by decide)
    have hlo := h3.lo
    refine (gget_any O gg l t (po s.L k : Int) (wde T d : Int) W' h3.rd (by omega) (by omega) (by omega) (by omega)).mono ?_
    rintro e w' ⟨X2, E2, t2, rfl, hrd, hkk, hres⟩
    rw [Int.toNat_natCast, Int.toNat_natCast] at hres
    obtain ⟨rfl, rfl, rfl⟩ := numRes_form hres hv hl hb
    have hm' : Wm w' B P X G 61 T d D W n (dext O) s := h3.wm.keep hkk (by simp; omega)
    refine ⟨rfl, Hid.mk ⟨⟨hm', hrd, h3.keep.step hkk (fun y hy => by right; simp at hy; omega), h3.tab, h3.lo⟩, ?_, ((k2.trans hk).mono (by simp)).trans hkk⟩, dext_cell hm', hm'.fact.c2, ?_⟩
    · intro Q' c hQ'
      have hQ2 := (k2.trans hk).heap hQ' (by simp)
      have q2 := ne_ty hQ2 h3.rd.1 (by decide)
      exact hkk.heap hQ2 (by intro hh; simp at hh; omega)
    · have hb' := hk.heap b2 (by simp)
      have q2 := ne_ty hb' h3.rd.1 (by decide)
      exact (agg3 (hkk.heap hb' (by intro hh; simp at hh; omega))).1)
  have C6 := Hid.mk (fun W' (hm : Hid (Dm w0 B P X G O gg T d D W n l W' s (t + gw v (po s.L k) (wde T d)) ∧ S98 w W' ∧ Kept [O] w W')) => range_any' P T d W' hm.out.1.wm.md.hd)
  have hF : fld q ≤ 5000 := by omega
  have C7 := Hid.mk (fun W' => unfold_any' (fld q) q W' (by omega) rfl)
  obtain ⟨F, hFF⟩ : ∃ F, fld q = F := ⟨_, rfl⟩
  rw [hFF] at hq hq2 hF C7
  have hsum : (least : Int) + v = (F : Int) := by omega
  have hsw : IntKind.i64.wrap (F : Int) = (F : Int) := wrap_i (by omega) (by omega)
  have hge : ¬ rg T d ≤ (F : Int) := by omega
  generalize rg T d = K at *
  clear h h2 k2 b2 hb hl hv hq hFF
  generalize gw v (po s.L k) (wde T d) = dt at *
  generalize (po s.L k : Int) = kk at *
  generalize (wde T d : Int) = ww at *
  go_enter Tryd.func38, Tryd.ntmps38
  go_wp2
  go_region_held_law (fun w' => w'.cell? ⟨B, 6, none⟩ = some (.pointer (some ⟨O, 0, none⟩)) ∧ w'.cell? ⟨B, 2, none⟩ = some (.pointer (some ⟨P, 0, none⟩)) ∧ w'.cell? ⟨Q, 0, none⟩ = some (.int .i64 k)) (first | exact ⟨y6, y2, y0⟩ | exact ⟨t6, t2, t0⟩ | exact ⟨r6, r2, r0⟩ | go_keep) (first | (go_at_call 56; refine (C3.out _ (by with_reducible exact (Kept.refl _ _).drew)).mono ?_; rintro e w3 ⟨rfl, K3, t6, t2, t0⟩) | (go_at_call 57; refine (C4.out _ (by first | with_reducible exact (Kept.refl _ _).drew | exact K3.out)).mono ?_; rintro e w4 ⟨rfl, hw4⟩; obtain rfl := hw4.symm) | (go_at_call 55; refine (C5.out _ K3.out).mono ?_; rintro e w5 ⟨rfl, R5, r6, r2, r0⟩) | (go_at_call 53; refine (taken_ok _ _).mono ?_; rintro e w6 ⟨rfl, hw6⟩; obtain rfl := hw6.symm))
  all_goals
    clear C3 C4 C5 t6 t2 t0 hsum
    go_wp2_with (first | (go_at_call 58; refine (C6.out _ R5).mono ?_; rintro e w7 ⟨rfl, hw7⟩; obtain rfl := hw7.symm) | (go_at_call 59; refine (C7.out _).mono ?_; rintro e w8 ⟨rfl, hw8⟩; obtain rfl := hw8.symm))
    go_ret
    exact ⟨rfl, R5.out.1, R5.out.2.1, R5.out.2.2⟩
end Go.Proofs.YtahoeodpjdbdkabDoor
