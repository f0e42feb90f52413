import Derived.Test.YthhegomjipbdbaaGreatDoorSdZ
import Derived.Recover
import Derived.Test.YthhegomjipbdbaaGreatDoorG9Z
namespace Go.Proofs.YthhegomjipbdbaaGreatDoor
open Go.RowKit

theorem pmf_le (A N : Int) (f k : Nat) : pmf A N f k ≤ f + k := by
  induction f generalizing k with
  | zero => simp [pmf]
  | succ f ih => unfold pmf; have := ih (k + 1); split <;> omega
theorem po_le (L : Nat → Sx) (k : Int) : po L k ≤ 15 := by
  unfold po; split
  · exact pmf_le _ _ 15 0
  · omega

theorem fold_any' (q : Int) (w : World) (h0 : -5000 ≤ q) (h1 : q ≤ 5000) : Calls Tryz.prog 152 #[.int .i64 q] w fun r w' => r = .returned (.tuple #[.int .i64 (fld q : Int), .int .i64 0]) ∧ w' = w := by
  refine fold_to q (fld q : Int) w (by omega) (by omega) ?_
  unfold fld
  by_cases h : q < 0
  · right; rw [if_pos h]; omega
  · left; rw [if_neg h]; omega

/-- What lies apart from a coder's writer. -/
theorem Cm.apart {w0 : World} {B P X G O : Nat} {T d D : Int} {W n sb so sc : Nat} {f : Nat → Int} {w : World} {s : Wk} {x : Nat × Nat} (h : Cm w0 B P X G O T d D W n sb so sc f w s x) {V : Value} (hw : WriterAt w O V x.1 x.2) :
    ∀ b, (∃ c t, w.heap[b]? = some (.cells c t (0, 0)) ∧ t ≠ 5 ∧ t ≠ 213) → b ∉ O :: V.ownBlock.toList := by
  intro b ⟨c, t, hb, ht, ht2⟩ hm
  rcases List.mem_cons.1 hm with rfl | hm
  · exact ne_ty hb hw.1 ht2 rfl
  · exact own_ne hb ht hw.2 (by simpa using hm)

theorem Cm.kp {w0 : World} {B P X G O : Nat} {T d D : Int} {W n sb so sc : Nat} {f : Nat → Int} {w w' : World} {s : Wk} {x : Nat × Nat} (h : Cm w0 B P X G O T d D W n sb so sc f w s x) (hk : Kept [] w w') : Cm w0 B P X G O T d D W n sb so sc f w' s x := by
  obtain ⟨V, hw, hV⟩ := h.wr
  exact ⟨h.wm.keep hk (by simp), ⟨V, hw.kept hk (by simp) (by simp), hV⟩, h.keep.trans hk, h.smp, h.tab, h.lo⟩

theorem Cm.step {w0 : World} {B P X G O : Nat} {T d D : Int} {W n sb so sc : Nat} {f : Nat → Int} {w w' : World} {s s' : Wk} {x : Nat × Nat} (h : Cm w0 B P X G O T d D W n sb so sc f w s x) (hk : Kept [B, G, P] w w') (hm : Wm w' B P X G 173 T d D W n (cext sb so n sc d O) s') : Cm w0 B P X G O T d D W n sb so sc f w' s' x := by
  obtain ⟨V, hw, hV⟩ := h.wr
  have ha := h.apart hw
  have h2 := h.wm
  obtain ⟨cs, hr, hl, hc⟩ := h2.row
  obtain ⟨ps, hp, _⟩ := h2.md.blk
  have nB := ha B ⟨_, _, h2.blk, by decide, by decide⟩
  have nG := ha G ⟨_, _, hr, by decide, by decide⟩
  have nP := ha P ⟨_, _, hp, by decide, by decide⟩
  simp only [List.mem_cons, not_or] at nB nG nP
  have hlo := h.lo
  refine ⟨hm, ⟨V, hw.kept hk (by intro hh; simp at hh; omega) ?_, hV⟩, h.keep.step hk (fun y hy => by right; simp at hy; omega), h.smp, h.tab, h.lo⟩
  intro g hg hm
  simp only [List.mem_cons, List.not_mem_nil, or_false] at hm
  rcases hm with rfl | rfl | rfl
  · exact nB.2 (by simp [hg])
  · exact nG.2 (by simp [hg])
  · exact nP.2 (by simp [hg])

set_option maxHeartbeats 4000000 in
set_option maxRecDepth 1000000 in
theorem cone_any (w0 : World) (B P X G O : Nat) (T d D : Int) (W n sb so sc : Nat) (f : Nat → Int) (w : World) (s : Wk) (x : Nat × Nat) (h : Cm w0 B P X G O T d D W n sb so sc f w s x) (hG : Gd T d) (k g p : Int) (least : Nat) (hg : g = 1 ∨ g = -1) (p0 : 0 ≤ p) (p1 : p ≤ 4095) (ht : s.t < n) (hf : ∀ i, 0 ≤ f i ∧ f i ≤ 4095) (q : Int) (hq : shr T d (g * (f s.t - p)) = q) (q0 : -5000 ≤ q) (q1 : q ≤ 5000) (hle : least ≤ fld q) (hlt : fld q - least < 2 ^ wde T d) (hx : x.2 ≤ 1000000000000) :
    Calls Tryz.prog 134 #[.pointer (some ⟨B, 0, none⟩), .agg #[.int .i64 k, .int .i64 g, .int .i64 p], .int .i64 (least : Int)] w fun e w' =>
      e = .returned (.int .i64 q) ∧ Cm w0 B P X G O T d D W n sb so sc f w' s (bto T d s k least q x) ∧ S98 w w' := by
  obtain ⟨w1, hw1, k1, b1⟩ := three_new w (.int .i64 k) (.int .i64 g) (.int .i64 p) 220
  have h1 := h.kp k1
  obtain ⟨e6, e7, e8⟩ := ext_cells h1.wm
  obtain ⟨-, -, c2, -, -, c5, -⟩ := h1.wm.fact
  have hs := (h1.smp.keep h1.keep (by simp)) s.t ht
  have fv := hf s.t
  obtain ⟨v, hv⟩ : ∃ v, f s.t = v := ⟨_, rfl⟩
  rw [hv] at hs fv hq
  obtain ⟨z0, z1, z2⟩ := agg3 b1
  obtain ⟨Q, hQ⟩ : ∃ Q, w.heap.size = Q := ⟨_, rfl⟩
  have HB1 := Hid.mk b1
  rw [hQ] at z0 z1 z2 HB1
  have ix : (s.t : Int) < n := by omega
  have wv : IntKind.i64.wrap v = v := wrap_i (by omega) (by omega)
  obtain ⟨e, he⟩ : ∃ e, g * (v - p) = e := ⟨_, rfl⟩
  have hee : -5000 ≤ e ∧ e ≤ 5000 := by rcases hg with rfl | rfl <;> omega
  have we : IntKind.i64.wrap (g * (v - p)) = e := (by rw [he]; exact wrap_i (by omega) (by omega))
  rw [he] at hq
  have C1 := Hid.mk (fun W' (hk : Kept [] w1 W') => shrink_any P T d e W' (h1.wm.md.keep hk (by simp)).hd hG)
  rw [hq] at C1
  have C2 := Hid.mk (fun W' => fold_any' q W' q0 q1)
  have HC := Hid.mk h1
  have K1 := Hid.mk k1
  have Hle := Hid.mk hle
  have hpo := po_le s.L k
  have hwd := wde_in hG
  have hsz : (fld q : Int) - least = ((fld q - least : Nat) : Int) := by omega
  have hfl : fld q ≤ 20000 := by unfold fld; split <;> omega
  obtain ⟨F, hF⟩ : ∃ F, fld q = F := ⟨_, rfl⟩
  rw [hF] at C2 hle hlt hsz hfl
  have HF := Hid.mk hF
  have Hsz := Hid.mk hsz
  have hs' : wrap64 ((F : Int) - least) = (F : Int) - least := w64_in (by omega) (by omega)
  have hs'' : IntKind.i64.wrap ((F : Int) - least) = (F : Int) - least := wrap_i (by omega) (by omega)
  have HL := Hid.mk hlt
  clear h h1 hf hv he hq hF hle hlt hsz k1 b1
  go_enter Tryz.func134, Tryz.ntmps134
  go_wp2
  go_quiet ((go_at_call 151; exact Calls.quiet_of (C1.out _ (by with_reducible exact (Kept.refl _ _).drewN _))))
  go_wp2_with (go_at_call 152; refine (C2.out _).mono ?_; rintro r w' ⟨rfl, rfl⟩)
  obtain ⟨w2, hw2⟩ : ∃ w2, w1.drewN nq = w2 := ⟨_, rfl⟩
  have h2 := HC.out.kp ((Kept.refl [] w1).drewN nq)
  have k2 : Kept [] w w2 := by rw [← hw2]; exact K1.out.drewN nq
  rw [hw2] at h2 ⊢
  have y8 : w2.cell? ⟨B, 8, none⟩ = some (.pointer (some ⟨O, 0, none⟩)) := (ext_cells h2.wm).2.2
  have y2 : w2.cell? ⟨B, 2, none⟩ = some (.pointer (some ⟨P, 0, none⟩)) := h2.wm.fact.c2
  have y0 : w2.cell? ⟨Q, 0, none⟩ = some (.int .i64 k) := by rw [← hw2, cell_drewN]; exact z0
  have hQ0 : Hid (∀ W', Kept [] w2 W' → W'.cell? ⟨Q, 0, none⟩ = some (.int .i64 k)) := Hid.mk (fun W' hk => by
    rw [← y0]; exact World.cell?_of_block (a := ⟨Q, 0, none⟩) (hk.block Q (World.block_lt_of_cell? w2 _ y0) (by simp)))
  have C3 := Hid.mk (fun W' (hk : Kept [] w2 W') => (param_any P k T d s.L W' (h2.wm.md.keep hk (by simp))).mono (R' := fun e w' => e = .returned (.int .i64 (po s.L k : Int)) ∧ Hid (Kept [] w2 w') ∧ w'.cell? ⟨B, 8, none⟩ = some (.pointer (some ⟨O, 0, none⟩)) ∧ w'.cell? ⟨B, 2, none⟩ = some (.pointer (some ⟨P, 0, none⟩)) ∧ w'.cell? ⟨Q, 0, none⟩ = some (.int .i64 k)) (by
    rintro e w' ⟨rfl, hk'⟩
    have hk3 := hk.trans hk'
    have h3 := h2.kp hk3
    exact ⟨rfl, Hid.mk hk3, (ext_cells h3.wm).2.2, h3.wm.fact.c2, hQ0.out _ hk3⟩))
  have C4 := Hid.mk (fun W' (hk : Kept [] w2 W') => wide_any P T d W' (h2.wm.md.keep hk (by simp)).hd hG)
  have ew : Lib.bitLen (rg T d - 1).toNat = wde T d := rfl
  rw [ew] at C4
  clear ew
  have C5 := Hid.mk (fun W' (hk : Kept [] w2 W') => show Calls Tryz.prog 153 #[.pointer (some ⟨O, 0, none⟩), .int .i64 ((F : Int) - least), .int .i64 (po s.L k : Int), .int .i64 (wde T d : Int)] W' (fun e w' => e = .returned (.int .i64 0) ∧ Hid (Cm w0 B P X G O T d D W n sb so sc f w' s (bto T d s k least q x) ∧ S98 w w') ∧ w'.cell? ⟨B, 8, none⟩ = some (.pointer (some ⟨O, 0, none⟩)) ∧ w'.cell? ⟨B, 2, none⟩ = some (.pointer (some ⟨P, 0, none⟩)) ∧ w'.cell? ⟨Q, 0, none⟩ = some (.int .i64 k)) from by
    have h3 := h2.kp hk
    obtain ⟨V, hw, hV⟩ := h3.wr
    have ha := h3.apart hw
    obtain ⟨cs, hr, hl, hc⟩ := h3.wm.row
    obtain ⟨ps, hp, _⟩ := h3.wm.md.blk
    have nB := ha B ⟨_, _, h3.wm.blk, by decide, by decide⟩
    have nG := ha G ⟨_, _, hr, by decide, by decide⟩
    have nP := ha P ⟨_, _, hp, by decide, by decide⟩
    have nX := ha X ⟨_, _, h3.wm.co.1, by decide, by decide⟩
    have hlo := h3.lo
    have hpos := h3.tab.pos
    rw [Hsz.out]
    refine (gput_any O V x.1 x.2 ((F - least : Nat) : Int) (po s.L k : Int) (wde T d : Int) W' hw (by omega) (by omega) (by omega) (by omega) (by omega) (by rw [Int.toNat_natCast, Int.toNat_natCast]; exact HL.out) (by omega)).mono ?_
    rintro e w' ⟨rfl, V', hwr, hkk, hli⟩
    rw [Int.toNat_natCast, Int.toNat_natCast, Int.toNat_natCast] at hwr
    have hm' : Wm w' B P X G 173 T d D W n (cext sb so n sc d O) s := h3.wm.keep hkk ⟨nB, nP, nX, nG⟩
    refine ⟨rfl, Hid.mk ⟨⟨hm', ⟨V', ?_, ?_⟩, h3.keep.step hkk ?_, h3.smp, h3.tab, h3.lo⟩, ?_⟩, (ext_cells hm').2.2, hm'.fact.c2, ?_⟩
    · unfold bto ap; rw [HF.out]; exact hwr
    · intro g hg
      rcases hli with h | ⟨g', hg', hl'⟩
      · rw [h] at hg; exact hV g hg
      · rw [hg'] at hg; simp at hg; subst hg
        have := h3.keep.size; omega
    · intro y hy
      right
      rcases List.mem_cons.1 hy with rfl | hy
      · omega
      · exact hV y (by simpa using hy)
    · intro Q' c hQ'
      have hQ2 := (k2.trans hk).heap hQ' (by simp)
      exact hkk.heap hQ2 (ha Q' ⟨_, _, hQ2, by decide, by decide⟩)
    · have hb : W'.heap[Q]? = some (.cells #[.int .i64 k, .int .i64 g, .int .i64 p] 220 (0, 0)) := hk.heap (by rw [← hw2]; exact HB1.out) (by simp)
      exact (agg3 (hkk.heap hb (ha Q ⟨_, _, hb, by decide, by decide⟩))).1)
  clear C1 C2 hs e6 e7 e8 c2 c5 z0 z1 z2 we hQ0 h2 hw2 k2 hQ hw1
  generalize (po s.L k : Int) = kk at *
  generalize (wde T d : Int) = ww at *
  go_region_held_law (fun w' => w'.cell? ⟨B, 8, none⟩ = some (.pointer (some ⟨O, 0, none⟩)) ∧ w'.cell? ⟨B, 2, none⟩ = some (.pointer (some ⟨P, 0, none⟩)) ∧ w'.cell? ⟨Q, 0, none⟩ = some (.int .i64 k)) (first | exact ⟨y8, y2, y0⟩ | exact ⟨t8, t2, t0⟩ | exact ⟨r8, r2, r0⟩ | go_keep) (first | (go_at_call 154; refine (C3.out _ (by with_reducible exact (Kept.refl _ _).drew)).mono ?_; rintro e w3 ⟨rfl, K3, t8, t2, t0⟩) | (go_at_call 155; refine (C4.out _ (by first | with_reducible exact (Kept.refl _ _).drew | exact K3.out)).mono ?_; rintro e w4 ⟨rfl, hw4⟩; obtain rfl := hw4.symm) | (go_at_call 153; refine (C5.out _ K3.out).mono ?_; rintro e w5 ⟨rfl, R5, r8, r2, r0⟩))
  all_goals
    clear C3 C4 C5
    go_wp2
    go_ret
    exact ⟨rfl, R5.out.1, R5.out.2⟩
end Go.Proofs.YthhegomjipbdbaaGreatDoor

namespace Go.Proofs.YthhegomjipbdbaaGreatDoor
open Go.RowKit

set_option maxHeartbeats 8000000 in
set_option maxRecDepth 1000000 in
theorem through44 {α : Type} (B P X G ty : Nat) (T d D : Int) (W H n : Nat) (ext : List Value) (V : Drv α) (I : World → Wk → α → Prop) (Bd : World → List PanicEntry → Prop) 
    (hD : Dp D T) (hG : Gd T d) (hn : n ≤ 4194304) (hW : 1 ≤ W) (hW2 : W ≤ 4096) (hWH : n = W * H) (s : Wk) (x : α) (hH : Hnd B P X G ty T d D W n ext 133 134 V I Bd (Rch T d W n V s x)) (w : World) (h : I w s x) (hin : s.In T) (hst : s.t ≤ n) :
    Calls Tryz.prog 132 #[.pointer (some ⟨B, 0, none⟩), .func (.func 133) #[.pointer (some ⟨B, 0, none⟩)] #[], .func (.func 134) #[.pointer (some ⟨B, 0, none⟩)] #[]] w fun e w' =>
      (e = .returned (.tuple #[]) ∧ ∃ s' x', Rch T d W n V s x s' x' ∧ s'.t = n ∧ s'.In T ∧ I w' s' x') ∨
      (∃ pc s' x', e = .panicked pc ∧ Rch T d W n V s x s' x' ∧ s'.In T ∧ Stk T d W n V s' x' ∧ Bd w' pc) := by
  have HH := Hid.mk hH
  have h0 := Hid.mk h
  have Hin := Hid.mk hin
  have HWH := Hid.mk hWH
  clear hH h hin hWH
  go_enter Tryz.func132, Tryz.ntmps132
  go_wp2
  go_loopg [6, 7, 8, 9, 10] (n - s.t) (fun k s6 s7 s8 s9 s10 wr => ∃ sr xr, k = n - sr.t ∧ sr.t ≤ n ∧ sr.In T ∧ Rch T d W n V s x sr xr ∧ I wr sr xr)
  case atStart => exact ⟨s, x, rfl, hst, Hin.out, .refl, h0.out⟩
  case round =>
    obtain ⟨sr, xr, hgk, hle, hin, hR, hI⟩ := hrel
    have hm := HH.out.wm _ _ _ hI
    have F := hm.fact
    have Hgk := Hid.mk hgk
    have Hle := Hid.mk hle
    have Hin := Hid.mk hin
    have HR := Hid.mk hR
    have HI := Hid.mk hI
    have Hm := Hid.mk hm
    obtain ⟨c0, c1, c2, c3, c4, c5, fz⟩ := F
    clear hgk hin hR hI hm fz h0 
    by_cases hlt : sr.t < n
    · have hlt' : (sr.t : Int) < (n : Int) := by omega
      have C := Hid.mk (fun q => spot_any B P X G ty T d D W n ext sr (wr.drewN q) (Hm.out.drewN q) hD hn hlt hW hW2 Hin.out)
      obtain ⟨k, hk⟩ : ∃ k, xk T d W sr = k := ⟨_, rfl⟩
      obtain ⟨g, hg⟩ : ∃ g, xs T d W sr = g := ⟨_, rfl⟩
      obtain ⟨p, hp⟩ : ∃ p, xp T d W sr = p := ⟨_, rfl⟩
      rw [hk, hg, hp] at C
      have Ek := Hid.mk hk
      have Eg := Hid.mk hg
      have Ep := Hid.mk hp
      have Hlt := Hid.mk hlt
      clear hk hg hp hlt
      by_cases hk0 : k = 0
      · have hpA : p = nA T W sr.b sr.t := by rw [← Ep.out]; unfold xp; rw [if_pos (Ek.out.trans hk0)]
        have Hk0 := Hid.mk (Ek.out.trans hk0)
        obtain ⟨a, ha⟩ : ∃ a, nA T W sr.b sr.t = a := ⟨_, rfl⟩
        have Ea := Hid.mk ha
        rw [ha] at hpA
        have hain := nA_in hG Hin.out hW
        rw [ha] at hain
        have hTT := hG.t0
        subst hpA hk0
        obtain ⟨rm, hrm⟩ : ∃ rm, rom W sr.t = rm := ⟨_, rfl⟩
        have Erm := Hid.mk hrm
        have hr1 := rom_pos (W := W) (t := sr.t) hW
        have hr2 := rom_in (H := H) hW (show sr.t < W * H by rw [← HWH.out]; exact Hlt.out)
        rw [← HWH.out] at hr2
        rw [hrm] at hr1 hr2
        clear ha hrm
        go_wp2
        go_quiet (fail)
        go_wp2_with (fail)
        refine (C.out _).mono ?_
        rintro e w1 ⟨rfl, k1⟩
        obtain ⟨w2, hw2, k2, b2⟩ := three_new w1 (.int .i64 0) (.int .i64 g) (.int .i64 p) 220
        have K2 : Kept [] wr w2 := ((Kept.refl [] wr).drewN nq).trans (k1.trans k2)
        have i2 := HH.out.step wr w2 sr sr xr HI.out (K2.mono (by simp)) (Hm.out.keep K2 (by simp))
        obtain ⟨q0, q1, q2⟩ := agg3 b2
        have I2 := Hid.mk i2
        have B2 := Hid.mk b2
        obtain ⟨Q, hQ⟩ : ∃ Q, w1.heap.size = Q := ⟨_, rfl⟩
        rw [hQ] at q0 q1 q2 B2
        clear k1 k2 b2 i2 K2 C
        go_wp2_with (fail)
        clear hw2 hQ
        refine (room_any B P X G ty T d D W n ext sr w2 (HH.out.wm _ _ _ I2.out) hW hW2).mono ?_
        rintro e w3 ⟨rfl, m3, rfl⟩
        rw [Erm.out]
        go_wp2_with (fail)
        have i3 : I (w2.drewN m3) sr xr := HH.out.step w2 _ sr sr xr I2.out ((Kept.refl _ _).drewN m3) ((HH.out.wm _ _ _ I2.out).drewN m3)
        have C4 := HH.out.run _ sr xr i3 Hin.out Hlt.out Hk0.out HR.out
        rw [Ea.out, Erm.out] at C4
        refine C4.mono ?_
        clear C4 i3 q0 q1 q2 I2
        rintro e w4 (⟨m, x4, rfl, hm, hr, i4, s4⟩ | ⟨pc, rfl, hb, hbd⟩)
        · have B4 := Hid.mk (s4 Q _ (((Kept.refl [] w2).drewN m3).heap B2.out (by simp)))
          obtain ⟨q0, q1, q2⟩ := agg3 B4.out
          have I4 := Hid.mk i4
          have Hr := Hid.mk hr
          clear i4 hr s4 B2
          go_wp2_with (fail)
          refine (fill_any B P X G ty T d D W n ext _ (m : Int) p w4 (HH.out.wm _ _ _ I4.out) (by omega) (by show sr.t + _ ≤ n; rw [Int.toNat_natCast]; omega) hn (by omega) (by omega)).mono ?_
          clear q0 q1 q2
          rintro e w5 ⟨rfl, m5, k5⟩
          rw [Int.toNat_natCast] at m5
          have i5 : I w5 (gor T W sr m) x4 := HH.out.step w4 w5 _ _ x4 I4.out (k5.mono (by simp)) (by unfold gor; rw [Ea.out, Erm.out]; exact m5)
          have B5 := Hid.mk ((HH.out.wm _ _ _ I4.out).s98 (k5.mono (by simp)) Q _ B4.out)
          obtain ⟨q0, q1, q2⟩ := agg3 B5.out
          have I5 := Hid.mk i5
          clear i5 m5 k5 B4 I4
          have hin5 := Hid.mk (gor_in hG Hin.out hW m)
          by_cases hmr : m = rm
          · subst hmr
            go_wp2_with (fail)
            go_roundg (n - (sr.t + m))
            case measure => have := Hgk.out; omega
            case rel => exact ⟨gor T W sr m, x4, rfl, by show sr.t + m ≤ n; omega, hin5.out, HR.out.tail ⟨Hlt.out, .inl ⟨Hk0.out, m, x4, by rw [Erm.out]; exact hm, Hr.out, .inl ⟨Erm.out.symm, rfl, rfl⟩⟩⟩, I5.out⟩
          · have hmr' : ((m : Int) == (rm : Int)) = false := by simp; omega
            go_wp2_with (fail)
            clear q0 q1 q2
            have C6 := HH.out.one w5 (gor T W sr m) x4 0 g p 1 I5.out hin5.out (by show _ < n; show sr.t + m < n; omega) (.inr ⟨rfl, rfl, sr, xr, m, by rw [Erm.out]; exact hm, by rw [Erm.out]; exact hmr, Hr.out, rfl, Eg.out.symm, Ea.out.symm, Hk0.out, Hin.out, Hlt.out, HR.out⟩)
            refine C6.mono ?_
            clear C6
            rintro e w6 (⟨q, x6, rfl, qlo, qhi, ho, i6, s6⟩ | ⟨pc, rfl, hb, hbd⟩)
            · have B6 := Hid.mk (s6 Q _ B5.out)
              have hm6 := HH.out.wm _ _ _ i6
              have I6 := Hid.mk i6
              have Ho := Hid.mk ho
              obtain ⟨-, -, c2, -, -, -, -⟩ := hm6.fact
              obtain ⟨y0, y1, y2⟩ := agg3 B6.out
              have C7 := Hid.mk (fun W7 (hk : Kept [] w6 W7) => (learn_any P T d 0 q ((gor T W sr m)).L W7 (hm6.md.keep hk (by simp))).mono (R' := fun e w7 => e = .returned (.tuple #[]) ∧ Hid (I w7 ⟨lL T d ((gor T W sr m)).L 0 q, ((gor T W sr m)).r, ((gor T W sr m)).b, ((gor T W sr m)).t⟩ x6) ∧ Hid (w7.heap[Q]? = some (.cells #[.int .i64 0, .int .i64 g, .int .i64 p] 220 (0, 0))) ∧ w7.cell? ⟨B, 2, none⟩ = some (.pointer (some ⟨P, 0, none⟩)) ∧ w7.cell? ⟨Q, 0, none⟩ = some (.int .i64 0) ∧ w7.cell? ⟨Q, 1, none⟩ = some (.int .i64 g) ∧ w7.cell? ⟨Q, 2, none⟩ = some (.int .i64 p)) (by
                rintro e w7 ⟨rfl, m7, k7⟩
                have k7 : Kept [P] w6 w7 := (hk.mono (by simp)).trans k7
                have hm7 := hm6.learn k7 m7
                have B7 := hm6.s98 (k7.mono (by simp)) Q _ B6.out
                obtain ⟨z0, z1, z2⟩ := agg3 B7
                exact ⟨rfl, Hid.mk (HH.out.step w6 w7 _ _ x6 I6.out (k7.mono (by simp)) hm7), Hid.mk B7, hm7.fact.c2, z0, z1, z2⟩))
              obtain ⟨g0, g1, g2⟩ := gq_in (g := g) (q := q) (by rw [← Eg.out]; exact xs_one ..) qlo qhi
              clear i6 s6 ho hm6 B5 I5 B6 I6
              go_wp2_with (fail)
              go_region_held_law (fun w' => w'.cell? ⟨B, 2, none⟩ = some (.pointer (some ⟨P, 0, none⟩)) ∧ w'.cell? ⟨Q, 0, none⟩ = some (.int .i64 0)) (first | exact ⟨c2, y0⟩ | exact ⟨t2, t3⟩ | go_keep) (first | (go_at_call 147; refine (C7.out _ (by first | with_reducible exact (Kept.refl _ _).drew | with_reducible exact Kept.refl _ _)).mono ?_; rintro e w7 ⟨rfl, I7, B7, t2, t3, t4, t5⟩))
              have hm7 := HH.out.wm _ _ _ I7.out
              have vin := gro_in hG p (g * q)
              obtain ⟨gq, hgq⟩ : ∃ gq, g * q = gq := ⟨_, rfl⟩
              have g3 : IntKind.i64.wrap (g * q) = gq := g0.trans hgq
              have C8 := Hid.mk (fun W8 (hk : Kept [] w7 W8) => grow_any P T d p gq W8 (hm7.md.keep hk (by simp)).hd hG)
              have C9 := Hid.mk (fun W9 (hk : Kept [] w7 W9) => (fill_any B P X G ty T d D W n ext _ 1 (gro T d p (g * q)) W9 (hm7.keep hk (by simp)) (by omega) (by show _ + 1 ≤ n; show sr.t + m + 1 ≤ n; omega) hn (by omega) (by omega)).mono (R' := fun e w9 => e = .returned (.tuple #[]) ∧ Hid (I w9 (goo T d (gor T W sr m) 0 g p q) x6) ∧ w9.cell? ⟨B, 2, none⟩ = some (.pointer (some ⟨P, 0, none⟩)) ∧ w9.cell? ⟨Q, 1, none⟩ = some (.int .i64 g) ∧ w9.cell? ⟨Q, 2, none⟩ = some (.int .i64 p)) (by
                rintro e w9 ⟨rfl, m9, k9⟩
                have k9 : Kept [B, G, P] w7 w9 := (hk.mono (by simp)).trans (k9.mono (by simp))
                obtain ⟨z0, z1, z2⟩ := agg3 (hm7.s98 k9 Q _ B7.out)
                exact ⟨rfl, Hid.mk (HH.out.step w7 w9 _ _ x6 I7.out k9 m9), m9.fact.c2, z1, z2⟩))
              rw [hgq] at C9
              obtain ⟨v8, hv8⟩ : ∃ v8, gro T d p gq = v8 := ⟨_, rfl⟩
              rw [hv8] at C8 C9
              clear g0 hgq hv8 hm7 y0 y1 y2 c2 C7 vin I7 B7
              go_wp2_with (fail)
              go_region_held_law (fun w' => w'.cell? ⟨B, 2, none⟩ = some (.pointer (some ⟨P, 0, none⟩)) ∧ w'.cell? ⟨Q, 1, none⟩ = some (.int .i64 g) ∧ w'.cell? ⟨Q, 2, none⟩ = some (.int .i64 p)) (first | exact ⟨t2, t4, t5⟩ | exact ⟨r2, r4, r5⟩ | go_keep) (first | (go_at_call 148; refine (C8.out _ (by first | with_reducible exact (Kept.refl _ _).drew | with_reducible exact Kept.refl _ _)).mono ?_; rintro e w8 ⟨rfl, m8, rfl⟩) | (go_at_call 146; refine (C9.out _ (by first | with_reducible exact ((Kept.refl _ _).drew).drewN _ | with_reducible exact (Kept.refl _ _).drewN _)).mono ?_; rintro e w9 ⟨rfl, I9, r2, r4, r5⟩))
              all_goals
                clear C8 C9 t2 t3 t4 t5 r2 r4 r5
                go_wp2_with (fail)
                go_roundg (n - ((sr.t + m) + 1))
                case measure => have := Hgk.out; omega
                case rel => exact ⟨goo T d (gor T W sr m) 0 g p q, x6, rfl, by show _ + 1 ≤ n; show sr.t + m + 1 ≤ n; omega, goo_in hG hin5.out _ _ _ _, HR.out.tail ⟨Hlt.out, .inl ⟨Hk0.out, m, x4, by rw [Erm.out]; exact hm, Hr.out, .inr ⟨by rw [Erm.out]; exact hmr, q, by rw [Eg.out, Ea.out]; exact Ho.out, by rw [Eg.out, Ea.out]⟩⟩⟩, I9.out⟩
            · exact bodyPost_panic rfl (.inr ⟨pc, sr, xr, rfl, HR.out, Hin.out, ⟨Hlt.out, .inl ⟨Hk0.out, .inr ⟨m, x4, by rw [Erm.out]; exact hm, by rw [Erm.out]; exact hmr, Hr.out, by rw [Eg.out, Ea.out]; exact hb⟩⟩⟩, hbd⟩)
        · exact bodyPost_panic rfl (.inr ⟨pc, sr, xr, rfl, HR.out, Hin.out, ⟨Hlt.out, .inl ⟨Hk0.out, .inl hb⟩⟩, hbd⟩)
      · have hk1 : (k == 0) = false := by simpa using hk0
        have hkz : k ≠ 0 := hk0
        have Hkz := Hid.mk hkz
        have hTT := hG.t0
        clear hkz hk0
        go_wp2
        go_quiet (fail)
        go_wp2_with (fail)
        refine (C.out _).mono ?_
        rintro e w1 ⟨rfl, k1⟩
        obtain ⟨w5, hw5, k2, b5⟩ := three_new w1 (.int .i64 k) (.int .i64 g) (.int .i64 p) 220
        have K5 : Kept [] wr w5 := ((Kept.refl [] wr).drewN nq).trans (k1.trans k2)
        have i5 := HH.out.step wr w5 sr sr xr HI.out (K5.mono (by simp)) (Hm.out.keep K5 (by simp))
        obtain ⟨q0, q1, q2⟩ := agg3 b5
        have I5 := Hid.mk i5
        have B5 := Hid.mk b5
        obtain ⟨Q, hQ⟩ : ∃ Q, w1.heap.size = Q := ⟨_, rfl⟩
        rw [hQ] at q0 q1 q2 B5
        have hin5 := Hin
        clear k1 k2 b5 i5 K5 C
        go_wp2_with (fail)
        clear hw5 hQ q0 q1 q2
        have C6 := HH.out.one w5 sr xr k g p 0 I5.out hin5.out (by show _ < n; exact Hlt.out) (.inl ⟨rfl, Ek.out.symm, Eg.out.symm, Ep.out.symm, by rw [Ek.out]; exact Hkz.out, HR.out⟩)
        refine C6.mono ?_
        clear C6
        rintro e w6 (⟨q, x6, rfl, qlo, qhi, ho, i6, s6⟩ | ⟨pc, rfl, hb, hbd⟩)
        · have B6 := Hid.mk (s6 Q _ B5.out)
          have hm6 := HH.out.wm _ _ _ i6
          have I6 := Hid.mk i6
          have Ho := Hid.mk ho
          obtain ⟨-, -, c2, -, -, -, -⟩ := hm6.fact
          obtain ⟨y0, y1, y2⟩ := agg3 B6.out
          have C7 := Hid.mk (fun W7 (hk : Kept [] w6 W7) => (learn_any P T d k q (sr).L W7 (hm6.md.keep hk (by simp))).mono (R' := fun e w7 => e = .returned (.tuple #[]) ∧ Hid (I w7 ⟨lL T d (sr).L k q, (sr).r, (sr).b, (sr).t⟩ x6) ∧ Hid (w7.heap[Q]? = some (.cells #[.int .i64 k, .int .i64 g, .int .i64 p] 220 (0, 0))) ∧ w7.cell? ⟨B, 2, none⟩ = some (.pointer (some ⟨P, 0, none⟩)) ∧ w7.cell? ⟨Q, 0, none⟩ = some (.int .i64 k) ∧ w7.cell? ⟨Q, 1, none⟩ = some (.int .i64 g) ∧ w7.cell? ⟨Q, 2, none⟩ = some (.int .i64 p)) (by
            rintro e w7 ⟨rfl, m7, k7⟩
            have k7 : Kept [P] w6 w7 := (hk.mono (by simp)).trans k7
            have hm7 := hm6.learn k7 m7
            have B7 := hm6.s98 (k7.mono (by simp)) Q _ B6.out
            obtain ⟨z0, z1, z2⟩ := agg3 B7
            exact ⟨rfl, Hid.mk (HH.out.step w6 w7 _ _ x6 I6.out (k7.mono (by simp)) hm7), Hid.mk B7, hm7.fact.c2, z0, z1, z2⟩))
          obtain ⟨g0, g1, g2⟩ := gq_in (g := g) (q := q) (by rw [← Eg.out]; exact xs_one ..) qlo qhi
          clear i6 s6 ho hm6 B5 I5 B6 I6
          go_wp2_with (fail)
          go_region_held_law (fun w' => w'.cell? ⟨B, 2, none⟩ = some (.pointer (some ⟨P, 0, none⟩)) ∧ w'.cell? ⟨Q, 0, none⟩ = some (.int .i64 k)) (first | exact ⟨c2, y0⟩ | exact ⟨t2, t3⟩ | go_keep) (first | (go_at_call 147; refine (C7.out _ (by first | with_reducible exact (Kept.refl _ _).drew | with_reducible exact Kept.refl _ _)).mono ?_; rintro e w7 ⟨rfl, I7, B7, t2, t3, t4, t5⟩))
          have hm7 := HH.out.wm _ _ _ I7.out
          have vin := gro_in hG p (g * q)
          obtain ⟨gq, hgq⟩ : ∃ gq, g * q = gq := ⟨_, rfl⟩
          have g3 : IntKind.i64.wrap (g * q) = gq := g0.trans hgq
          have C8 := Hid.mk (fun W8 (hk : Kept [] w7 W8) => grow_any P T d p gq W8 (hm7.md.keep hk (by simp)).hd hG)
          have C9 := Hid.mk (fun W9 (hk : Kept [] w7 W9) => (fill_any B P X G ty T d D W n ext _ 1 (gro T d p (g * q)) W9 (hm7.keep hk (by simp)) (by omega) (by show _ + 1 ≤ n; show sr.t + 1 ≤ n; have := Hlt.out; omega) hn (by omega) (by omega)).mono (R' := fun e w9 => e = .returned (.tuple #[]) ∧ Hid (I w9 (goo T d sr k g p q) x6) ∧ w9.cell? ⟨B, 2, none⟩ = some (.pointer (some ⟨P, 0, none⟩)) ∧ w9.cell? ⟨Q, 1, none⟩ = some (.int .i64 g) ∧ w9.cell? ⟨Q, 2, none⟩ = some (.int .i64 p)) (by
            rintro e w9 ⟨rfl, m9, k9⟩
            have k9 : Kept [B, G, P] w7 w9 := (hk.mono (by simp)).trans (k9.mono (by simp))
            obtain ⟨z0, z1, z2⟩ := agg3 (hm7.s98 k9 Q _ B7.out)
            exact ⟨rfl, Hid.mk (HH.out.step w7 w9 _ _ x6 I7.out k9 m9), m9.fact.c2, z1, z2⟩))
          rw [hgq] at C9
          obtain ⟨v8, hv8⟩ : ∃ v8, gro T d p gq = v8 := ⟨_, rfl⟩
          rw [hv8] at C8 C9
          clear g0 hgq hv8 hm7 y0 y1 y2 c2 C7 vin I7 B7
          go_wp2_with (fail)
          go_region_held_law (fun w' => w'.cell? ⟨B, 2, none⟩ = some (.pointer (some ⟨P, 0, none⟩)) ∧ w'.cell? ⟨Q, 1, none⟩ = some (.int .i64 g) ∧ w'.cell? ⟨Q, 2, none⟩ = some (.int .i64 p)) (first | exact ⟨t2, t4, t5⟩ | exact ⟨r2, r4, r5⟩ | go_keep) (first | (go_at_call 148; refine (C8.out _ (by first | with_reducible exact (Kept.refl _ _).drew | with_reducible exact Kept.refl _ _)).mono ?_; rintro e w8 ⟨rfl, m8, rfl⟩) | (go_at_call 146; refine (C9.out _ (by first | with_reducible exact ((Kept.refl _ _).drew).drewN _ | with_reducible exact (Kept.refl _ _).drewN _)).mono ?_; rintro e w9 ⟨rfl, I9, r2, r4, r5⟩))
          all_goals
            clear C8 C9 t2 t3 t4 t5 r2 r4 r5
            go_wp2_with (fail)
            go_roundg (n - (sr.t + 1))
            case measure => have := Hgk.out; omega
            case rel => exact ⟨goo T d sr k g p q, x6, rfl, by show _ + 1 ≤ n; show sr.t + 1 ≤ n; have := Hlt.out; omega, goo_in hG hin5.out _ _ _ _, HR.out.tail ⟨Hlt.out, .inr ⟨by rw [Ek.out]; exact Hkz.out, q, by rw [Ek.out, Eg.out, Ep.out]; exact Ho.out, by rw [Ek.out, Eg.out, Ep.out]⟩⟩, I9.out⟩
        · exact bodyPost_panic rfl (.inr ⟨pc, sr, xr, rfl, HR.out, Hin.out, ⟨Hlt.out, .inr ⟨by rw [Ek.out]; exact Hkz.out, by rw [Ek.out, Eg.out, Ep.out]; exact hb⟩⟩, hbd⟩)
    · have hlt' : ¬ (sr.t : Int) < (n : Int) := by omega
      go_wp2
      go_quiet (fail)
      go_wp2
      go_end0
      exact .inl ⟨rfl, sr, xr, HR.out, by omega, Hin.out, HH.out.step wr _ sr sr xr HI.out ((Kept.refl _ _).drewN _) (Hm.out.drewN _)⟩
end Go.Proofs.YthhegomjipbdbaaGreatDoor

namespace Go.Proofs.YthhegomjipbdbaaGreatDoor
open Go.RowKit

theorem cE_zero {T d : Int} {W : Nat} {f : Nat → Int} {s : Wk} (h : xk T d W s = 0) : cE T d W f s = (rnl f (nA T W s.b s.t) d s.t (rom W s.t), shr T d (xs T d W s * (f (s.t + rnl f (nA T W s.b s.t) d s.t (rom W s.t)) - nA T W s.b s.t))) := by unfold cE; rw [if_pos h]
theorem cE_else {T d : Int} {W : Nat} {f : Nat → Int} {s : Wk} (h : xk T d W s ≠ 0) : cE T d W f s = (0, shr T d (xs T d W s * (f s.t - xp T d W s))) := by unfold cE; rw [if_neg h]

theorem it_cdr {T d : Int} {W n : Nat} {f : Nat → Int} {s s' : Wk} {x x' : Nat × Nat} (h : It T d W n (cdr T d W f) s x s' x') : s.t < n ∧ s' = itr T d W s (cE T d W f s) ∧ x' = bit T d W s (cE T d W f s) x := by
  obtain ⟨h0, ⟨hk, m, x1, hm, ⟨hr, hx⟩, h1⟩ | ⟨hk, q, ⟨hq, hx⟩, hs⟩⟩ := h
  · rw [cE_zero hk]
    rw [← hr]
    unfold itr bit
    simp only [if_pos hk]
    rcases h1 with ⟨h1, h2, h3⟩ | ⟨h1, q, ⟨hq, hx2⟩, hs⟩
    · rw [if_pos h1, if_pos h1, h3]; exact ⟨h0, h2, hx⟩
    · rw [if_neg h1, if_neg h1]
      have hq : q = shr T d (xs T d W s * (f (s.t + m) - nA T W s.b s.t)) := hq
      rw [← hq, ← hx]; exact ⟨h0, hs, hx2⟩
  · rw [cE_else hk]
    unfold itr bit
    simp only [if_neg hk]
    rw [← hq]; exact ⟨h0, hs, hx⟩

theorem rch_cdr {T d : Int} {W n : Nat} {f : Nat → Int} {s0 s : Wk} {x : Nat × Nat} (h : Rch T d W n (cdr T d W f) s0 (1, 8) s x) :
    ∃ j, s = stp T d W (cE T d W f) s0 j ∧ x = wrt T d W (cE T d W f) s0 j ∧ ∀ i, i < j → (stp T d W (cE T d W f) s0 i).t < n := by
  induction h with
  | refl => exact ⟨0, rfl, rfl, fun i hi => by omega⟩
  | tail h1 h2 ih =>
    obtain ⟨j, rfl, rfl, hj⟩ := ih
    obtain ⟨a, b, c⟩ := it_cdr h2
    refine ⟨j + 1, b, c, fun i hi => ?_⟩
    by_cases e : i = j
    · subst e; exact a
    · exact hj i (by omega)

theorem rw_few (r m room : Nat) : rw_ r m room ≤ m + 13 := by
  have h1 := cnt_le r m
  have h2 := J_le (rm r m)
  unfold rw_
  split
  · omega
  · split <;> omega
theorem bto_len {T d : Int} (G : Gd T d) (s : Wk) (k : Int) (least : Nat) (q : Int) (x : Nat × Nat) : (bto T d s k least q x).2 ≤ x.2 + 40 := by
  have := gw_le (fld q - least) (po s.L k) (wde T d) (po_le _ _) (by have := wde_in G; omega)
  show x.2 + _ ≤ _; omega
theorem bit_len {T d : Int} (G : Gd T d) {W : Nat} (s : Wk) (c : Nat × Int) (x : Nat × Nat) (hW : 1 ≤ W) : (bit T d W s c x).2 + 54 * s.t ≤ x.2 + 54 * (itr T d W s c).t := by
  have hr := rom_pos (t := s.t) hW
  unfold bit itr
  split
  · have h1 := rw_few s.r c.1 (rom W s.t)
    split
    · show x.2 + rw_ s.r c.1 (rom W s.t) + 54 * s.t ≤ x.2 + 54 * (s.t + c.1); omega
    · have h2 := bto_len G (gor T W s c.1) 0 1 c.2 (btr W s c.1 x)
      have h3 : (btr W s c.1 x).2 = x.2 + rw_ s.r c.1 (rom W s.t) := rfl
      show _ ≤ x.2 + 54 * (s.t + c.1 + 1); omega
  · have h2 := bto_len G s (xk T d W s) 0 c.2 x
    show _ ≤ x.2 + 54 * (s.t + 1); omega
theorem wrt_len {T d : Int} (G : Gd T d) {W : Nat} (c : Wk → Nat × Int) (s0 : Wk) (hW : 1 ≤ W) (j : Nat) : (wrt T d W c s0 j).2 ≤ 8 + 54 * (stp T d W c s0 j).t := by
  induction j with
  | zero => show 8 ≤ 8 + _; omega
  | succ j ih =>
    have := bit_len G (stp T d W c s0 j) (c (stp T d W c s0 j)) (wrt T d W c s0 j) hW
    show (bit _ _ _ _ _ _).2 ≤ 8 + 54 * (itr _ _ _ _ _).t
    omega

set_option maxHeartbeats 1000000 in
/-- A coder's two functions do what is wanted. -/
theorem chnd (w0 : World) (B P X G O : Nat) (T d D : Int) (W H n sb so sc : Nat) (f : Nat → Int) (hG : Gd T d) (hn : n ≤ 4194304) (hW : 1 ≤ W) (hW2 : W ≤ 4096) (hWH : n = W * H) (hf : ∀ i, 0 ≤ f i ∧ f i ≤ T) (s0 : Wk) :
    Hnd B P X G 173 T d D W n (cext sb so n sc d O) 133 134 (cdr T d W f) (Cm w0 B P X G O T d D W n sb so sc f) (fun _ _ => False) (Rch T d W n (cdr T d W f) s0 (1, 8)) := by
  have hT := hG.t0
  have hf2 : ∀ i, 0 ≤ f i ∧ f i ≤ 4095 := fun i => by have := hf i; omega
  refine ⟨fun w s x h => h.wm, fun w w' s s' x h hk hm => h.step hk hm, ?_, ?_⟩
  · intro w s x h hin ht hk hR
    have ha := nA_in hG hin hW
    have hr := rom_pos (t := s.t) hW
    have hr2 := rom_in (H := H) hW (show s.t < W * H by omega)
    obtain ⟨j, hs, hx, _⟩ := rch_cdr hR
    have hl := wrt_len hG (cE T d W f) s0 hW j
    rw [← hs, ← hx] at hl
    refine (crun_any w0 B P X G O T d D W n sb so sc f w s x h (nA T W s.b s.t) (rom W s.t) ha.1 (by omega) hr.1 (by omega) (by omega) hn hf2 (by omega)).mono ?_
    rintro e w' ⟨m, rfl, hm, hc, h98⟩
    exact .inl ⟨m, _, rfl, by rw [hm]; exact rnl_le _ _ _ _ _, ⟨hm, rfl⟩, hc, h98⟩
  · intro w s x k g p least h hin ht hP
    rcases hP with ⟨rfl, rfl, rfl, rfl, hk, hR⟩ | ⟨rfl, rfl, s1, x1, m, hm, hm2, ⟨hr, hx1⟩, hs, rfl, rfl, hk, hin1, ht1, hR⟩
    · obtain ⟨j, hs, hx, _⟩ := rch_cdr hR
      have hl := wrt_len hG (cE T d W f) s0 hW j
      rw [← hs, ← hx] at hl
      have hq := cE_q hG (f := f) hin hW hf
      rw [cE_else hk] at hq
      have hp := xp_in hG hin hW
      have hrg := rg_pos T d hG
      have hql : -5000 ≤ shr T d (xs T d W s * (f s.t - xp T d W s)) ∧ shr T d (xs T d W s * (f s.t - xp T d W s)) ≤ 5000 := by unfold fld at hq; dsimp only at hq; split at hq <;> omega
      refine (cone_any w0 B P X G O T d D W n sb so sc f w s x h hG _ _ _ 0 (xs_one ..) hp.1 (by omega) ht hf2 _ rfl hql.1 hql.2 (by omega) (lt_wde hG _ (by simpa using hq)) (by omega)).mono ?_
      rintro e w' ⟨rfl, hc, h98⟩
      exact .inl ⟨_, _, rfl, hql.1, hql.2, ⟨rfl, rfl⟩, hc, h98⟩
    · obtain ⟨j, hs', hx, _⟩ := rch_cdr hR
      have hl := wrt_len hG (cE T d W f) s0 hW j
      rw [← hs', ← hx] at hl
      have hq := cE_q hG (f := f) hin1 hW hf
      have hq1 := cE_run hG (f := f) hin1 hW hf hk
      rw [cE_zero hk, ← hr] at hq hq1
      have hq1 := hq1 (by show m < _; omega)
      have hp := nA_in hG hin1 hW
      have hrg := rg_pos T d hG
      have hst : s.t = s1.t + m := by rw [hs]; rfl
      rw [← hst] at hq hq1
      have hql : -5000 ≤ shr T d (xs T d W s1 * (f s.t - nA T W s1.b s1.t)) ∧ shr T d (xs T d W s1 * (f s.t - nA T W s1.b s1.t)) ≤ 5000 := by unfold fld at hq; dsimp only at hq; split at hq <;> omega
      have hw := rw_few s1.r m (rom W s1.t)
      have hr2 := rom_pos (t := s1.t) hW
      have hx2 : x.2 = x1.2 + rw_ s1.r m (rom W s1.t) := by rw [hx1]; rfl
      dsimp only at hq hq1
      refine (cone_any w0 B P X G O T d D W n sb so sc f w s x h hG _ _ _ 1 (xs_one ..) hp.1 (by omega) ht hf2 _ rfl hql.1 hql.2 hq1 (lt_wde hG _ (by omega)) (by omega)).mono ?_
      rintro e w' ⟨rfl, hc, h98⟩
      exact .inl ⟨_, _, rfl, hql.1, hql.2, ⟨rfl, rfl⟩, hc, h98⟩
end Go.Proofs.YthhegomjipbdbaaGreatDoor

namespace Go.Proofs.YthhegomjipbdbaaGreatDoor
open Go.RowKit

/-- The panic with an error's number. -/
abbrev pnc (n : Int) : List PanicEntry := [{ v := .iface 32 (.int .i64 n), recovered := false }]

abbrev dext (O : Nat) : List Value := [.pointer (some ⟨O, 0, none⟩)]
/-- A decoder in memory. -/
structure Dm (w0 : World) (B P X G O g : Nat) (T d D : Int) (W n : Nat) (l : List Nat) (w : World) (s : Wk) (t : Nat) : Prop where
  wm : Wm w B P X G 98764 T d D W n (dext O) s
  rd : ReaderAt w O g l t
  keep : Kept [] w0 w
  tab : Tab w0
  lo : w0.heap.size ≤ B ∧ w0.heap.size ≤ P ∧ w0.heap.size ≤ X ∧ w0.heap.size ≤ G ∧ w0.heap.size ≤ O ∧ w0.heap.size ≤ g

theorem dext_cell {w : World} {B P X G : Nat} {T d D : Int} {W n O : Nat} {s : Wk} (h : Wm w B P X G 98764 T d D W n (dext O) s) : w.cell? ⟨B, 6, none⟩ = some (.pointer (some ⟨O, 0, none⟩)) := by
  have hb := h.blk
  simp [World.cell?, hb]
theorem Dm.kp {w0 : World} {B P X G O g : Nat} {T d D : Int} {W n : Nat} {l : List Nat} {w w' : World} {s : Wk} {t : Nat} (h : Dm w0 B P X G O g T d D W n l w s t) (hk : Kept [] w w') : Dm w0 B P X G O g T d D W n l w' s t :=
  ⟨h.wm.keep hk (by simp), reader_kept h.rd hk (by simp) (by simp), h.keep.trans hk, h.tab, h.lo⟩
theorem Dm.step {w0 : World} {B P X G O g : Nat} {T d D : Int} {W n : Nat} {l : List Nat} {w w' : World} {s s' : Wk} {t : Nat} (h : Dm w0 B P X G O g T d D W n l w s t) (hk : Kept [B, G, P] w w') (hm : Wm w' B P X G 98764 T d D W n (dext O) s') : Dm w0 B P X G O g T d D W n l w' s' t := by
  obtain ⟨cs, hr, hl, hc⟩ := h.wm.row
  obtain ⟨ps, hp, _⟩ := h.wm.md.blk
  have hlo := h.lo
  have o1 := ne_ty h.rd.1 h.wm.blk (by decide)
  have o2 := ne_ty h.rd.1 hr (by decide)
  have o3 := ne_ty h.rd.1 hp (by decide)
  have g1 := ne_ty h.rd.2.1 h.wm.blk (by decide)
  have g2 := ne_ty h.rd.2.1 hr (by decide)
  have g3 := ne_ty h.rd.2.1 hp (by decide)
  exact ⟨hm, reader_kept h.rd hk (by intro hh; simp at hh; omega) (by intro hh; simp at hh; omega), h.keep.step hk (fun y hy => by right; simp at hy; omega), h.tab, h.lo⟩

end Go.Proofs.YthhegomjipbdbaaGreatDoor
