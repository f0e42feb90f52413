import Derived.Test.YtahoeodpjdbdkabDoorSe
namespace Go.Proofs.YtahoeodpjdbdkabDoor
open Go.RowKit

/-- Samples that are read. -/
def Smp (w : World) (sb so n : Nat) (f : Nat → Int) : Prop := ∀ i, i < n → w.cell? ⟨sb, so + i, none⟩ = some (.int .u16 (f i))

abbrev cext (sb so n sc : Nat) (d : Int) (O : Nat) : List Value := [.slice (some ⟨sb, so, none⟩) n sc, .int .i64 d, .pointer (some ⟨O, 0, none⟩)]

/-- A coder in memory. -/
structure Cm (w0 : World) (B P X G O : Nat) (T d D : Int) (W n sb so sc : Nat) (f : Nat → Int) (w : World) (s : Wk) (x : Nat × Nat) : Prop where
  wm : Wm w B P X G 71 T d D W n (cext sb so n sc d O) s
  wr : ∃ V, WriterAt w O V x.1 x.2 ∧ (∀ g, V.ownBlock = some g → w0.heap.size ≤ g)
  keep : Kept [] w0 w
  smp : Smp w0 sb so n f
  tab : Tab w0
  lo : w0.heap.size ≤ B ∧ w0.heap.size ≤ P ∧ w0.heap.size ≤ X ∧ w0.heap.size ≤ G ∧ w0.heap.size ≤ O

theorem Smp.keep {w w' : World} {sb so n : Nat} {f : Nat → Int} {ks : List Nat} (h : Smp w sb so n f) (hk : Kept ks w w') (h0 : sb ∉ ks) : Smp w' sb so n f := by
  intro i hi
  have := h i hi
  rw [← this]
  exact World.cell?_of_block (a := ⟨sb, so + i, none⟩) (hk.block sb (World.block_lt_of_cell? w _ this) h0)

theorem ext_cells {w : World} {B P X G : Nat} {T d D : Int} {W n sb so sc O : Nat} {s : Wk} (h : Wm w B P X G 71 T d D W n (cext sb so n sc d O) s) :
    w.cell? ⟨B, 6, none⟩ = some (.slice (some ⟨sb, so, none⟩) n sc) ∧ w.cell? ⟨B, 7, none⟩ = some (.int .i64 d) ∧ w.cell? ⟨B, 8, none⟩ = some (.pointer (some ⟨O, 0, none⟩)) := by
  have hb := h.blk
  refine ⟨?_, ?_, ?_⟩ <;> simp [World.cell?, hb]

set_option maxHeartbeats 2000000 in
set_option maxRecDepth 100000 in
theorem near_any (B : Nat) (d a v : Int) (w : World) (h7 : w.cell? ⟨B, 7, none⟩ = some (.int .i64 d)) (a0 : 0 ≤ a) (a1 : a ≤ 65535) (v0 : 0 ≤ v) (v1 : v ≤ 65535) :
    Calls Tryd.prog 63 #[.pointer (some ⟨B, 0, none⟩), .int .i64 a, .int .i64 v] w fun e w' => e = .returned (.bool (nea d a v)) ∧ w' = w := by
  by_cases h1 : v - a ≤ d
  · by_cases h2 : a - v ≤ d
    · rw [(nea_iff _ _ _).2 ⟨h1, h2⟩]
      go_enter Tryd.func63, Tryd.ntmps63
      go_wp2
      go_ret
      exact ⟨rfl, rfl⟩
    · have e : nea d a v = false := by unfold nea; rw [decide_eq_false]; omega
      rw [e]
      go_enter Tryd.func63, Tryd.ntmps63
      go_wp2
      go_ret
      exact ⟨rfl, rfl⟩
  · have e : nea d a v = false := by unfold nea; rw [decide_eq_false]; omega
    rw [e]
    go_enter Tryd.func63, Tryd.ntmps63
    go_wp2
    go_ret
    exact ⟨rfl, rfl⟩

/-- What drives a coder. -/
def cdr (T d : Int) (W : Nat) (f : Nat → Int) : Drv (Nat × Nat) where
  run s x m x' := m = rnl f (nA T W s.b s.t) d s.t (rom W s.t) ∧ x' = btr W s m x
  one s k g p least x q x' := q = shr T d (g * (f s.t - p)) ∧ x' = bto T d s k least q x
  runB _ _ := False
  oneB _ _ _ _ _ _ := False

theorem Cm.w98 {w0 : World} {B P X G O : Nat} {T d D : Int} {W n sb so sc : Nat} {f : Nat → Int} {w : World} {s : Wk} {x : Nat × Nat} (h : Cm w0 B P X G O T d D W n sb so sc f w s x) : 0 < w0.heap.size := h.tab.pos

set_option maxHeartbeats 4000000 in
set_option maxRecDepth 1000000 in
theorem crun_any (w0 : World) (B P X G O : Nat) (T d D : Int) (W n sb so sc : Nat) (f : Nat → Int) (w : World) (s : Wk) (x : Nat × Nat) (h : Cm w0 B P X G O T d D W n sb so sc f w s x) (a : Int) (rm : Nat) (a0 : 0 ≤ a) (a1 : a ≤ 4095) (hr1 : 1 ≤ rm) (hr2 : rm ≤ 4096) (hrt : s.t + rm ≤ n) (hn : n ≤ 4194304) (hf : ∀ i, 0 ≤ f i ∧ f i ≤ 4095) (hx : x.2 ≤ 1000000000000) :
    Calls Tryd.prog 43 #[.pointer (some ⟨B, 0, none⟩), .int .i64 a, .int .i64 (rm : Int)] w fun e w' =>
      ∃ (m : Nat), e = .returned (.int .i64 (m : Int)) ∧ m = rnl f a d s.t rm ∧ Cm w0 B P X G O T d D W n sb so sc f w' ⟨s.L, rr s.r m rm, s.b, s.t⟩ (ap x (rw_ s.r m rm) (rf s.r m rm)) ∧ S98 w w' := by
  have HC := Hid.mk h
  have Hf := Hid.mk hf
  have hne := h.wm.ne
  have hlo := h.lo
  have hpos := h.tab.pos
  clear h hf
  go_enter Tryd.func43, Tryd.ntmps43
  go_wp2
  go_loopw [7] (fun i wr => ∃ (k : Nat), k ≤ rm ∧ i = .int .i64 (k : Int) ∧ Hid (∀ j, j < k → nea d a (f (s.t + j)) = true) ∧ Kept [] w wr) (fun i _ => rm - (intOf i).toNat)
  case atStart => exact ⟨0, by omega, rfl, Hid.mk (by omega), Kept.refl _ _⟩
  case round =>
    obtain ⟨k, hk, rfl, hall, hkw⟩ := hrel
    have hm := HC.out.wm.keep hkw (by simp)
    obtain ⟨e6, e7, e8⟩ := ext_cells hm
    obtain ⟨-, -, -, c3, -, c5, -⟩ := hm.fact
    have hS := (HC.out.smp.keep HC.out.keep (by simp)).keep hkw (by simp)
    have HK := Hid.mk hkw
    clear hkw
    have hend : ∀ wr2, Kept [] w wr2 → Hid (rnl f a d s.t rm = k) → Hid (Calls Tryd.prog 64 #[.pointer (some ⟨X, 0, none⟩), .pointer (some ⟨O, 0, none⟩), .int .i64 (k : Int), .int .i64 (rm : Int)] wr2 fun e w' => e = .returned (.int .i64 0) ∧ Hid (Cm w0 B P X G O T d D W n sb so sc f w' ⟨s.L, rr s.r k rm, s.b, s.t⟩ (ap x (rw_ s.r k rm) (rf s.r k rm)) ∧ S98 w w') ∧ w'.cell? ⟨B, 3, none⟩ = some (.pointer (some ⟨X, 0, none⟩)) ∧ w'.cell? ⟨B, 8, none⟩ = some (.pointer (some ⟨O, 0, none⟩))) := by
      intro wr2 hk2 _
      have h2 := HC.out.wm.keep hk2 (by simp)
      obtain ⟨V, hw, hV⟩ := HC.out.wr
      have hw2 : WriterAt wr2 O V x.1 x.2 := hw.kept hk2 (by simp) (by simp)
      obtain ⟨cs, hr, hl, hc⟩ := h2.row
      obtain ⟨ps, hp, _⟩ := h2.md.blk
      have oB : O ≠ B := ne_ty hw2.1 h2.blk (by decide)
      have oP : O ≠ P := ne_ty hw2.1 hp (by decide)
      have oX : O ≠ X := ne_ty hw2.1 h2.co.1 (by decide)
      have oG : O ≠ G := ne_ty hw2.1 hr (by decide)
      refine Hid.mk ((rput_any X O V x.1 x.2 s.r (k : Int) (rm : Int) wr2 h2.co hw2 (HC.out.tab.kept (HC.out.keep.trans hk2) (by simp)) (by omega) (by omega) (fun e => by have := hV 0 e; omega) (by omega) (by omega) (by omega) (by omega) (by omega)).mono ?_)
      rintro e w' ⟨rfl, V', hco, hwr, hkk, hli⟩
      rw [Int.toNat_natCast, Int.toNat_natCast] at hco hwr
      have vB : ∀ b, (∃ c t, wr2.heap[b]? = some (.cells c t (0, 0)) ∧ t ≠ 5) → b ∉ V.ownBlock.toList := by
        intro b ⟨c, t, hb, ht⟩ hm
        have hvb : V.ownBlock = some b := by simpa using hm
        exact own_ne hb ht hw2.2 hvb
      have nB : B ∉ X :: O :: V.ownBlock.toList := by
        have := vB B ⟨_, _, h2.blk, by decide⟩
        simp only [List.mem_cons, not_or]; exact ⟨by omega, by omega, this⟩
      have nP : P ∉ X :: O :: V.ownBlock.toList := by
        have := vB P ⟨_, _, hp, by decide⟩
        simp only [List.mem_cons, not_or]; exact ⟨by omega, by omega, this⟩
      have nG : G ∉ X :: O :: V.ownBlock.toList := by
        have := vB G ⟨_, _, hr, by decide⟩
        simp only [List.mem_cons, not_or]; exact ⟨by omega, by omega, this⟩
      have hm' : Wm w' B P X G 71 T d D W n (cext sb so n sc d O) ⟨s.L, rr s.r k rm, s.b, s.t⟩ := ⟨hkk.heap h2.blk nB, h2.md.keep hkk nP, hco, ⟨cs, hkk.heap hr nG, hl, hc⟩, h2.ty⟩
      have k0 : Kept [] w0 w' := (HC.out.keep.trans hk2).step hkk (fun y hy => by
        right
        rcases List.mem_cons.1 hy with rfl | hy
        · omega
        · rcases List.mem_cons.1 hy with rfl | hy
          · omega
          · exact hV y (by simpa using hy))
      refine ⟨rfl, Hid.mk ⟨⟨hm', ⟨V', hwr, ?_⟩, k0, HC.out.smp, HC.out.tab, HC.out.lo⟩, ?_⟩, hm'.fact.c3, (ext_cells hm').2.2⟩
      · intro g hg
        rcases hli with h | ⟨g', hg', hl'⟩
        · rw [h] at hg; exact hV g hg
        · rw [hg'] at hg; simp at hg; subst hg
          have := (HC.out.keep.trans hk2).size; omega
      · intro Q c hQ
        have hQ2 := hk2.heap hQ (by simp)
        refine hkk.heap hQ2 ?_
        have := vB Q ⟨_, _, hQ2, by decide⟩
        simp only [List.mem_cons, not_or]
        exact ⟨ne_ty hQ2 h2.co.1 (by decide), ne_ty hQ2 hw2.1 (by decide), this⟩
    by_cases hlt : k < rm
    · have hlt' : (k : Int) < (rm : Int) := by omega
      have hs := hS (s.t + k) (by omega)
      have fv := Hf.out (s.t + k)
      obtain ⟨v, hv⟩ : ∃ v, f (s.t + k) = v := ⟨_, rfl⟩
      rw [hv] at hs fv
      have Hv := Hid.mk hv
      have C := Hid.mk (fun W' (hk : wr.cell? ⟨B, 7, none⟩ = W'.cell? ⟨B, 7, none⟩) => near_any B d a v W' (by rw [← hk]; exact e7) a0 (by omega) fv.1 (by omega))
      have ix : (s.t : Int) + k < n := by omega
      have ix0 : (0 : Int) ≤ (s.t : Int) + k := by omega
      have et : ((s.t : Int) + k).toNat = s.t + k := by omega
      have hs : wr.cell? ⟨sb, so + ((s.t : Int) + k).toNat, none⟩ = some (.int .u16 v) := by rw [et]; exact hs
      have wv : IntKind.i64.wrap v = v := wrap_i (by omega) (by omega)
      clear hv et hS hm
      by_cases hnv : nea d a v = true
      · rw [hnv] at C
        have Hnv := Hid.mk hnv
        clear hend hnv
        go_wp2
        go_quiet ((go_at_call 63; exact Calls.quiet_of_same (C.out _ (by simp))))
        go_wp2
        go_roundw
        case rel =>
          refine ⟨k + 1, by omega, by go_num, Hid.mk (fun j hj => ?_), HK.out.drewN _⟩
          by_cases e : j = k
          · subst e; rw [Hv.out]; exact Hnv.out
          · exact hall.out j (by omega)
        case measure => simp [intOf]; omega
      · have hnv' : nea d a v = false := by simpa using hnv
        rw [hnv'] at C
        have hR : Hid (rnl f a d s.t rm = k) := Hid.mk (rnl_is _ _ _ _ _ _ hk hall.out (fun _ => by rw [Hv.out]; exact hnv'))
        have HE := Hid.mk (fun q => hend (wr.drewN q).drew (HK.out.drewN q).drew hR)
        clear hend hnv hnv'
        go_wp2
        go_quiet ((go_at_call 63; exact Calls.quiet_of_same (C.out _ (by simp))))
        go_wp2
        go_region_held_law (fun w' => w'.cell? ⟨B, 3, none⟩ = some (.pointer (some ⟨X, 0, none⟩)) ∧ w'.cell? ⟨B, 8, none⟩ = some (.pointer (some ⟨O, 0, none⟩))) (first | exact ⟨c3, e8⟩ | exact ⟨t3, t8⟩ | go_keep) (first | (go_at_call 64; refine ((HE.out _).out).mono ?_; rintro e w3 ⟨rfl, R3, t3, t8⟩))
        go_wp2
        go_ret
        exact ⟨_, rfl, hR.out.symm, R3.out.1, R3.out.2⟩
    · obtain rfl : rm = k := by omega
      have hlt' : ¬ (rm : Int) < (rm : Int) := by omega
      have hR : Hid (rnl f a d s.t rm = rm) := Hid.mk (rnl_is _ _ _ _ _ _ hk hall.out (by omega))
      have HE := Hid.mk (fun q => hend (wr.drewN q).drew (HK.out.drewN q).drew hR)
      clear hend hS hm hlt
      go_wp2
      go_quiet (fail)
      go_wp2
      go_region_held_law (fun w' => w'.cell? ⟨B, 3, none⟩ = some (.pointer (some ⟨X, 0, none⟩)) ∧ w'.cell? ⟨B, 8, none⟩ = some (.pointer (some ⟨O, 0, none⟩))) (first | exact ⟨c3, e8⟩ | exact ⟨t3, t8⟩ | go_keep) (first | (go_at_call 64; refine ((HE.out _).out).mono ?_; rintro e w3 ⟨rfl, R3, t3, t8⟩))
      go_wp2
      go_ret
      exact ⟨_, rfl, hR.out.symm, R3.out.1, R3.out.2⟩
end Go.Proofs.YtahoeodpjdbdkabDoor

namespace Go.Proofs.YtahoeodpjdbdkabDoor
open Go.RowKit

theorem pmf_le (A N : Int) (f k : Nat) : pmf A N f k ≤ f + k := by
  induction f generalizing k with
  | zero => simp [pmf]
  | succ f ih => unfold pmf; have := ih (k + 1); split <;> omega
theorem po_le (L : Nat → Sx) (k : Int) : po L k ≤ 15 := by
  unfold po; split
  · exact pmf_le _ _ 15 0
  · omega

theorem fold_any' (q : Int) (w : World) (h0 : -5000 ≤ q) (h1 : q ≤ 5000) : Calls Tryd.prog 66 #[.int .i64 q] w fun r w' => r = .returned (.tuple #[.int .i64 (fld q : Int), .int .i64 0]) ∧ w' = w := by
  refine fold_to q (fld q : Int) w (by omega) (by omega) ?_
  unfold fld
  by_cases h : q < 0
  · right; rw [if_pos h]; omega
  · left; rw [if_neg h]; omega

/-- What lies apart from a coder's writer. -/
theorem Cm.apart {w0 : World} {B P X G O : Nat} {T d D : Int} {W n sb so sc : Nat} {f : Nat → Int} {w : World} {s : Wk} {x : Nat × Nat} (h : Cm w0 B P X G O T d D W n sb so sc f w s x) {V : Value} (hw : WriterAt w O V x.1 x.2) :
    ∀ b, (∃ c t, w.heap[b]? = some (.cells c t (0, 0)) ∧ t ≠ 5 ∧ t ≠ 112) → b ∉ O :: V.ownBlock.toList := by
  intro b ⟨c, t, hb, ht, ht2⟩ hm
  rcases List.mem_cons.1 hm with rfl | hm
  · exact ne_ty hb hw.1 ht2 rfl
  · exact own_ne hb ht hw.2 (by simpa using hm)

theorem Cm.kp {w0 : World} {B P X G O : Nat} {T d D : Int} {W n sb so sc : Nat} {f : Nat → Int} {w w' : World} {s : Wk} {x : Nat × Nat} (h : Cm w0 B P X G O T d D W n sb so sc f w s x) (hk : Kept [] w w') : Cm w0 B P X G O T d D W n sb so sc f w' s x := by
  obtain ⟨V, hw, hV⟩ := h.wr
  exact ⟨h.wm.keep hk (by simp), ⟨V, hw.kept hk (by simp) (by simp), hV⟩, h.keep.trans hk, h.smp, h.tab, h.lo⟩

theorem Cm.step {w0 : World} {B P X G O : Nat} {T d D : Int} {W n sb so sc : Nat} {f : Nat → Int} {w w' : World} {s s' : Wk} {x : Nat × Nat} (h : Cm w0 B P X G O T d D W n sb so sc f w s x) (hk : Kept [B, G, P] w w') (hm : Wm w' B P X G 71 T d D W n (cext sb so n sc d O) s') : Cm w0 B P X G O T d D W n sb so sc f w' s' x := by
  obtain ⟨V, hw, hV⟩ := h.wr
  have ha := h.apart hw
  have h2 := h.wm
  obtain ⟨cs, hr, hl, hc⟩ := h2.row
  obtain ⟨ps, hp, _⟩ := h2.md.blk
  have nB := ha B ⟨_, _, h2.blk, by decide, by decide⟩
  have nG := ha G ⟨_, _, hr, by decide, by decide⟩
  have nP := ha P ⟨_, _, hp, by decide, by decide⟩
  simp only [List.mem_cons, not_or] at nB nG nP
  have hlo := h.lo
  refine ⟨hm, ⟨V, hw.kept hk (by intro hh; simp at hh; omega) ?_, hV⟩, h.keep.step hk (fun y hy => by right; simp at hy; omega), h.smp, h.tab, h.lo⟩
  intro g hg hm
  simp only [List.mem_cons, List.not_mem_nil, or_false] at hm
  rcases hm with rfl | rfl | rfl
  · exact nB.2 (by simp [hg])
  · exact nG.2 (by simp [hg])
  · exact nP.2 (by simp [hg])

set_option maxHeartbeats 4000000 in
set_option maxRecDepth 1000000 in
theorem cone_any (w0 : World) (B P X G O : Nat) (T d D : Int) (W n sb so sc : Nat) (f : Nat → Int) (w : World) (s : Wk) (x : Nat × Nat) (h : Cm w0 B P X G O T d D W n sb so sc f w s x) (hG : Gd T d) (k g p : Int) (least : Nat) (hg : g = 1 ∨ g = -1) (p0 : 0 ≤ p) (p1 : p ≤ 4095) (ht : s.t < n) (hf : ∀ i, 0 ≤ f i ∧ f i ≤ 4095) (q : Int) (hq : shr T d (g * (f s.t - p)) = q) (q0 : -5000 ≤ q) (q1 : q ≤ 5000) (hle : least ≤ fld q) (hlt : fld q - least < 2 ^ wde T d) (hx : x.2 ≤ 1000000000000) :
    Calls Tryd.prog 44 #[.pointer (some ⟨B, 0, none⟩), .agg #[.int .i64 k, .int .i64 g, .int .i64 p], .int .i64 (least : Int)] w fun e w' =>
      e = .returned (.int .i64 q) ∧ Cm w0 B P X G O T d D W n sb so sc f w' s (bto T d s k least q x) ∧ S98 w w' := by
  obtain ⟨w1, hw1, k1, b1⟩ := three_new w (.int .i64 k) (.int .i64 g) (.int .i64 p) 103
  have h1 := h.kp k1
  obtain ⟨e6, e7, e8⟩ := ext_cells h1.wm
  obtain ⟨-, -, c2, -, -, c5, -⟩ := h1.wm.fact
  have hs := (h1.smp.keep h1.keep (by simp)) s.t ht
  have fv := hf s.t
  obtain ⟨v, hv⟩ : ∃ v, f s.t = v := ⟨_, rfl⟩
  rw [hv] at hs fv hq
  obtain ⟨z0, z1, z2⟩ := agg3 b1
  obtain ⟨Q, hQ⟩ : ∃ Q, w.heap.size = Q := ⟨_, rfl⟩
  have HB1 := Hid.mk b1
  rw [hQ] at z0 z1 z2 HB1
  have ix : (s.t : Int) < n := by omega
  have wv : IntKind.i64.wrap v = v := wrap_i (by omega) (by omega)
  obtain ⟨e, he⟩ : ∃ e, g * (v - p) = e := ⟨_, rfl⟩
  have hee : -5000 ≤ e ∧ e ≤ 5000 := by rcases hg with rfl | rfl <;> omega
  have we : IntKind.i64.wrap (g * (v - p)) = e := (by rw [he]; exact wrap_i (by omega) (by omega))
  rw [he] at hq
  have C1 := Hid.mk (fun W' (hk : Kept [] w1 W') => shrink_any P T d e W' (h1.wm.md.keep hk (by simp)).hd hG)
  rw [hq] at C1
  have C2 := Hid.mk (fun W' => fold_any' q W' q0 q1)
  have HC := Hid.mk h1
  have K1 := Hid.mk k1
  have Hle := Hid.mk hle
  have hpo := po_le s.L k
  have hwd := wde_in hG
  have hsz : (fld q : Int) - least = ((fld q - least : Nat) : Int) := by omega
  have hfl : fld q ≤ 20000 := by unfold fld; split <;> omega
  obtain ⟨F, hF⟩ : ∃ F, fld q = F := ⟨_, rfl⟩
  rw [hF] at C2 hle hlt hsz hfl
  have HF := Hid.mk hF
  have Hsz := Hid.mk hsz
  have hs' : wrap64 ((F : Int) - least) = (F : Int) - least := w64_in (by omega) (by omega)
  have hs'' : IntKind.i64.wrap ((F : Int) - least) = (F : Int) - least := wrap_i (by omega) (by omega)
  have HL := Hid.mk hlt
  clear h h1 hf hv he hq hF hle hlt hsz k1 b1
  go_enter Tryd.func44, Tryd.ntmps44
  go_wp2
  go_quiet ((go_at_call 65; exact Calls.quiet_of (C1.out _ (by with_reducible exact (Kept.refl _ _).drewN _))))
  go_wp2_with (go_at_call 66; refine (C2.out _).mono ?_; rintro r w' ⟨rfl, rfl⟩)
  obtain ⟨w2, hw2⟩ : ∃ w2, w1.drewN nq = w2 := ⟨_, rfl⟩
  have h2 := HC.out.kp ((Kept.refl [] w1).drewN nq)
  have k2 : Kept [] w w2 := by rw [← hw2]; exact K1.out.drewN nq
  rw [hw2] at h2 ⊢
  have y8 : w2.cell? ⟨B, 8, none⟩ = some (.pointer (some ⟨O, 0, none⟩)) := (ext_cells h2.wm).2.2
  have y2 : w2.cell? ⟨B, 2, none⟩ = some (.pointer (some ⟨P, 0, none⟩)) := h2.wm.fact.c2
  have y0 : w2.cell? ⟨Q, 0, none⟩ = some (.int .i64 k) := by rw [← hw2, cell_drewN]; exact z0
  have hQ0 : Hid (∀ W', Kept [] w2 W' → W'.cell? ⟨Q, 0, none⟩ = some (.int .i64 k)) := Hid.mk (fun W' hk => by
    rw [← y0]; exact World.cell?_of_block (a := ⟨Q, 0, none⟩) (hk.block Q (World.block_lt_of_cell? w2 _ y0) (by simp)))
  have C3 := Hid.mk (fun W' (hk : Kept [] w2 W') => (param_any P k T d s.L W' (h2.wm.md.keep hk (by simp))).mono (R' := fun e w' => e = .returned (.int .i64 (po s.L k : Int)) ∧ Hid (Kept [] w2 w') ∧ w'.cell? ⟨B, 8, none⟩ = some (.pointer (some ⟨O, 0, none⟩)) ∧ w'.cell? ⟨B, 2, none⟩ = some (.pointer (some ⟨P, 0, none⟩)) ∧ w'.cell? ⟨Q, 0, none⟩ = some (.int .i64 k)) (by
    rintro e w' ⟨rfl, hk'⟩
    have hk3 := hk.trans hk'
    have h3 := h2.kp hk3
    exact ⟨rfl, Hid.mk hk3, (ext_cells h3.wm).2.2, h3.wm.fact.c2, hQ0.out _ hk3⟩))
  have C4 := Hid.mk (fun W' (hk : Kept [] w2 W') => wide_any P T d W' (h2.wm.md.keep hk (by simp)).hd hG)
  have ew : Lib.bitLen (rg T d - 1).toNat = wde T d := rfl
  rw [ew] at C4
  clear ew
  have C5 := Hid.mk (fun W' (hk : Kept [] w2 W') => show Calls Tryd.prog 67 #[.pointer (some ⟨O, 0, none⟩), .int .i64 ((F : Int) - least), .int .i64 (po s.L k : Int), .int .i64 (wde T d : Int)] W' (fun e w' => e = .returned (.int .i64 0) ∧ Hid (Cm w0 B P X G O T d D W n sb so sc f w' s (bto T d s k least q x) ∧ S98 w w') ∧ w'.cell? ⟨B, 8, none⟩ = some (.pointer (some ⟨O, 0, none⟩)) ∧ w'.cell? ⟨B, 2, none⟩ = some (.pointer (some ⟨P, 0, none⟩)) ∧ w'.cell? ⟨Q, 0, none⟩ = some (.int .i64 k)) from by
    have h3 := h2.kp hk
    obtain ⟨V, hw, hV⟩ := h3.wr
    have ha := h3.apart hw
    obtain ⟨cs, hr, hl, hc⟩ := h3.wm.row
    obtain ⟨ps, hp, _⟩ := h3.wm.md.blk
    have nB := ha B ⟨_, _, h3.wm.blk, by decide, by decide⟩
    have nG := ha G ⟨_, _, hr, by decide, by decide⟩
    have nP := ha P ⟨_, _, hp, by decide, by decide⟩
    have nX := ha X ⟨_, _, h3.wm.co.1, by decide, by decide⟩
    have hlo := h3.lo
    have hpos := h3.tab.pos
    rw [Hsz.out]
    refine (gput_any O V x.1 x.2 ((F - least : Nat) : Int) (po s.L k : Int) (wde T d : Int) W' hw (by omega) (by omega) (by omega) (by omega) (by omega) (by rw [Int.toNat_natCast, Int.toNat_natCast]; exact HL.out) (by omega)).mono ?_
    rintro e w' ⟨rfl, V', hwr, hkk, hli⟩
    rw [Int.toNat_natCast, Int.toNat_natCast, Int.toNat_natCast] at hwr
    have hm' : Wm w' B P X G 71 T d D W n (cext sb so n sc d O) s := h3.wm.keep hkk ⟨nB, nP, nX, nG⟩
    refine ⟨rfl, Hid.mk ⟨⟨hm', ⟨V', ?_, ?_⟩, h3.keep.step hkk ?_, h3.smp, h3.tab, h3.lo⟩, ?_⟩, (ext_cells hm').2.2, hm'.fact.c2, ?_⟩
    · unfold bto ap; rw [HF.out]; exact hwr
    · intro g hg
      rcases hli with h | ⟨g', hg', hl'⟩
      · rw [h] at hg; exact hV g hg
      · rw [hg'] at hg; simp at hg; subst hg
        have := h3.keep.size; omega
    · intro y hy
      right
      rcases List.mem_cons.1 hy with rfl | hy
      · omega
      · exact hV y (by simpa using hy)
    · intro Q' c hQ'
      have hQ2 := (k2.trans hk).heap hQ' (by simp)
      exact hkk.heap hQ2 (ha Q' ⟨_, _, hQ2, by decide, by decide⟩)
    · have hb : W'.heap[Q]? = some (.cells #[.int .i64 k, .int .i64 g, .int .i64 p] 103 (0, 0)) := hk.heap (by rw [← hw2]; exact HB1.out) (by simp)
      exact (agg3 (hkk.heap hb (ha Q ⟨_, _, hb, by decide, by decide⟩))).1)
  clear C1 C2 hs e6 e7 e8 c2 c5 z0 z1 z2 we hQ0 h2 hw2 k2 hQ hw1
  generalize (po s.L k : Int) = kk at *
  generalize (wde T d : Int) = ww at *
  go_region_held_law (fun w' => w'.cell? ⟨B, 8, none⟩ = some (.pointer (some ⟨O, 0, none⟩)) ∧ w'.cell? ⟨B, 2, none⟩ = some (.pointer (some ⟨P, 0, none⟩)) ∧ w'.cell? ⟨Q, 0, none⟩ = some (.int .i64 k)) (first | exact ⟨y8, y2, y0⟩ | exact ⟨t8, t2, t0⟩ | exact ⟨r8, r2, r0⟩ | go_keep) (first | (go_at_call 56; refine (C3.out _ (by with_reducible exact (Kept.refl _ _).drew)).mono ?_; rintro e w3 ⟨rfl, K3, t8, t2, t0⟩) | (go_at_call 57; refine (C4.out _ (by first | with_reducible exact (Kept.refl _ _).drew | exact K3.out)).mono ?_; rintro e w4 ⟨rfl, hw4⟩; obtain rfl := hw4.symm) | (go_at_call 67; refine (C5.out _ K3.out).mono ?_; rintro e w5 ⟨rfl, R5, r8, r2, r0⟩))
  all_goals
    clear C3 C4 C5
    go_wp2
    go_ret
    exact ⟨rfl, R5.out.1, R5.out.2⟩
end Go.Proofs.YtahoeodpjdbdkabDoor
