import Derived.Test.YtahoeodpjdbdkaaDoorSe
namespace Go.Proofs.YtahoeodpjdbdkaaDoor
open Go.RowKit

/-- Samples that are read. -/
def Smp (w : World) (sb so n : Nat) (f : Nat → Int) : Prop := ∀ i, i < n → w.cell? ⟨sb, so + i, none⟩ = some (.int .u16 (f i))

abbrev cext (sb so n sc : Nat) (d : Int) (O : Nat) : List Value := [.slice (some ⟨sb, so, none⟩) n sc, .int .i64 d, .pointer (some ⟨O, 0, none⟩)]

/-- A coder in memory. -/
structure Cm (w0 : World) (B P X G O : Nat) (T d D : Int) (W n sb so sc : Nat) (f : Nat → Int) (w : World) (s : Wk) (x : Nat × Nat) : Prop where
  wm : Wm w B P X G 65 T d D W n (cext sb so n sc d O) s
  wr : ∃ V, WriterAt w O V x.1 x.2 ∧ (∀ g, V.ownBlock = some g → w0.heap.size ≤ g)
  keep : Kept [] w0 w
  smp : Smp w0 sb so n f
  tab : Tab w0
  lo : w0.heap.size ≤ B ∧ w0.heap.size ≤ P ∧ w0.heap.size ≤ X ∧ w0.heap.size ≤ G ∧ w0.heap.size ≤ O

theorem Smp.keep {w w' : World} {sb so n : Nat} {f : Nat → Int} {ks : List Nat} (h : Smp w sb so n f) (hk : Kept ks w w') (h0 : sb ∉ ks) : Smp w' sb so n f := by
  intro i hi
  have := h i hi
  rw [← this]
  exact World.cell?_of_block (a := ⟨sb, so + i, none⟩) (hk.block sb (World.block_lt_of_cell? w _ this) h0)

theorem ext_cells {w : World} {B P X G : Nat} {T d D : Int} {W n sb so sc O : Nat} {s : Wk} (h : Wm w B P X G 65 T d D W n (cext sb so n sc d O) s) :
    w.cell? ⟨B, 6, none⟩ = some (.slice (some ⟨sb, so, none⟩) n sc) ∧ w.cell? ⟨B, 7, none⟩ = some (.int .i64 d) ∧ w.cell? ⟨B, 8, none⟩ = some (.pointer (some ⟨O, 0, none⟩)) := by
  have hb := h.blk
  refine ⟨?_, ?_, ?_⟩ <;> simp [World.cell?, hb]

set_option maxHeartbeats 2000000 in
set_option maxRecDepth 100000 in
theorem near_any (B : Nat) (d a v : Int) (w : World) (h7 : w.cell? ⟨B, 7, none⟩ = some (.int .i64 d)) (a0 : 0 ≤ a) (a1 : a ≤ 65535) (v0 : 0 ≤ v) (v1 : v ≤ 65535) :
    Calls Tryd.prog 64 #[.pointer (some ⟨B, 0, none⟩), .int .i64 a, .int .i64 v] w fun e w' => e = .returned (.bool (nea d a v)) ∧ w' = w := by
  by_cases h1 : v - a ≤ d
  · by_cases h2 : a - v ≤ d
    · rw [(nea_iff _ _ _).2 ⟨h1, h2⟩]
      go_enter Tryd.func64, Tryd.ntmps64
      go_wp2
      go_ret
      exact ⟨rfl, rfl⟩
    · have e : nea d a v = false := by unfold nea; rw [decide_eq_false]; omega
      rw [e]
      go_enter Tryd.func64, Tryd.ntmps64
      go_wp2
      go_ret
      exact ⟨rfl, rfl⟩
  · have e : nea d a v = false := by unfold nea; rw [decide_eq_false]; omega
    rw [e]
    go_enter Tryd.func64, Tryd.ntmps64
    go_wp2
    go_ret
    exact ⟨rfl, rfl⟩

/-- What drives a coder. -/
def cdr (T d : Int) (W : Nat) (f : Nat → Int) : Drv (Nat × Nat) where
  run s x m x' := m = rnl f (nA T W s.b s.t) d s.t (rom W s.t) ∧ x' = btr W s m x
  one s k g p least x q x' := q = shr T d (g * (f s.t - p)) ∧ x' = bto T d s k least q x
  runB _ _ := False
  oneB _ _ _ _ _ _ := False

theorem Cm.w98 {w0 : World} {B P X G O : Nat} {T d D : Int} {W n sb so sc : Nat} {f : Nat → Int} {w : World} {s : Wk} {x : Nat × Nat} (h : Cm w0 B P X G O T d D W n sb so sc f w s x) : 0 < w0.heap.size := h.tab.pos

set_option maxHeartbeats 4000000 in
set_option maxRecDepth 1000000 in
theorem crun_any (w0 : World) (B P X G O : Nat) (T d D : Int) (W n sb so sc : Nat) (f : Nat → Int) (w : World) (s : Wk) (x : Nat × Nat) (h : Cm w0 B P X G O T d D W n sb so sc f w s x) (a : Int) (rm : Nat) (a0 : 0 ≤ a) (a1 : a ≤ 4095) (hr1 : 1 ≤ rm) (hr2 : rm ≤ 4096) (hrt : s.t + rm ≤ n) (hn : n ≤ 4194304) (hf : ∀ i, 0 ≤ f i ∧ f i ≤ 4095) (hx : x.2 ≤ 1000000000000) :
    Calls Tryd.prog 44 #[.pointer (some ⟨B, 0, none⟩), .int .i64 a, .int .i64 (rm : Int)] w fun e w' =>
      ∃ (m : Nat), e = .returned (.int .i64 (m : Int)) ∧ m = rnl f a d s.t rm ∧ Cm w0 B P X G O T d D W n sb so sc f w' ⟨s.L, rr s.r m rm, s.b, s.t⟩ (ap x (rw_ s.r m rm) (rf s.r m rm)) ∧ S98 w w' := by
  have HC := Hid.mk h
  have Hf := Hid.mk hf
  have hne := h.wm.ne
  have hlo := h.lo
  have hpos := h.tab.pos
  clear h hf
  go_enter Tryd.func44, Tryd.ntmps44
  go_wp2
  go_loopw [7] (fun i wr => ∃ (k : Nat), k ≤ rm ∧ i = .int .i64 (k : Int) ∧ Hid (∀ j, j < k → nea d a (f (s.t + j)) = true) ∧ Kept [] w wr) (fun i _ => rm - (intOf i).toNat)
  case atStart => exact ⟨0, by omega, rfl, Hid.mk (by omega), Kept.refl _ _⟩
  case round =>
    obtain ⟨k, hk, rfl, hall, hkw⟩ := hrel
    have hm := HC.out.wm.keep hkw (by simp)
    obtain ⟨e6, e7, e8⟩ := ext_cells hm
    obtain ⟨-, -, -, c3, -, c5, -⟩ := hm.fact
    have hS := (HC.out.smp.keep HC.out.keep (by simp)).keep hkw (by simp)
    have HK := Hid.mk hkw
    clear hkw
    have hend : ∀ wr2, Kept [] w wr2 → Hid (rnl f a d s.t rm = k) → Hid (Calls Tryd.prog 65 #[.pointer (some ⟨X, 0, none⟩), .pointer (some ⟨O, 0, none⟩), .int .i64 (k : Int), .int .i64 (rm : Int)] wr2 fun e w' => e = .returned (.int .i64 0) ∧ Hid (Cm w0 B P X G O T d D W n sb so sc f w' ⟨s.L, rr s.r k rm, s.b, s.t⟩ (ap x (rw_ s.r k rm) (rf s.r k rm)) ∧ S98 w w') ∧ w'.cell? ⟨B, 3, none⟩ = some (.pointer (some ⟨X, 0, none⟩)) ∧ w'.cell? ⟨B, 8, none⟩ = some (.pointer (some ⟨O, 0, none⟩))) := by
      intro wr2 hk2 _
      have h2 := HC.out.wm.keep hk2 (by simp)
      obtain ⟨V, hw, hV⟩ := HC.out.wr
      have hw2 : WriterAt wr2 O V x.1 x.2 := hw.kept hk2 (by simp) (by simp)
      obtain ⟨cs, hr, hl, hc⟩ := h2.row
      obtain ⟨ps, hp, _⟩ := h2.md.blk
      have oB : O ≠ B := ne_ty hw2.1 h2.blk (by decide)
      have oP : O ≠ P := ne_ty hw2.1 hp (by decide)
      have oX : O ≠ X := ne_ty hw2.1 h2.co.1 (by decide)
      have oG : O ≠ G := ne_ty hw2.1 hr (by decide)
      refine Hid.mk ((rput_any X O V x.1 x.2 s.r (k : Int) (rm : Int) wr2 h2.co hw2 (HC.out.tab.kept (HC.out.keep.trans hk2) (by simp)) (by omega) (by omega) (fun e => by have := hV 0 e; omega) (by omega) (by omega) (by omega) (by omega) (by omega)).mono ?_)
      rintro e w' ⟨rfl, V', hco, hwr, hkk, hli⟩
      rw [Int.toNat_natCast, Int.toNat_natCast] at hco hwr
      have vB : ∀ b, (∃ c t, wr2.heap[b]? = some (.cells c t (0, 0)) ∧ t ≠ 5) → b ∉ V.ownBlock.toList := by
        intro b ⟨c, t, hb, ht⟩ hm
        have hvb : V.ownBlock = some b := by simpa using hm
        exact own_ne hb ht hw2.2 hvb
      have nB : B ∉ X :: O :: V.ownBlock.toList := by
        have := vB B ⟨_, _, h2.blk, by decide⟩
        simp only [List.mem_cons, not_or]; exact ⟨by omega, by omega, this⟩
      have nP : P ∉ X :: O :: V.ownBlock.toList := by
        have := vB P ⟨_, _, hp, by decide⟩
        simp only [List.mem_cons, not_or]; exact ⟨by omega, by omega, this⟩
      have nG : G ∉ X :: O :: V.ownBlock.toList := by
        have := vB G ⟨_, _, hr, by decide⟩
        simp only [List.mem_cons, not_or]; exact ⟨by omega, by omega, this⟩
      have hm' : Wm w' B P X G 65 T d D W n (cext sb so n sc d O) ⟨s.L, rr s.r k rm, s.b, s.t⟩ := ⟨hkk.heap h2.blk nB, h2.md.keep hkk nP, hco, ⟨cs, hkk.heap hr nG, hl, hc⟩, h2.ty⟩
      have k0 : Kept [] w0 w' := (HC.out.keep.trans hk2).step hkk (fun y hy => by
        right
        rcases List.mem_cons.1 hy with rfl | hy
        · omega
        · rcases List.mem_cons.1 hy with rfl | hy
          · omega
          · exact hV y (by simpa using hy))
      refine ⟨rfl, Hid.mk ⟨⟨hm', ⟨V', hwr, ?_⟩, k0, HC.out.smp, HC.out.tab, HC.out.lo⟩, ?_⟩, hm'.fact.c3, (ext_cells hm').2.2⟩
      · intro g hg
        rcases hli with h | ⟨g', hg', hl'⟩
        · rw [h] at hg; exact hV g hg
        · rw [hg'] at hg; simp at hg; subst hg
          have := (HC.out.keep.trans hk2).size; omega
      · intro Q c hQ
        have hQ2 := hk2.heap hQ (by simp)
        refine hkk.heap hQ2 ?_
        have := vB Q ⟨_, _, hQ2, by decide⟩
        simp only [List.mem_cons, not_or]
        exact ⟨ne_ty hQ2 h2.co.1 (by decide), ne_ty hQ2 hw2.1 (by decide), this⟩
    by_cases hlt : k < rm
    · have hlt' : (k : Int) < (rm : Int) := by omega
      have hs := hS (s.t + k) (by omega)
      have fv := Hf.out (s.t + k)
      obtain ⟨v, hv⟩ : ∃ v, f (s.t + k) = v := ⟨_, rfl⟩
      rw [hv] at hs fv
      have Hv := Hid.mk hv
      have C := Hid.mk (fun W' (hk : wr.cell? ⟨B, 7, none⟩ = W'.cell? ⟨B, 7, none⟩) => near_any B d a v W' (by rw [← hk]; exact e7) a0 (by omega) fv.1 (by omega))
      have ix : (s.t : Int) + k < n := by omega
      have ix0 : (0 : Int) ≤ (s.t : Int) + k := by omega
      have et : ((s.t : Int) + k).toNat = s.t + k := by omega
      have hs : wr.cell? ⟨sb, so + ((s.t : Int) + k).toNat, none⟩ = some (.int .u16 v) := by rw [et]; exact hs
      have wv : IntKind.i64.wrap v = v := wrap_i (by omega) (by omega)
      clear hv et hS hm
      by_cases hnv : nea d a v = true
      · rw [hnv] at C
        have Hnv := Hid.mk hnv
        clear hend hnv
        go_wp2
        go_quiet ((go_at_call 64; exact Calls.quiet_of_same (C.out _ (by simp))))
        go_wp2
        go_roundw
        case rel =>
          refine ⟨k + 1, by omega, by go_num, Hid.mk (fun j hj => ?_), HK.out.drewN _⟩
          by_cases e : j = k
          · subst e; rw [Hv.out]; exact Hnv.out
          · exact hall.out j (by omega)
        case measure => simp [intOf]; omega
      · have hnv' : nea d a v = false := by simpa using hnv
        rw [hnv'] at C
        have hR : Hid (rnl f a d s.t rm = k) := Hid.mk (rnl_is _ _ _ _ _ _ hk hall.out (fun _ => by rw [Hv.out]; exact hnv'))
        have HE := Hid.mk (fun q => hend (wr.drewN q).drew (HK.out.drewN q).drew hR)
        clear hend hnv hnv'
        go_wp2
        go_quiet ((go_at_call 64; exact Calls.quiet_of_same (C.out _ (by simp))))
        go_wp2
        go_region_held_law (fun w' => w'.cell? ⟨B, 3, none⟩ = some (.pointer (some ⟨X, 0, none⟩)) ∧ w'.cell? ⟨B, 8, none⟩ = some (.pointer (some ⟨O, 0, none⟩))) (first | exact ⟨c3, e8⟩ | exact ⟨t3, t8⟩ | go_keep) (first | (go_at_call 65; refine ((HE.out _).out).mono ?_; rintro e w3 ⟨rfl, R3, t3, t8⟩))
        go_wp2
        go_ret
        exact ⟨_, rfl, hR.out.symm, R3.out.1, R3.out.2⟩
    · obtain rfl : rm = k := by omega
      have hlt' : ¬ (rm : Int) < (rm : Int) := by omega
      have hR : Hid (rnl f a d s.t rm = rm) := Hid.mk (rnl_is _ _ _ _ _ _ hk hall.out (by omega))
      have HE := Hid.mk (fun q => hend (wr.drewN q).drew (HK.out.drewN q).drew hR)
      clear hend hS hm hlt
      go_wp2
      go_quiet (fail)
      go_wp2
      go_region_held_law (fun w' => w'.cell? ⟨B, 3, none⟩ = some (.pointer (some ⟨X, 0, none⟩)) ∧ w'.cell? ⟨B, 8, none⟩ = some (.pointer (some ⟨O, 0, none⟩))) (first | exact ⟨c3, e8⟩ | exact ⟨t3, t8⟩ | go_keep) (first | (go_at_call 65; refine ((HE.out _).out).mono ?_; rintro e w3 ⟨rfl, R3, t3, t8⟩))
      go_wp2
      go_ret
      exact ⟨_, rfl, hR.out.symm, R3.out.1, R3.out.2⟩
end Go.Proofs.YtahoeodpjdbdkaaDoor
