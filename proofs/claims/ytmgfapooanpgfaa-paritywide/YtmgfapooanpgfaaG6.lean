import Derived.Test.YtmgfapooanpgfaaG5
namespace Go.Proofs.Ytmgfapooanpgfaa
open Go.RowKit

set_option maxHeartbeats 4000000 in
set_option maxRecDepth 1000000 in
theorem copied_any (ao : Option Addr) (ca n wd : Nat) (L : List (List Nat)) (w : World) (hL : MR w ao L) (hl : L.length = n) (hn : n ≤ 256) (hwd : rl L = wd) (hw : wd ≤ 140737488355328) (ha : al L wd = true) :
    Calls Try.prog 64 #[.slice ao n ca] w fun e w' => ∃ bs, e = .returned (.slice (some ⟨w.heap.size, 0, none⟩) n n) ∧ Mt w' w.heap.size n bs wd (fn L) ∧ (∀ i, i < n → w.heap.size < bs i) ∧ Kept [] w w' := by
  have C0 := Hid.mk (rowLength_any ao ca n L w hL hl)
  rw [hwd] at C0
  have HL := Hid.mk hL
  have Hl := Hid.mk hl
  have Ha := Hid.mk ha
  clear hL hl ha hwd
  go_enter Try.func64, Try.ntmps64
  go_wp2_with (first | (go_at_call 63; refine (C0.out).mono ?_; rintro e w' ⟨rfl, hw'⟩; obtain rfl := hw'.symm))
  refine (noughts_any n wd w hn hw).mono ?_
  rintro e w2 ⟨bs, rfl, hM, hbs, hk2⟩
  obtain ⟨G, eG⟩ : ∃ G, G = w.heap.size := ⟨_, rfl⟩
  rw [← eG] at hM hbs ⊢
  have HM := Hid.mk hM
  have HB := Hid.mk hbs
  have HK2 := Hid.mk hk2
  have EG := Hid.mk eG
  clear hM hbs hk2 eG C0
  go_wp2
  go_loopw [13] (fun i wr => ∃ k : Nat, k ≤ n ∧ i = .int .i64 (k : Int) ∧ Mt wr G n bs wd (fun a c => if a < k then fn L a c else 0) ∧ Kept [] w wr) (fun i _ => n - (intOf i).toNat)
  case atStart => exact ⟨0, by omega, rfl, HM.out.congr (fun i _ j _ => if_neg (by omega)), HK2.out⟩
  case round =>
    obtain ⟨k, hk, rfl, hm, hkr⟩ := hrel
    clear HM HK2
    by_cases hlt : k < n
    · have hout := hm.out k hlt
      obtain ⟨ga, offa, ba, cpa, hao, hca0, hra⟩ := HL.out.at (i := k) (by have := Hl.out; omega)
      have hlr : (L.getD k []).length = wd := al_at Ha.out (by have := Hl.out; omega)
      have hca := cell_keep hkr hca0 (by simp)
      rw [hlr] at hca
      have hsrc := reads_src (hra.keep hkr)
      rw [hlr] at hsrc
      obtain ⟨w3, hrun, hr3, hk3⟩ := copy_run wr (bs k) wd wd ba wd cpa _ ((L.getD k []).map byt) (hm.row k hlt) (by rw [List.length_map, rg_length]) (by rw [List.length_map, hlr]) (Nat.le_refl _) hsrc (bytes_one _)
      have hrow : Row w3 (bs k) (rg (fn L k) wd) := by
        unfold Row
        rw [hr3, fn_rg hlr, List.drop_of_length_le (by rw [List.length_map, rg_length]; exact Nat.le_refl _), List.append_nil]
      have Hm3 := Hid.mk (hm.upd (G := fun a c => if a < k + 1 then fn L a c else 0) hlt hk3 (by rw [rg_congr (q := fn L k) (fun c _ => if_pos (by omega))]; exact hrow) (fun i _ hn c _ => by
        by_cases h : i < k
        · rw [if_pos (by omega), if_pos h]
        · rw [if_neg (by omega), if_neg h]))
      have Hk3 := Hid.mk (hkr.step hk3 (fun x hx => by simp at hx; subst hx; right; have := HB.out k hlt; have := EG.out; omega))
      clear hm hkr hra hlr hca0 hr3 hk3 hrow hsrc
      subst hao
      have ix : (k : Int) < (n : Int) := by omega
      go_wp2
      go_roundw
      case rel => exact ⟨k + 1, by omega, by go_num, Hm3.out, Hk3.out⟩
      case measure => simp [intOf]; omega
    · obtain rfl : k = n := by omega
      have Hm := Hid.mk hm
      have Hkr := Hid.mk hkr
      clear hm hkr
      go_wp2
      go_ret
      refine ⟨bs, by rw [← EG.out]; rfl, ?_, fun i hi => by have := HB.out i hi; have := EG.out; omega, Hkr.out⟩
      rw [← EG.out]
      exact Hm.out.congr (fun i hi j _ => (if_pos hi).symm)

theorem bel_trans {B : Nat} {a b c : World} (h : Below B a b) (k : Below B b c) : Below B a c :=
  ⟨k.os.trans h.os, k.tape.trans h.tape, k.output.trans h.output, Nat.le_trans h.size k.size, fun i hi => (k.block i hi).trans (h.block i hi)⟩

theorem sw_lt2 {a b i n : Nat} (ha : a < n) (hb : b < n) (hi : i < n) : sw a b i < n := sw_lt ha hb hi

theorem Mt.swap {w : World} {g n : Nat} {bs : Nat → Nat} {wd : Nat} {F : Nat → Nat → Nat} {a b : Nat} (h : Mt w g n bs wd F) (ha : a < n) (hb : b < n) :
    Mt ((w.setCell ⟨g, a, none⟩ (.slice (some ⟨bs b, 0, none⟩) wd wd)).setCell ⟨g, b, none⟩ (.slice (some ⟨bs a, 0, none⟩) wd wd)) g n (fun i => bs (sw a b i)) wd (fun i => F (sw a b i)) := by
  have k1 : Kept [g] w ((w.setCell ⟨g, a, none⟩ (.slice (some ⟨bs b, 0, none⟩) wd wd)).setCell ⟨g, b, none⟩ (.slice (some ⟨bs a, 0, none⟩) wd wd)) := ((Kept.refl _ _).setCell (p := ⟨g, a, none⟩) (.inl (by simp)) _).setCell (p := ⟨g, b, none⟩) (.inl (by simp)) _
  refine ⟨fun i hi => ?_, fun i hi => ?_, fun i hi => ?_, fun i hi => h.ne _ (sw_lt ha hb hi), fun i j hi hj e => sw_inj (h.inj _ _ (sw_lt ha hb hi) (sw_lt ha hb hj) e)⟩
  · have e1 : ∀ x y : Nat, x ≠ y → (⟨g, x, none⟩ : Addr) ≠ ⟨g, y, none⟩ := fun x y hn e => hn (congrArg Addr.off e)
    by_cases h1 : i = b
    · subst h1
      have h2 : ∃ u, (w.setCell ⟨g, a, none⟩ (.slice (some ⟨bs i, 0, none⟩) wd wd)).cell? ⟨g, i, none⟩ = some u := by
        by_cases e : a = i
        · subst e; exact ⟨_, World.cell?_setCell_same _ _ _ (h.out a hi)⟩
        · exact ⟨_, (World.cell?_setCell_other _ _ _ _ (e1 a i e)).trans (h.out i hi)⟩
      obtain ⟨u, hu⟩ := h2
      rw [World.cell?_setCell_same _ _ _ hu]
      have : sw a i i = a := by unfold sw; split <;> simp_all
      simp only [this]
    · rw [World.cell?_setCell_other _ _ _ _ (e1 b i (Ne.symm h1))]
      by_cases h2 : i = a
      · subst h2
        rw [World.cell?_setCell_same _ _ _ (h.out i hi), show sw i b i = b from sw_left i b]
      · rw [World.cell?_setCell_other _ _ _ _ (e1 a i (Ne.symm h2)), h.out i hi, show sw a b i = i from by simp [sw, h1, h2]]
  · rw [World.frozen?_setCell, World.frozen?_setCell]; exact h.fz i hi
  · exact (h.row _ (sw_lt ha hb hi)).keep k1 (by simpa using h.ne _ (sw_lt ha hb hi))

/-- Two matrices beside one another, from the block B on. -/
structure Tw (B : Nat) (w : World) (gl gr n : Nat) (bl br : Nat → Nat) (wl wr : Nat) (X Y : Nat → Nat → Nat) : Prop where
  l : Mt w gl n bl wl X
  r : Mt w gr n br wr Y
  g : gl ≠ gr
  lg : ∀ i, i < n → bl i ≠ gr
  rg : ∀ i, i < n → br i ≠ gl
  lr : ∀ i j, i < n → j < n → bl i ≠ br j
  b1 : B ≤ gl
  b2 : B ≤ gr
  b3 : ∀ i, i < n → B ≤ bl i
  b4 : ∀ i, i < n → B ≤ br i

theorem Tw.keep0 {B : Nat} {w w' : World} {gl gr n : Nat} {bl br : Nat → Nat} {wl wr : Nat} {X Y : Nat → Nat → Nat} (h : Tw B w gl gr n bl br wl wr X Y) (hk : Kept [] w w') : Tw B w' gl gr n bl br wl wr X Y :=
  ⟨h.l.keep0 hk, h.r.keep0 hk, h.g, h.lg, h.rg, h.lr, h.b1, h.b2, h.b3, h.b4⟩
theorem Tw.updL {B : Nat} {w w' : World} {gl gr n : Nat} {bl br : Nat → Nat} {wl wr : Nat} {X Y Z : Nat → Nat → Nat} {k : Nat} (h : Tw B w gl gr n bl br wl wr X Y) (hk : k < n) (hw : Kept [bl k] w w') (hr : Row w' (bl k) (_root_.Go.Proofs.Ytmgfapooanpgfaa.rg (Z k) wl))
    (hF : ∀ i, i < n → i ≠ k → ∀ j, j < wl → Z i j = X i j) : Tw B w' gl gr n bl br wl wr Z Y :=
  ⟨h.l.upd hk hw hr hF, h.r.keep hw (fun _ => by simpa using (h.lg k hk).symm) (fun i hi => by simpa using (h.lr k i hk hi).symm), h.g, h.lg, h.rg, h.lr, h.b1, h.b2, h.b3, h.b4⟩
theorem Tw.updR {B : Nat} {w w' : World} {gl gr n : Nat} {bl br : Nat → Nat} {wl wr : Nat} {X Y Z : Nat → Nat → Nat} {k : Nat} (h : Tw B w gl gr n bl br wl wr X Y) (hk : k < n) (hw : Kept [br k] w w') (hr : Row w' (br k) (_root_.Go.Proofs.Ytmgfapooanpgfaa.rg (Z k) wr))
    (hF : ∀ i, i < n → i ≠ k → ∀ j, j < wr → Z i j = Y i j) : Tw B w' gl gr n bl br wl wr X Z :=
  ⟨h.l.keep hw (fun _ => by simpa using (h.rg k hk).symm) (fun i hi => by simpa using h.lr i k hi hk), h.r.upd hk hw hr hF, h.g, h.lg, h.rg, h.lr, h.b1, h.b2, h.b3, h.b4⟩

set_option maxHeartbeats 4000000 in
set_option maxRecDepth 1000000 in
theorem exchange_any (B gl gr n wl wr' a b cl cr : Nat) (bl br : Nat → Nat) (X Y : Nat → Nat → Nat) (w : World) (h : Tw B w gl gr n bl br wl wr' X Y) (ha : a < n) (hb : b < n) :
    Calls Try.prog 65 #[.slice (some ⟨gl, 0, none⟩) n cl, .slice (some ⟨gr, 0, none⟩) n cr, .int .i64 (a : Int), .int .i64 (b : Int)] w fun e w' => e = .returned (.tuple #[]) ∧
      Tw B w' gl gr n (fun i => bl (sw a b i)) (fun i => br (sw a b i)) wl wr' (fun i => X (sw a b i)) (fun i => Y (sw a b i)) ∧ Below B w w' := by
  have a1 := h.l.out a ha
  have a2 := h.l.out b hb
  have a3 := h.r.out a ha
  have a4 := h.r.out b hb
  have f1 := h.l.fz a ha
  have f2 := h.l.fz b hb
  have f3 := h.r.fz a ha
  have f4 := h.r.fz b hb
  have H := Hid.mk h
  have i1 : (a : Int) < (n : Int) := by omega
  have i2 : (b : Int) < (n : Int) := by omega
  have hg1 : ¬ gl = gr := h.g
  have hg2 : ¬ gr = gl := fun e => hg1 e.symm
  clear h
  have fin : Hid (∀ w', w' = ((((w.setCell ⟨gl, a, none⟩ (.slice (some ⟨bl b, 0, none⟩) wl wl)).setCell ⟨gl, b, none⟩ (.slice (some ⟨bl a, 0, none⟩) wl wl)).setCell ⟨gr, a, none⟩ (.slice (some ⟨br b, 0, none⟩) wr' wr')).setCell ⟨gr, b, none⟩ (.slice (some ⟨br a, 0, none⟩) wr' wr')).drew.drew →
      Tw B w' gl gr n (fun i => bl (sw a b i)) (fun i => br (sw a b i)) wl wr' (fun i => X (sw a b i)) (fun i => Y (sw a b i)) ∧ Below B w w') := Hid.mk (by
    rintro _ rfl
    have h := H.out
    have k1 : Kept [gl] w ((w.setCell ⟨gl, a, none⟩ (.slice (some ⟨bl b, 0, none⟩) wl wl)).setCell ⟨gl, b, none⟩ (.slice (some ⟨bl a, 0, none⟩) wl wl)) := ((Kept.refl _ _).setCell (p := ⟨gl, a, none⟩) (.inl (by simp)) _).setCell (p := ⟨gl, b, none⟩) (.inl (by simp)) _
    have m1 := h.l.swap ha hb
    have m2 := (h.r.keep k1 (fun _ => by simpa using hg2) (fun i hi => by simpa using h.rg i hi)).swap ha hb
    have k2 := (((Kept.refl [gr] ((w.setCell ⟨gl, a, none⟩ (.slice (some ⟨bl b, 0, none⟩) wl wl)).setCell ⟨gl, b, none⟩ (.slice (some ⟨bl a, 0, none⟩) wl wl))).setCell (p := ⟨gr, a, none⟩) (.inl (by simp)) (.slice (some ⟨br b, 0, none⟩) wr' wr')).setCell (p := ⟨gr, b, none⟩) (.inl (by simp)) (.slice (some ⟨br a, 0, none⟩) wr' wr'))
    have k3 := ((Kept.refl [] ((((w.setCell ⟨gl, a, none⟩ (.slice (some ⟨bl b, 0, none⟩) wl wl)).setCell ⟨gl, b, none⟩ (.slice (some ⟨bl a, 0, none⟩) wl wl)).setCell ⟨gr, a, none⟩ (.slice (some ⟨br b, 0, none⟩) wr' wr')).setCell ⟨gr, b, none⟩ (.slice (some ⟨br a, 0, none⟩) wr' wr'))).drew).drew
    have m3 := m1.keep k2 (fun _ => by simpa using hg1) (fun i hi => by simpa using h.lg _ (sw_lt ha hb hi))
    have size1 : B ≤ w.heap.size := Nat.le_trans h.b1 (Nat.le_of_lt (h.l.glt (by omega)))
    refine ⟨⟨m3.keep0 k3, m2.keep0 k3, h.g, fun i hi => h.lg _ (sw_lt ha hb hi), fun i hi => h.rg _ (sw_lt ha hb hi), fun i j hi hj => h.lr _ _ (sw_lt ha hb hi) (sw_lt ha hb hj), h.b1, h.b2, fun i hi => h.b3 _ (sw_lt ha hb hi), fun i hi => h.b4 _ (sw_lt ha hb hi)⟩, ?_⟩
    refine bel_trans (k1.below size1 (fun x hx => by simp at hx; subst hx; exact h.b1)) (bel_trans (k2.below (Nat.le_trans size1 k1.size) (fun x hx => by simp at hx; subst hx; exact h.b2)) (k3.below (Nat.le_trans (Nat.le_trans size1 k1.size) k2.size) (by simp))))
  by_cases hab : a = b
  · subst hab
    go_enter Try.func65, Try.ntmps65
    go_wp2
    go_region_law (fail)
    all_goals go_wp2
    all_goals go_region_law (fail)
    all_goals go_wp2
    all_goals go_end0
    all_goals exact ⟨rfl, fin.out _ rfl⟩
  · go_enter Try.func65, Try.ntmps65
    go_wp2
    go_region_law (fail)
    all_goals go_wp2
    all_goals go_region_law (fail)
    all_goals go_wp2
    all_goals go_end0
    all_goals exact ⟨rfl, fin.out _ rfl⟩
end Go.Proofs.Ytmgfapooanpgfaa
