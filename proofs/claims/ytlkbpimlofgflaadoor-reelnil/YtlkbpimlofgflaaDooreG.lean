import Derived.Test.YtlkbpimlofgflaaDooreF
namespace Go.Proofs.YtlkbpimlofgflaaDoor
open Go.RowKit

/-- What a label's bytes begin with. -/
theorem lbl_six (s : ByteArray) (r st : Nat) (rest : List Nat) : (lbl s r st ++ rest).getD 5 0 = r ∧ (lbl s r st ++ rest).getD 6 0 = s.size := by
  unfold lbl smd lb0
  refine ⟨?_, ?_⟩ <;> simp
theorem lbl_form (s : ByteArray) (r st : Nat) : ∃ x, lbl s r st = [82, 69, 69, 76, 1, r, s.size] ++ (tb s ++ (big 4 st ++ x)) := by
  refine ⟨big 4 (Cr.sm (lb0 s r st)).toNat, ?_⟩
  conv => lhs; unfold lbl smd
  rw [show lb0 s r st = [82, 69, 69, 76, 1, r, s.size] ++ (tb s ++ big 4 st) by unfold lb0; rw [wds_one]; simp]
  simp
theorem lbl_title (s : ByteArray) (r st : Nat) (rest : List Nat) : ((lbl s r st ++ rest).drop 7).take s.size = tb s := by
  obtain ⟨x, h⟩ := lbl_form s r st
  rw [h]
  have e : [82, 69, 69, 76, 1, r, s.size] ++ (tb s ++ (big 4 st ++ x)) ++ rest = [82, 69, 69, 76, 1, r, s.size] ++ (tb s ++ ((big 4 st ++ x) ++ rest)) := by simp
  rw [e, List.drop_left' (by rfl), List.take_left' (tb_len s)]
theorem lbl_start (s : ByteArray) (r st : Nat) (rest : List Nat) (h : st < 4294967296) : num ((((lbl s r st ++ rest).drop 7).drop s.size).take 4) = st := by
  obtain ⟨x, hx⟩ := lbl_form s r st
  rw [hx]
  have e : [82, 69, 69, 76, 1, r, s.size] ++ (tb s ++ (big 4 st ++ x)) ++ rest = [82, 69, 69, 76, 1, r, s.size] ++ (tb s ++ (big 4 st ++ (x ++ rest))) := by simp
  rw [e, List.drop_left' (by rfl), List.drop_left' (tb_len s), List.take_left' (big_length _ _)]
  have := num_big_fits (st : Int) 4 (by omega) (by
    have h9 : (st : Int) / 2 ^ (8 * 4) = 0 := by omega
    rw [h9]; rfl)
  exact Int.ofNat_inj.1 (by simpa using this)

theorem results_two {fn : Func} {p u : Tmp} {ty : TypeId} (h : fn.results = #[.cell p ty, .tmp u]) (tmps : Array Value) (w : World) (g : Nat) (t : TypeId) (cs : Array Value) (fr : Nat × Nat) (fs : Array Field) (v : Value)
    (hp : tmps.getD p undef = .pointer (some ⟨g, 0, none⟩)) (hg : w.heap[g]? = some (.cells cs t fr))
    (hu : Tryd.prog.underlying ty = some (.struct fs)) (hi : (Tryd.prog.info? ty).map (·.size) = some cs.size) (hv : tmps.getD u undef = v) :
    (results fn tmps).run Tryd.prog w = .ok (.tuple #[.agg cs, v]) w := by
  rw [results_cell_tmp h, hp, hv]
  simp [asAddr, run_loadVar_row w g t ty cs fr _ hg hu rfl hi]

set_option maxHeartbeats 4000000 in
set_option maxRecDepth 1000000 in
theorem labelOf_yes (w : World) (ao : Option Addr) (m c : Nat) (s : ByteArray) (r st : Nat) (rest : List Nat) (hl : Reads w ao (lbl s r st ++ rest)) (hm : (lbl s r st ++ rest).length = m) (hc : m ≤ c) (hb : Byts rest) (hms : m ≤ 1000000) (hs : s.size ≤ 100) (hv : Txt s) (r1 : 1 ≤ r) (r2 : r ≤ 7) (hst : st ≤ 5183999) :
    Calls Tryd.prog 21 #[.slice ao m c] w fun e w' => e = .returned (.tuple #[.agg #[.string s, .int .i64 (r : Int), .int .i64 (st : Int)], .bool true]) ∧ Kept [] w w' := by
  have h6 := lbl_six s r st rest
  have hti := lbl_title s r st rest
  have hsta := lbl_start s r st rest (by omega)
  obtain ⟨n, en⟩ : ∃ n, s.size = n := ⟨_, rfl⟩
  have hml : 15 + n ≤ m := by rw [← hm, List.length_append, lbl_len]; omega
  obtain ⟨g, off, rfl, hce⟩ : ∃ g off, ao = some ⟨g, off, none⟩ ∧ ∀ i, i < (lbl s r st ++ rest).length → w.cell? ⟨g, off + i, none⟩ = some (byt ((lbl s r st ++ rest).getD i 0)) := by
    rcases hl with h | h
    · rw [h] at hm; simp at hm; omega
    · exact h
  have c5 := hce 5 (by omega)
  have c6 := hce 6 (by omega)
  rw [h6.1] at c5
  rw [h6.2, en] at c6
  obtain ⟨M1, eM⟩ : ∃ M1, m - 7 = M1 := ⟨_, rfl⟩
  obtain ⟨C1, eC⟩ : ∃ C1, c - 7 = C1 := ⟨_, rfl⟩
  have sl1 : ∀ u : World, Sem.run Tryd.prog (Instr.slice 44 (.slice (some ⟨g, off, none⟩) m c) (some (.int .i64 7)) none none) u = .ok (.slice (some ⟨g, off + 7, none⟩) M1 C1) u := fun u => by
    have h := slice_l (some ⟨g, off, none⟩) m c 7 (by omega) u
    rw [if_neg (by omega), Option.map_some, addN, eM, eC] at h
    exact h
  have sl2 : ∀ u : World, Sem.run Tryd.prog (Instr.slice 44 (.slice (some ⟨g, off + 7, none⟩) M1 C1) none (some (.int .i64 (n : Int))) none) u = .ok (.slice (some ⟨g, off + 7, none⟩) n C1) u := fun u => slice_h _ _ _ _ (by omega) u
  have hr7 := reads_cut hl 7 M1 c (by omega) (by omega)
  rw [if_neg (by omega), Option.map_some, addN, List.take_of_length_le (by simp [List.length_append] at hm ⊢; omega)] at hr7
  have hrt : Reads w (some ⟨g, off + 7, none⟩) (tb s) := by
    have := reads_cut hl 7 n c (by omega) (by omega)
    rw [if_neg (by omega), Option.map_some, addN] at this
    rw [en] at hti
    rw [hti] at this
    exact this
  have hby : Byts (lbl s r st ++ rest) := by
    refine Byts.append (smd_byts ?_) hb
    unfold lb0
    refine Byts.append (Byts.append (Byts.append (by unfold Byts; decide) ?_) (tb_byts s)) (wds_byts _)
    intro b hb
    simp at hb
    omega
  have conv : ∀ u, Kept [] w u → Sem.run Tryd.prog (convert 44 9 (.slice (some ⟨g, off + 7, none⟩) n C1)) u = .ok (.string s) u := fun u hu => by
    have := reads_str' (hrt.keep hu) (by rw [tb_len, en]) C1
    rw [bstr_tb] at this
    exact this
  have HW34 : Hid (∀ u, Kept [] w u → Calls Tryd.prog 34 #[.slice (some ⟨g, off + 7, none⟩) M1 C1, .int .i64 (n : Int)] u fun e w' => e = .returned (.int .i64 (st : Int)) ∧ w' = u) := Hid.mk (fun u hu => by
    have := word_any (some ⟨g, off + 7, none⟩) M1 C1 n _ u (hr7.keep hu) (fun b hb => hby b (List.mem_of_mem_drop hb)) (by rw [List.length_drop]; omega) (by omega) (by omega) (by omega)
    rw [en] at hsta
    rw [hsta] at this
    exact this)
  have HRd : Hid (∀ u, Kept [] w u → Reads u (some ⟨g, off, none⟩) (lbl s r st ++ rest)) := Hid.mk (fun u hu => hl.keep hu)
  obtain ⟨w1, ew1, k1, hb1⟩ := alloc_new w (.cells #[.string ⟨#[]⟩, .int .i64 0, .int .i64 0] 25 (0, 0))
  have d5 : w1.cell? ⟨g, off + 5, none⟩ = some (.int .u8 (r : Int)) := by
    rcases hl.keep k1 with h | ⟨g', o', e, h⟩
    · rw [h] at hm; simp at hm; omega
    · cases e; rw [h 5 (by omega), h6.1]; rfl
  have d6 : w1.cell? ⟨g, off + 6, none⟩ = some (.int .u8 (n : Int)) := by
    rcases hl.keep k1 with h | ⟨g', o', e, h⟩
    · rw [h] at hm; simp at hm; omega
    · cases e; rw [h 6 (by omega), h6.2, en]; rfl
  have HM := Hid.mk hm
  have HC := Hid.mk conv
  have K1 := Hid.mk k1
  have i7 : ¬ ((m : Int) < 7) := by omega
  have i8 : ¬ ((M1 : Int) < (n : Int) + 4) := by omega
  have i9 : 5 < m := by omega
  have i9' : (5 : Int) < (m : Int) := by omega
  have i10 : 6 < m := by omega
  have HB1 := Hid.mk hb1
  clear hl hr7 hrt hce h6 hti hsta hm k1 conv hb1
  have n6 := World.new_ne w ⟨g, off + 6, none⟩ c6
  unfold byt at c5 c6
  go_enter Tryd.func21, Tryd.ntmps21
  go_wp2_with (fail)
  clear c5 c6 d6 n6 i7 i8 i10 sl1 ew1
  have nd := World.new_ne w1 ⟨g, off + 5, none⟩ d5
  have cv1 := HC.out w1.drew K1.out.drew
  have cv2 := HC.out (w1.alloc (.cells #[.string ⟨#[]⟩, .int .i64 0, .int .i64 0] 25)).drew (K1.out.alloc _).drew
  have r256 : IntKind.i64.wrap (r : Int) = (r : Int) := by rw [IntKind.wrap_i64]; omega
  go_region_held_law (fun u => u.cell? ⟨g, off + 5, none⟩ = some (.int .u8 (r : Int))) (first | exact d5 | go_keep) (first | (go_at_call 34; refine (HW34.out _ (by first | with_reducible exact K1.out.drew | with_reducible exact (K1.out.alloc _).drew | with_reducible exact K1.out.drew.alloc _)).mono ?_; rintro e x ⟨rfl, hx⟩; subst hx))
  all_goals focus
    obtain ⟨w2, ew2⟩ : ∃ w2, (w1.alloc (.cells #[.string s, .int .i64 (r : Int), .int .i64 (st : Int)] 25)).drew = w2 := ⟨_, rfl⟩
    have k12 : Kept [] w1 w2 := by rw [← ew2]; exact ((Kept.refl [] w1).alloc _).drew
    have hb2 : w2.heap[w1.heap.size]? = some (.cells #[.string s, .int .i64 (r : Int), .int .i64 (st : Int)] 25 (0, 0)) := by rw [← ew2]; exact heap_alloc_new w1 _
    have hb0 := k12.heap HB1.out (by simp)
    have ld : ∀ u : World, u.heap[w1.heap.size]? = some (.cells #[.string s, .int .i64 (r : Int), .int .i64 (st : Int)] 25 (0, 0)) → u.cell? ⟨w1.heap.size, 0, none⟩ = some (.string s) ∧ u.cell? ⟨w1.heap.size, 1, none⟩ = some (.int .i64 (r : Int)) ∧ u.cell? ⟨w1.heap.size, 2, none⟩ = some (.int .i64 (st : Int)) := fun u hu => by refine ⟨?_, ?_, ?_⟩ <;> simp [World.cell?, hu]
    rw [ew2]
    have K2 := Hid.mk k12
    have HB2 := Hid.mk hb2
    have HB0 := Hid.mk hb0
    have LD := Hid.mk ld
    obtain ⟨y0, y1, y2⟩ := ld w2 hb2
    clear hb2 hb0 k12 ld ew2 cv1 cv2 nd d5 sl2 r256
    go_wp2_with (fail)
    refine (mayBe_yes w2 s r st hs hv r1 r2 hst).mono ?_
    rintro e w3 ⟨rfl, k3⟩
    have HB3 := Hid.mk (k3.heap HB2.out (by simp))
    have K3 := Hid.mk k3
    clear y0 y1 y2 k3
    obtain ⟨y0, y1, y2⟩ := LD.out w3 HB3.out
    go_wp2_with (fail)
    refine (label_any w3 s r st hs r2 (by omega)).mono ?_
    rintro e w4 ⟨v4, rfl, o4, k4, g4⟩
    have HB4 := Hid.mk (k4.heap HB3.out (by simp))
    have K4 := Hid.mk k4
    obtain ⟨bo, bc, ev, -⟩ := row_none o4
    subst ev
    have C5 := Hid.mk (prefix_yes (some ⟨g, off, none⟩) bo m c _ bc (lbl s r st) rest w4 (HRd.out w4 (((K1.out.trans K2.out).trans K3.out).trans k4)) (reads_row o4) HM.out rfl hc)
    clear y0 y1 y2 k4 o4 g4
    obtain ⟨y0, y1, y2⟩ := LD.out w4 HB4.out
    go_wp2_with (fail)
    refine C5.out.mono ?_
    rintro e w5 ⟨rfl, hw⟩
    subst hw
    have hr := ((K2.out.trans K3.out).trans K4.out).heap HB1.out (by simp)
    have HR := Hid.mk hr
    have z0 : w5.cell? ⟨w.heap.size, 0, none⟩ = some (.string ⟨#[]⟩) := by simp [World.cell?, hr]
    have z1 : w5.cell? ⟨w.heap.size, 1, none⟩ = some (.int .i64 0) := by simp [World.cell?, hr]
    have z2 : w5.cell? ⟨w.heap.size, 2, none⟩ = some (.int .i64 0) := by simp [World.cell?, hr]
    have f0 : ∀ i, w5.frozen? ⟨w.heap.size, i, none⟩ = false := fun i => by simp [World.frozen?, hr]
    clear hr
    go_wp2_with (fail)
    have hfin : (((w5.setCell ⟨w.heap.size, 0, none⟩ (.string s)).setCell ⟨w.heap.size, 1, none⟩ (.int .i64 (r : Int))).setCell ⟨w.heap.size, 2, none⟩ (.int .i64 (st : Int))).heap[w.heap.size]? = some (.cells #[.string s, .int .i64 (r : Int), .int .i64 (st : Int)] 25 (0, 0)) := by
      rw [heap_setCell_at (heap_setCell_at (heap_setCell_at HR.out))]
      simp
    have kfin : Kept [] w (((w5.setCell ⟨w.heap.size, 0, none⟩ (.string s)).setCell ⟨w.heap.size, 1, none⟩ (.int .i64 (r : Int))).setCell ⟨w.heap.size, 2, none⟩ (.int .i64 (st : Int))) := ((((K1.out.trans K2.out).trans K3.out).trans K4.out).setCell (.inr (Nat.le_refl _)) _).setCell (.inr (Nat.le_refl _)) _ |>.setCell (.inr (Nat.le_refl _)) _
    refine ⟨rfl, _, ?_, rfl, kfin⟩
    exact results_two rfl _ _ w.heap.size 25 _ (0, 0) _ _ rfl hfin Tryd.underlying25 (by kernel_rfl) rfl
end Go.Proofs.YtlkbpimlofgflaaDoor
