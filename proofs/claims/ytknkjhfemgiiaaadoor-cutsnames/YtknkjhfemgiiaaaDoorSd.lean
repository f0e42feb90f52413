import Derived.Test.YtknkjhfemgiiaaaDoorSb
namespace Go.Proofs.YtknkjhfemgiiaaaDoor
open Go.RowKit Go.Lib

set_option maxHeartbeats 4000000 in
set_option maxRecDepth 1000000 in
theorem begin_blank (B b : Nat) (p r : Int) (w : World) (s : Sn) (vw vs : Value) (sy : ByteArray) (h : Sc B w b s vw vs sy) (hb : blk r = true) :
    Calls Tryd.prog 19 #[.pointer (some ⟨b, 0, none⟩), .int .i64 p, .int .i32 r] w fun e w' => e = .returned (.tuple #[]) ∧ ScP B b w w' s := by
  have CB := Hid.mk (fun u => isBlank_any r u)
  rw [hb] at CB
  have HS := Hid.mk (And.intro h (Bx.refl B b w))
  clear h hb
  go_enter Tryd.func19, Tryd.ntmps19
  go_wp2_with (go_at_call 43; refine (CB.out _).mono ?_; rintro e w' ⟨rfl, rfl⟩)
  refine bodyPost_ret (v := .tuple #[]) (results_none rfl _ _ _) rfl ?_
  exact ⟨rfl, _, _, _, HS.out.1, HS.out.2⟩

set_option maxHeartbeats 4000000 in
set_option maxRecDepth 1000000 in
theorem begin_text (B b : Nat) (p r : Int) (w : World) (s : Sn) (vw vs : Value) (sy : ByteArray) (h : Sc B w b s vw vs sy) (hB : B ≤ w.heap.size) (hb : blk r = false) (h34 : r = 34) :
    Calls Tryd.prog 19 #[.pointer (some ⟨b, 0, none⟩), .int .i64 p, .int .i32 r] w fun e w' => e = .returned (.tuple #[]) ∧ ScP B b w w' ⟨2, s.ws, 1, p, []⟩ := by
  subst h34
  have CB := Hid.mk (fun u => isBlank_any 34 u)
  rw [hb] at CB
  obtain ⟨a0, c9, rfl, hn9, hc9, -, hf9⟩ := row_form2 h.sr
  have hm9 : c9 ≤ 9223372036854775807 := by
    rcases h.sr.2 with ⟨h1, _⟩ | ⟨_, _, _, h1, _, _, _, h2, _⟩
    · simp at h1; omega
    · simp at h1; unfold maxLen at h2; omega
  obtain ⟨c0, c1, c2, c3, c4, c5⟩ := h.cells
  have f5 := h.fz 5
  obtain ⟨S1, K1⟩ := h.set (s' := ⟨s.st, s.ws, s.kd, s.pl, []⟩) (vw' := vw) (vs' := .slice a0 0 c9) (sy' := sy) 5 (.slice a0 0 c9) rfl h.wr (row_nil h.sr)
  obtain ⟨w1, e1⟩ : ∃ w1, w.setCell ⟨b, 5, none⟩ (.slice a0 0 c9) = w1 := ⟨_, rfl⟩
  rw [e1] at S1 K1
  have HS := Hid.mk S1
  have HK := Hid.mk (K1.bb hB)
  have hB1 : B ≤ w1.heap.size := Nat.le_trans hB K1.size
  clear S1 K1 h hb
  cases a0 with
  | none =>
    obtain rfl := hn9 rfl
    have hz : s.sg.length = 0 := by omega
    rw [hz] at c5
    clear hn9 hc9 hf9 hz hm9
    go_enter Tryd.func19, Tryd.ntmps19
    go_wp2_with (fail)
    refine (CB.out _).mono ?_
    rintro e w' ⟨rfl, rfl⟩
    go_upto_region 2 with (fail)
    clear c0 c1 c2 c3 c4 c5 f5 e1
    obtain ⟨d0, d1, d2, d3, d4, d5⟩ := HS.out.cells
    have g0 := HS.out.fz 0
    have g2 := HS.out.fz 2
    have g3 := HS.out.fz 3
    have g4 := HS.out.fz 4
    obtain ⟨S2, K2⟩ := HS.out.set (s' := ⟨2, s.ws, s.kd, s.pl, []⟩) (vw' := vw) (vs' := .slice none 0 0) (sy' := sy) 0 (.int .i64 2) rfl HS.out.wr HS.out.sr
    obtain ⟨S3, K3⟩ := S2.set (s' := ⟨2, s.ws, 1, s.pl, []⟩) (vw' := vw) (vs' := .slice none 0 0) (sy' := sy) 2 (.int .i64 1) rfl S2.wr S2.sr
    obtain ⟨S4, K4⟩ := S3.set (s' := ⟨2, s.ws, 1, p, []⟩) (vw' := vw) (vs' := .slice none 0 0) (sy' := sy) 3 (.int .i64 p) rfl S3.wr S3.sr
    obtain ⟨S5, K5⟩ := S4.set (s' := ⟨2, s.ws, 1, p, []⟩) (vw' := vw) (vs' := .slice none 0 0) (sy' := ⟨#[]⟩) 4 (.string ⟨#[]⟩) rfl S4.wr S4.sr
    have HK5 := Hid.mk (HK.out.trans ((((K2.trans K3).trans K4).trans K5).bb hB1))
    have HS5 := Hid.mk S5
    clear S2 S3 S4 S5 K2 K3 K4 K5
    go_wp2_with (fail)
    refine bodyPost_ret (v := .tuple #[]) (results_none rfl _ _ _) rfl ?_
    exact ⟨rfl, _, _, _, HS5.out, HK5.out⟩
  | some a =>
    obtain ⟨g, rfl⟩ := hf9 a rfl
    clear hn9 hf9
    go_enter Tryd.func19, Tryd.ntmps19
    go_wp2_with (fail)
    refine (CB.out _).mono ?_
    rintro e w' ⟨rfl, rfl⟩
    go_upto_region 2 with (fail)
    clear c0 c1 c2 c3 c4 c5 f5 e1
    obtain ⟨d0, d1, d2, d3, d4, d5⟩ := HS.out.cells
    have g0 := HS.out.fz 0
    have g2 := HS.out.fz 2
    have g3 := HS.out.fz 3
    have g4 := HS.out.fz 4
    obtain ⟨S2, K2⟩ := HS.out.set (s' := ⟨2, s.ws, s.kd, s.pl, []⟩) (vw' := vw) (vs' := .slice (some ⟨g, 0, none⟩) 0 c9) (sy' := sy) 0 (.int .i64 2) rfl HS.out.wr HS.out.sr
    obtain ⟨S3, K3⟩ := S2.set (s' := ⟨2, s.ws, 1, s.pl, []⟩) (vw' := vw) (vs' := .slice (some ⟨g, 0, none⟩) 0 c9) (sy' := sy) 2 (.int .i64 1) rfl S2.wr S2.sr
    obtain ⟨S4, K4⟩ := S3.set (s' := ⟨2, s.ws, 1, p, []⟩) (vw' := vw) (vs' := .slice (some ⟨g, 0, none⟩) 0 c9) (sy' := sy) 3 (.int .i64 p) rfl S3.wr S3.sr
    obtain ⟨S5, K5⟩ := S4.set (s' := ⟨2, s.ws, 1, p, []⟩) (vw' := vw) (vs' := .slice (some ⟨g, 0, none⟩) 0 c9) (sy' := ⟨#[]⟩) 4 (.string ⟨#[]⟩) rfl S4.wr S4.sr
    have HK5 := Hid.mk (HK.out.trans ((((K2.trans K3).trans K4).trans K5).bb hB1))
    have HS5 := Hid.mk S5
    clear S2 S3 S4 S5 K2 K3 K4 K5
    go_wp2_with (fail)
    refine bodyPost_ret (v := .tuple #[]) (results_none rfl _ _ _) rfl ?_
    exact ⟨rfl, _, _, _, HS5.out, HK5.out⟩

set_option maxHeartbeats 4000000 in
set_option maxRecDepth 1000000 in
theorem begin_word (B b : Nat) (p r : Int) (w : World) (s : Sn) (vw vs : Value) (sy : ByteArray) (h : Sc B w b s vw vs sy) (hB : B ≤ w.heap.size) (hb : blk r = false) (h34 : r ≠ 34) :
    Calls Tryd.prog 19 #[.pointer (some ⟨b, 0, none⟩), .int .i64 p, .int .i32 r] w fun e w' => e = .returned (.tuple #[]) ∧ ScP B b w w' ⟨1, s.ws, 0, p, [r]⟩ := by
  have hne := h34
  have CB := Hid.mk (fun u => isBlank_any r u)
  rw [hb] at CB
  obtain ⟨a0, c9, rfl, hn9, hc9, -, hf9⟩ := row_form2 h.sr
  have hm9 : c9 ≤ 9223372036854775807 := by
    rcases h.sr.2 with ⟨h1, _⟩ | ⟨_, _, _, h1, _, _, _, h2, _⟩
    · simp at h1; omega
    · simp at h1; unfold maxLen at h2; omega
  obtain ⟨c0, c1, c2, c3, c4, c5⟩ := h.cells
  have f5 := h.fz 5
  obtain ⟨S1, K1⟩ := h.set (s' := ⟨s.st, s.ws, s.kd, s.pl, []⟩) (vw' := vw) (vs' := .slice a0 0 c9) (sy' := sy) 5 (.slice a0 0 c9) rfl h.wr (row_nil h.sr)
  obtain ⟨w1, e1⟩ : ∃ w1, w.setCell ⟨b, 5, none⟩ (.slice a0 0 c9) = w1 := ⟨_, rfl⟩
  rw [e1] at S1 K1
  have HS := Hid.mk S1
  have HK := Hid.mk (K1.bb hB)
  have hB1 : B ≤ w1.heap.size := Nat.le_trans hB K1.size
  clear S1 K1 h hb
  cases a0 with
  | none =>
    obtain rfl := hn9 rfl
    have hz : s.sg.length = 0 := by omega
    rw [hz] at c5
    clear hn9 hc9 hf9 hz hm9
    go_enter Tryd.func19, Tryd.ntmps19
    go_wp2_with (fail)
    refine (CB.out _).mono ?_
    rintro e w' ⟨rfl, rfl⟩
    go_upto_region 2 with (fail)
    clear c0 c1 c2 c3 c4 c5 f5 e1
    obtain ⟨d0, d1, d2, d3, d4, d5⟩ := HS.out.cells
    have g0 := HS.out.fz 0
    have g2 := HS.out.fz 2
    have g3 := HS.out.fz 3
    have g4 := HS.out.fz 4
    obtain ⟨S2, K2⟩ := HS.out.set (s' := ⟨1, s.ws, s.kd, s.pl, []⟩) (vw' := vw) (vs' := .slice none 0 0) (sy' := sy) 0 (.int .i64 1) rfl HS.out.wr HS.out.sr
    obtain ⟨S3, K3⟩ := S2.set (s' := ⟨1, s.ws, 0, s.pl, []⟩) (vw' := vw) (vs' := .slice none 0 0) (sy' := sy) 2 (.int .i64 0) rfl S2.wr S2.sr
    obtain ⟨S4, K4⟩ := S3.set (s' := ⟨1, s.ws, 0, p, []⟩) (vw' := vw) (vs' := .slice none 0 0) (sy' := sy) 3 (.int .i64 p) rfl S3.wr S3.sr
    obtain ⟨S5, K5⟩ := S4.set (s' := ⟨1, s.ws, 0, p, []⟩) (vw' := vw) (vs' := .slice none 0 0) (sy' := ⟨#[]⟩) 4 (.string ⟨#[]⟩) rfl S4.wr S4.sr
    have HK5 := Hid.mk (HK.out.trans ((((K2.trans K3).trans K4).trans K5).bb hB1))
    have HS5 := Hid.mk S5
    clear S2 S3 S4 S5 K2 K3 K4 K5
    go_upto_region 5 with (fail)
    clear d0 d1 d2 d3 d4 d5 g0 g2 g3 g4 HS
    generalize hw5 : World.setCell _ _ _ = w5 at *
    have hB5 : B ≤ w5.heap.size := Nat.le_trans hB HK5.out.size
    obtain ⟨g', c', w6, hrun, x5, z5, S6, B6⟩ := HS5.out.app hB5 r (by simp)
    obtain ⟨d0, d1, d2, d3, d4, d5⟩ := HS5.out.cells
    have HS6 := Hid.mk S6
    have HK6 := Hid.mk (HK5.out.trans B6)
    clear S6 B6 d0 d1 d2 d3 d4
    go_wp2_with (at_builtin; refine wpList_app_eq' rfl _ _ 65 rfl _ _ _ _ rfl rfl hrun ?_)
    go_end0
    exact ⟨rfl, _, _, _, HS6.out, HK6.out⟩
  | some a =>
    obtain ⟨g, rfl⟩ := hf9 a rfl
    clear hn9 hf9
    go_enter Tryd.func19, Tryd.ntmps19
    go_wp2_with (fail)
    refine (CB.out _).mono ?_
    rintro e w' ⟨rfl, rfl⟩
    go_upto_region 2 with (fail)
    clear c0 c1 c2 c3 c4 c5 f5 e1
    obtain ⟨d0, d1, d2, d3, d4, d5⟩ := HS.out.cells
    have g0 := HS.out.fz 0
    have g2 := HS.out.fz 2
    have g3 := HS.out.fz 3
    have g4 := HS.out.fz 4
    obtain ⟨S2, K2⟩ := HS.out.set (s' := ⟨1, s.ws, s.kd, s.pl, []⟩) (vw' := vw) (vs' := .slice (some ⟨g, 0, none⟩) 0 c9) (sy' := sy) 0 (.int .i64 1) rfl HS.out.wr HS.out.sr
    obtain ⟨S3, K3⟩ := S2.set (s' := ⟨1, s.ws, 0, s.pl, []⟩) (vw' := vw) (vs' := .slice (some ⟨g, 0, none⟩) 0 c9) (sy' := sy) 2 (.int .i64 0) rfl S2.wr S2.sr
    obtain ⟨S4, K4⟩ := S3.set (s' := ⟨1, s.ws, 0, p, []⟩) (vw' := vw) (vs' := .slice (some ⟨g, 0, none⟩) 0 c9) (sy' := sy) 3 (.int .i64 p) rfl S3.wr S3.sr
    obtain ⟨S5, K5⟩ := S4.set (s' := ⟨1, s.ws, 0, p, []⟩) (vw' := vw) (vs' := .slice (some ⟨g, 0, none⟩) 0 c9) (sy' := ⟨#[]⟩) 4 (.string ⟨#[]⟩) rfl S4.wr S4.sr
    have HK5 := Hid.mk (HK.out.trans ((((K2.trans K3).trans K4).trans K5).bb hB1))
    have HS5 := Hid.mk S5
    clear S2 S3 S4 S5 K2 K3 K4 K5
    go_upto_region 5 with (fail)
    clear d0 d1 d2 d3 d4 d5 g0 g2 g3 g4 HS
    generalize hw5 : World.setCell _ _ _ = w5 at *
    have hB5 : B ≤ w5.heap.size := Nat.le_trans hB HK5.out.size
    obtain ⟨g', c', w6, hrun, x5, z5, S6, B6⟩ := HS5.out.app hB5 r (by simp)
    obtain ⟨d0, d1, d2, d3, d4, d5⟩ := HS5.out.cells
    have HS6 := Hid.mk S6
    have HK6 := Hid.mk (HK5.out.trans B6)
    clear S6 B6 d0 d1 d2 d3 d4
    go_wp2_with (at_builtin; refine wpList_app_eq' rfl _ _ 65 rfl _ _ _ _ rfl rfl hrun ?_)
    go_end0
    exact ⟨rfl, _, _, _, HS6.out, HK6.out⟩

theorem begin_any (B b : Nat) (p r : Int) (w : World) (s : Sn) (vw vs : Value) (sy : ByteArray) (h : Sc B w b s vw vs sy) (hB : B ≤ w.heap.size) :
    Calls Tryd.prog 19 #[.pointer (some ⟨b, 0, none⟩), .int .i64 p, .int .i32 r] w fun e w' => e = .returned (.tuple #[]) ∧ ScP B b w w' (snB s p r) := by
  unfold snB
  by_cases hb : blk r = true
  · rw [if_pos hb]; exact begin_blank B b p r w s vw vs sy h hb
  · rw [if_neg hb]
    have hb' : blk r = false := by simpa using hb
    by_cases h34 : r = 34
    · rw [if_pos h34]; exact begin_text B b p r w s vw vs sy h hB hb' h34
    · rw [if_neg h34]; exact begin_word B b p r w s vw vs sy h hB hb' h34
end Go.Proofs.YtknkjhfemgiiaaaDoor
