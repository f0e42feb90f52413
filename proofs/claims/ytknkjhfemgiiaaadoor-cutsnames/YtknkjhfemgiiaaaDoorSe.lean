import Derived.Test.YtknkjhfemgiiaaaDoorSb
namespace Go.Proofs.YtknkjhfemgiiaaaDoor
open Go.RowKit Go.Lib

theorem ScP.le {B b : Nat} {w w' : World} {s : Sn} (h : ScP B b w w' s) : w.heap.size ≤ w'.heap.size := by obtain ⟨_, _, _, _, h⟩ := h; exact h.size
set_option maxHeartbeats 4000000 in
set_option maxRecDepth 1000000 in
theorem goOn_any (B b : Nat) (r : Int) (w : World) (s : Sn) (vw vs : Value) (sy : ByteArray) (h : Sc B w b s vw vs sy) (hB : B ≤ w.heap.size) (hn : s.ws.length ≤ 100000) (hm : s.sg.length ≤ 100000) :
    Calls Tryd.prog 20 #[.pointer (some ⟨b, 0, none⟩), .int .i32 r] w fun e w' => e = .returned (.tuple #[]) ∧ ScP B b w w' (snG s r) := by
  have CB := Hid.mk (fun u => isBlank_any r u)
  by_cases hb : blk r = true
  · have e1 : snG s r = snE s := by simp [snG, hb]
    rw [hb] at CB
    rw [e1]
    have CE := Hid.mk (end_any B b w s vw vs sy h hB hn)
    clear h hb e1
    go_enter Tryd.func20, Tryd.ntmps20
    go_wp2_with (first | (go_at_call 43; refine (CB.out _).mono ?_; rintro e w' ⟨rfl, rfl⟩) | (go_at_call 44; refine CE.out.mono ?_; rintro e w2 ⟨rfl, h2⟩))
    refine bodyPost_ret (v := .tuple #[]) (results_none rfl _ _ _) rfl ?_
    exact ⟨rfl, h2⟩
  · have hb' : blk r = false := by simpa using hb
    have e1 : snG s r = snP s r := by simp [snG, hb']
    rw [hb'] at CB
    rw [e1]
    obtain ⟨g', c', w6, hrun, x5, z5, S6, B6⟩ := h.app hB r hm
    obtain ⟨-, -, -, -, -, d5⟩ := h.cells
    have HS6 := Hid.mk S6
    have HK6 := Hid.mk B6
    clear S6 B6 h hb hb' e1
    go_enter Tryd.func20, Tryd.ntmps20
    go_wp2_with (first | (go_at_call 43; refine (CB.out _).mono ?_; rintro e w' ⟨rfl, rfl⟩) | (at_builtin; refine wpList_app_eq' rfl _ _ 65 rfl _ _ _ _ rfl rfl hrun ?_))
    go_end0
    exact ⟨rfl, _, _, _, HS6.out, HK6.out⟩

set_option maxHeartbeats 4000000 in
set_option maxRecDepth 1000000 in
theorem goOnText_any (B b : Nat) (r : Int) (w : World) (s : Sn) (vw vs : Value) (sy : ByteArray) (h : Sc B w b s vw vs sy) (hB : B ≤ w.heap.size) (hn : s.ws.length ≤ 100000) (hm : s.sg.length ≤ 100000) :
    Calls Tryd.prog 21 #[.pointer (some ⟨b, 0, none⟩), .int .i32 r] w fun e w' => e = .returned (.tuple #[]) ∧ ScP B b w w' (snT s r) := by
  unfold snT
  by_cases h34 : r = 34
  · rw [if_pos h34]
    subst h34
    have CE := Hid.mk (end_any B b w s vw vs sy h hB hn)
    clear h
    go_enter Tryd.func21, Tryd.ntmps21
    go_wp2_with (go_at_call 44; refine CE.out.mono ?_; rintro e w2 ⟨rfl, h2⟩)
    go_end0
    exact ⟨rfl, h2⟩
  · rw [if_neg h34]
    by_cases h92 : r = 92
    · rw [if_pos h92]
      subst h92
      obtain ⟨d0, -⟩ := h.cells
      have g0 := h.fz 0
      obtain ⟨S2, K2⟩ := h.set (s' := { s with st := 3 }) (vw' := vw) (vs' := vs) (sy' := sy) 0 (.int .i64 3) rfl h.wr h.sr
      have HS := Hid.mk S2
      have HK := Hid.mk (K2.bb hB)
      clear S2 K2 h
      go_enter Tryd.func21, Tryd.ntmps21
      go_wp2
      go_end0
      exact ⟨rfl, _, _, _, HS.out, HK.out⟩
    · rw [if_neg h92]
      obtain ⟨g', c', w6, hrun, x5, z5, S6, B6⟩ := h.app hB r hm
      obtain ⟨-, -, -, -, -, d5⟩ := h.cells
      have HS6 := Hid.mk S6
      have HK6 := Hid.mk B6
      clear S6 B6 h
      go_enter Tryd.func21, Tryd.ntmps21
      go_wp2_with (at_builtin; refine wpList_app_eq' rfl _ _ 65 rfl _ _ _ _ rfl rfl hrun ?_)
      go_end0
      exact ⟨rfl, _, _, _, HS6.out, HK6.out⟩

set_option maxHeartbeats 4000000 in
set_option maxRecDepth 1000000 in
theorem unescape_any (B b : Nat) (r : Int) (w : World) (s : Sn) (vw vs : Value) (sy : ByteArray) (h : Sc B w b s vw vs sy) (hB : B ≤ w.heap.size) (hm : s.sg.length ≤ 100000) :
    Calls Tryd.prog 22 #[.pointer (some ⟨b, 0, none⟩), .int .i32 r] w fun e w' => e = .returned (.tuple #[]) ∧ ScP B b w w' (snU s r) := by
  unfold snU
  obtain ⟨d0, -⟩ := h.cells
  have g0 := h.fz 0
  obtain ⟨S2, K2⟩ := h.set (s' := { s with st := 2 }) (vw' := vw) (vs' := vs) (sy' := sy) 0 (.int .i64 2) rfl h.wr h.sr
  obtain ⟨w1, e1⟩ : ∃ w1, w.setCell ⟨b, 0, none⟩ (.int .i64 2) = w1 := ⟨_, rfl⟩
  rw [e1] at S2 K2
  have hB1 : B ≤ w1.heap.size := Nat.le_trans hB K2.size
  have HK := Hid.mk (K2.bb hB)
  clear h K2
  by_cases h34 : r = 34 ∨ r = 92
  · rw [if_pos h34]
    obtain ⟨g', c', w6, hrun, x5, z5, S6, B6⟩ := S2.app hB1 r hm
    obtain ⟨-, -, -, -, -, d5⟩ := S2.cells
    have HS6 := Hid.mk S6
    have HK6 := Hid.mk (HK.out.trans B6)
    clear S6 B6 S2
    rcases h34 with h34 | h34
    · subst h34
      go_enter Tryd.func22, Tryd.ntmps22
      go_wp2_with (at_builtin; refine wpList_app_eq' rfl _ _ 65 rfl _ _ _ _ rfl rfl hrun ?_)
      go_end0
      exact ⟨rfl, _, _, _, HS6.out, HK6.out⟩
    · subst h34
      go_enter Tryd.func22, Tryd.ntmps22
      go_wp2_with (at_builtin; refine wpList_app_eq' rfl _ _ 65 rfl _ _ _ _ rfl rfl hrun ?_)
      go_end0
      exact ⟨rfl, _, _, _, HS6.out, HK6.out⟩
  · rw [if_neg h34]
    have h34a : ¬ r = 34 := fun h => h34 (.inl h)
    have h92 : ¬ r = 92 := fun h => h34 (.inr h)
    clear h34
    by_cases h110 : r = 110
    · rw [if_pos h110]
      subst h110
      obtain ⟨g', c', w6, hrun, x5, z5, S6, B6⟩ := S2.app hB1 10 hm
      obtain ⟨-, -, -, -, -, d5⟩ := S2.cells
      have HS6 := Hid.mk S6
      have HK6 := Hid.mk (HK.out.trans B6)
      clear S6 B6 S2
      go_enter Tryd.func22, Tryd.ntmps22
      go_wp2_with (at_builtin; refine wpList_app_eq' rfl _ _ 65 rfl _ _ _ _ rfl rfl hrun ?_)
      go_end0
      exact ⟨rfl, _, _, _, HS6.out, HK6.out⟩
    · rw [if_neg h110]
      obtain ⟨-, -, d2, -⟩ := S2.cells
      have g2 := S2.fz 2
      obtain ⟨S3, K3⟩ := S2.set (s' := { s with st := 2, kd := 2 }) (vw' := vw) (vs' := vs) (sy' := sy) 2 (.int .i64 2) rfl S2.wr S2.sr
      have HS := Hid.mk S3
      have HK2 := Hid.mk (HK.out.trans (K3.bb hB1))
      clear S3 K3 S2
      go_enter Tryd.func22, Tryd.ntmps22
      go_wp2
      go_end0
      exact ⟨rfl, _, _, _, HS.out, HK2.out⟩
end Go.Proofs.YtknkjhfemgiiaaaDoor
