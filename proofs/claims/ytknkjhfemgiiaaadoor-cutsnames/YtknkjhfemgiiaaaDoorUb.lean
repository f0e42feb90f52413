import Derived.Test.YtknkjhfemgiiaaaDoorUa
namespace Go.Proofs.YtknkjhfemgiiaaaDoor
open Go.RowKit Go.Lib

/-- What is wrong with an event, by the day and by what is left ahead. -/
def ceE (day L : Int) (x : Evt) : Int :=
  if nmB x.reel = false then 193 else if x.inn < 0 ∨ x.out ≤ x.inn ∨ day ≤ x.out then 194 else if x.fade < 0 ∨ 100 < x.fade ∨ x.out - x.inn < x.fade ∨ L < x.fade then 195 else ntE x.note
/-- An error that is an *EventError. -/
def Ee (w : World) (ev : Value) : Option (Int × Int) → Prop
  | none => ev = .nilIface
  | some x => ∃ Q, ev = .iface 80 (.pointer (some ⟨Q, 0, none⟩)) ∧ w.heap[Q]? = some (.cells #[.int .i64 x.1, .int .i64 x.2] 85 (0, 0))
theorem Ee.keep {w w' : World} {v : Value} {er : Option (Int × Int)} (h : Ee w v er) (hk : Kept [] w w') : Ee w' v er := by
  cases er with
  | none => exact h
  | some x => obtain ⟨Q, h1, h2⟩ := h; exact ⟨Q, h1, hk.heap h2 (by simp)⟩
def eo (i E : Int) : Option (Int × Int) := if E = 0 then none else some (i, E)
def CeP (i E : Int) (w : World) (e : Ending) (w' : World) : Prop := ∃ v, e = .returned v ∧ Ee w' v (eo i E) ∧ Kept [] w w'
theorem CeP.fault {i E : Int} {w w1 : World} (hE : E ≠ 0) (hk : Kept [] w w1) : CeP i E w (.returned (.iface 80 (.pointer (some ⟨w1.heap.size, 0, none⟩)))) (w1.alloc (.cells #[.int .i64 i, .int .i64 E] 85 (0, 0))) := by
  refine ⟨_, rfl, ?_, hk.alloc _⟩
  unfold eo
  rw [if_neg hE]
  exact ⟨_, rfl, heap_alloc_new _ _⟩
theorem CeP.ok {i : Int} {w w1 : World} (hk : Kept [] w w1) : CeP i 0 w (.returned .nilIface) w1 := ⟨_, rfl, rfl, hk⟩
set_option maxHeartbeats 8000000 in
set_option maxRecDepth 1000000 in
theorem ce_name (t : ByteArray) (r : Int) (g o c i : Nat) (l : List Evt) (x : Evt) (w : World) (hR : EvR w g o l) (hx : l[i]? = some x) (hr : Rt r) (hT : Tb w) (hU : Ut w) (hs : x.reel.size ≤ maxLen) (hs2 : x.note.size ≤ maxLen) (L : Int) (hL : ∀ u, Kept [] w u → Calls Tryd.prog 41 #[clv t r (some ⟨g, o, none⟩) l.length c, .int .i64 i] u fun e w' => e = .returned (.int .i64 L) ∧ Kept [] u w') (hm : nmB x.reel = false) :
    Calls Tryd.prog 18 #[clv t r (some ⟨g, o, none⟩) l.length c, .int .i64 i] w fun e w' => CeP i 193 w e w' := by
  have hj : i < l.length := (List.getElem?_eq_some_iff.1 hx).1
  obtain ⟨n, en⟩ : ∃ n, l.length = n := ⟨_, rfl⟩
  rw [en] at hj hL ⊢
  obtain ⟨w1, e1⟩ : ∃ w1, w.alloc (.cells #[.string t, .int .i64 r, .slice (some ⟨g, o, none⟩) n c] 26 (0, 0)) = w1 := ⟨_, rfl⟩
  have k1 : Kept [] w w1 := by rw [← e1]; exact alloc_kept _ _
  have b1 := heap_alloc_new w (.cells #[.string t, .int .i64 r, .slice (some ⟨g, o, none⟩) n c] 26 (0, 0))
  rw [e1] at b1
  obtain ⟨x0, x1, x2⟩ := cut_cells b1
  obtain ⟨y0, y1, y2, y3, y4⟩ := (hR.keep k1) i x hx
  obtain ⟨reel, inn, out, fade, note⟩ := x
  simp only at y0 y1 y2 y3 y4 hs hs2 hm
  obtain ⟨w2, e2⟩ : ∃ w2, w1.alloc (.cells #[.string reel, .int .i64 inn, .int .i64 out, .int .i64 fade, .string note] 34 (0, 0)) = w2 := ⟨_, rfl⟩
  have k2 : Kept [] w1 w2 := by rw [← e2]; exact alloc_kept _ _
  have b2 := heap_alloc_new w1 (.cells #[.string reel, .int .i64 inn, .int .i64 out, .int .i64 fade, .string note] 34 (0, 0))
  rw [e2] at b2
  have hji : (i : Int) < (n : Int) := by omega
  have CP := Hid.mk (PerDay_yes r w2 hr ((hT.keep k1).keep k2))
  have CI : Hid (∀ u, Calls Tryd.prog 40 #[.string reel] u fun e w' => e = .returned (.bool (nmB reel)) ∧ Kept [] u w') := Hid.mk (fun u => isName_any reel u hs)
  have HX := Hid.mk (And.intro (k2.heap b1 (by simp)) b2)
  have K2 := Hid.mk (k1.trans k2)
  have CT := Hid.mk (fun u hu => checkNote_any note u hs2 (hU.keep hu))
  have HL := Hid.mk hL
  obtain ⟨z0, z1⟩ := cut_cells (k2.heap b1 (by simp))
  unfold clv
  clear hR hx k1 b1 k2 b2 hT hU hs hs2 hL en hr
  rw [hm] at CI
  go_enter Tryd.func18, Tryd.ntmps18
  go_wp2_with (fail)
  refine CP.out.mono ?_
  rintro e w3 ⟨rfl, k3⟩
  have c3 := k3.heap HX.out.2 (by simp)
  obtain ⟨m0, m1, m2, m3, m4⟩ := ev_cells c3
  have K3 := Hid.mk (K2.out.trans k3)
  have HC3 := Hid.mk (And.intro (k3.heap HX.out.1 (by simp)) c3)
  have CI3 := Hid.mk (CI.out w3)
  clear k3 c3 x0 x1 x2 y0 y1 y2 y3 y4 z0 z1 CP CI e1 e2
  go_wp2_with (fail)
  refine CI3.out.mono ?_
  rintro e w4 ⟨rfl, k4⟩
  have c4 := k4.heap HC3.out.2 (by simp)
  have d4 := k4.heap HC3.out.1 (by simp)
  have K4 := Hid.mk (K3.out.trans k4)
  clear m0 m1 m2 m3 m4
  obtain ⟨m0, m1, m2, m3, m4⟩ := ev_cells c4
  obtain ⟨q0, q1, q2⟩ := cut_cells d4
  have HC4 := Hid.mk (And.intro d4 c4)
  clear k4 c4 d4 CI3
  go_wp2
  go_ret
  exact CeP.fault (by decide) K4.out
set_option maxHeartbeats 8000000 in
set_option maxRecDepth 1000000 in
theorem ce_time1 (t : ByteArray) (r : Int) (g o c i : Nat) (l : List Evt) (x : Evt) (w : World) (hR : EvR w g o l) (hx : l[i]? = some x) (hr : Rt r) (hT : Tb w) (hU : Ut w) (hs : x.reel.size ≤ maxLen) (hs2 : x.note.size ≤ maxLen) (L : Int) (hL : ∀ u, Kept [] w u → Calls Tryd.prog 41 #[clv t r (some ⟨g, o, none⟩) l.length c, .int .i64 i] u fun e w' => e = .returned (.int .i64 L) ∧ Kept [] u w') (hm : nmB x.reel = true) (ht : x.inn < 0) :
    Calls Tryd.prog 18 #[clv t r (some ⟨g, o, none⟩) l.length c, .int .i64 i] w fun e w' => CeP i 194 w e w' := by
  have hj : i < l.length := (List.getElem?_eq_some_iff.1 hx).1
  obtain ⟨n, en⟩ : ∃ n, l.length = n := ⟨_, rfl⟩
  rw [en] at hj hL ⊢
  obtain ⟨w1, e1⟩ : ∃ w1, w.alloc (.cells #[.string t, .int .i64 r, .slice (some ⟨g, o, none⟩) n c] 26 (0, 0)) = w1 := ⟨_, rfl⟩
  have k1 : Kept [] w w1 := by rw [← e1]; exact alloc_kept _ _
  have b1 := heap_alloc_new w (.cells #[.string t, .int .i64 r, .slice (some ⟨g, o, none⟩) n c] 26 (0, 0))
  rw [e1] at b1
  obtain ⟨x0, x1, x2⟩ := cut_cells b1
  obtain ⟨y0, y1, y2, y3, y4⟩ := (hR.keep k1) i x hx
  obtain ⟨reel, inn, out, fade, note⟩ := x
  simp only at y0 y1 y2 y3 y4 hs hs2 hm ht
  obtain ⟨w2, e2⟩ : ∃ w2, w1.alloc (.cells #[.string reel, .int .i64 inn, .int .i64 out, .int .i64 fade, .string note] 34 (0, 0)) = w2 := ⟨_, rfl⟩
  have k2 : Kept [] w1 w2 := by rw [← e2]; exact alloc_kept _ _
  have b2 := heap_alloc_new w1 (.cells #[.string reel, .int .i64 inn, .int .i64 out, .int .i64 fade, .string note] 34 (0, 0))
  rw [e2] at b2
  have hji : (i : Int) < (n : Int) := by omega
  have CP := Hid.mk (PerDay_yes r w2 hr ((hT.keep k1).keep k2))
  have CI : Hid (∀ u, Calls Tryd.prog 40 #[.string reel] u fun e w' => e = .returned (.bool (nmB reel)) ∧ Kept [] u w') := Hid.mk (fun u => isName_any reel u hs)
  have HX := Hid.mk (And.intro (k2.heap b1 (by simp)) b2)
  have K2 := Hid.mk (k1.trans k2)
  have CT := Hid.mk (fun u hu => checkNote_any note u hs2 (hU.keep hu))
  have HL := Hid.mk hL
  obtain ⟨z0, z1⟩ := cut_cells (k2.heap b1 (by simp))
  unfold clv
  clear hR hx k1 b1 k2 b2 hT hU hs hs2 hL en hr
  rw [hm] at CI
  go_enter Tryd.func18, Tryd.ntmps18
  go_wp2_with (fail)
  refine CP.out.mono ?_
  rintro e w3 ⟨rfl, k3⟩
  have c3 := k3.heap HX.out.2 (by simp)
  obtain ⟨m0, m1, m2, m3, m4⟩ := ev_cells c3
  have K3 := Hid.mk (K2.out.trans k3)
  have HC3 := Hid.mk (And.intro (k3.heap HX.out.1 (by simp)) c3)
  have CI3 := Hid.mk (CI.out w3)
  clear k3 c3 x0 x1 x2 y0 y1 y2 y3 y4 z0 z1 CP CI e1 e2
  go_wp2_with (fail)
  refine CI3.out.mono ?_
  rintro e w4 ⟨rfl, k4⟩
  have c4 := k4.heap HC3.out.2 (by simp)
  have d4 := k4.heap HC3.out.1 (by simp)
  have K4 := Hid.mk (K3.out.trans k4)
  clear m0 m1 m2 m3 m4
  obtain ⟨m0, m1, m2, m3, m4⟩ := ev_cells c4
  obtain ⟨q0, q1, q2⟩ := cut_cells d4
  have HC4 := Hid.mk (And.intro d4 c4)
  clear k4 c4 d4 CI3
  go_wp2
  go_ret
  exact CeP.fault (by decide) K4.out
set_option maxHeartbeats 8000000 in
set_option maxRecDepth 1000000 in
theorem ce_time2 (t : ByteArray) (r : Int) (g o c i : Nat) (l : List Evt) (x : Evt) (w : World) (hR : EvR w g o l) (hx : l[i]? = some x) (hr : Rt r) (hT : Tb w) (hU : Ut w) (hs : x.reel.size ≤ maxLen) (hs2 : x.note.size ≤ maxLen) (L : Int) (hL : ∀ u, Kept [] w u → Calls Tryd.prog 41 #[clv t r (some ⟨g, o, none⟩) l.length c, .int .i64 i] u fun e w' => e = .returned (.int .i64 L) ∧ Kept [] u w') (hm : nmB x.reel = true) (ht : 0 ≤ x.inn ∧ x.out ≤ x.inn) :
    Calls Tryd.prog 18 #[clv t r (some ⟨g, o, none⟩) l.length c, .int .i64 i] w fun e w' => CeP i 194 w e w' := by
  have hj : i < l.length := (List.getElem?_eq_some_iff.1 hx).1
  obtain ⟨n, en⟩ : ∃ n, l.length = n := ⟨_, rfl⟩
  rw [en] at hj hL ⊢
  obtain ⟨w1, e1⟩ : ∃ w1, w.alloc (.cells #[.string t, .int .i64 r, .slice (some ⟨g, o, none⟩) n c] 26 (0, 0)) = w1 := ⟨_, rfl⟩
  have k1 : Kept [] w w1 := by rw [← e1]; exact alloc_kept _ _
  have b1 := heap_alloc_new w (.cells #[.string t, .int .i64 r, .slice (some ⟨g, o, none⟩) n c] 26 (0, 0))
  rw [e1] at b1
  obtain ⟨x0, x1, x2⟩ := cut_cells b1
  obtain ⟨y0, y1, y2, y3, y4⟩ := (hR.keep k1) i x hx
  obtain ⟨reel, inn, out, fade, note⟩ := x
  simp only at y0 y1 y2 y3 y4 hs hs2 hm ht
  obtain ⟨w2, e2⟩ : ∃ w2, w1.alloc (.cells #[.string reel, .int .i64 inn, .int .i64 out, .int .i64 fade, .string note] 34 (0, 0)) = w2 := ⟨_, rfl⟩
  have k2 : Kept [] w1 w2 := by rw [← e2]; exact alloc_kept _ _
  have b2 := heap_alloc_new w1 (.cells #[.string reel, .int .i64 inn, .int .i64 out, .int .i64 fade, .string note] 34 (0, 0))
  rw [e2] at b2
  have hji : (i : Int) < (n : Int) := by omega
  have CP := Hid.mk (PerDay_yes r w2 hr ((hT.keep k1).keep k2))
  have CI : Hid (∀ u, Calls Tryd.prog 40 #[.string reel] u fun e w' => e = .returned (.bool (nmB reel)) ∧ Kept [] u w') := Hid.mk (fun u => isName_any reel u hs)
  have HX := Hid.mk (And.intro (k2.heap b1 (by simp)) b2)
  have K2 := Hid.mk (k1.trans k2)
  have CT := Hid.mk (fun u hu => checkNote_any note u hs2 (hU.keep hu))
  have HL := Hid.mk hL
  obtain ⟨z0, z1⟩ := cut_cells (k2.heap b1 (by simp))
  unfold clv
  clear hR hx k1 b1 k2 b2 hT hU hs hs2 hL en hr
  rw [hm] at CI
  go_enter Tryd.func18, Tryd.ntmps18
  go_wp2_with (fail)
  refine CP.out.mono ?_
  rintro e w3 ⟨rfl, k3⟩
  have c3 := k3.heap HX.out.2 (by simp)
  obtain ⟨m0, m1, m2, m3, m4⟩ := ev_cells c3
  have K3 := Hid.mk (K2.out.trans k3)
  have HC3 := Hid.mk (And.intro (k3.heap HX.out.1 (by simp)) c3)
  have CI3 := Hid.mk (CI.out w3)
  clear k3 c3 x0 x1 x2 y0 y1 y2 y3 y4 z0 z1 CP CI e1 e2
  go_wp2_with (fail)
  refine CI3.out.mono ?_
  rintro e w4 ⟨rfl, k4⟩
  have c4 := k4.heap HC3.out.2 (by simp)
  have d4 := k4.heap HC3.out.1 (by simp)
  have K4 := Hid.mk (K3.out.trans k4)
  clear m0 m1 m2 m3 m4
  obtain ⟨m0, m1, m2, m3, m4⟩ := ev_cells c4
  obtain ⟨q0, q1, q2⟩ := cut_cells d4
  have HC4 := Hid.mk (And.intro d4 c4)
  clear k4 c4 d4 CI3
  have t1 : ¬ inn < 0 := by omega
  have t2 : out ≤ inn := ht.2
  go_wp2
  go_ret
  exact CeP.fault (by decide) K4.out
set_option maxHeartbeats 8000000 in
set_option maxRecDepth 1000000 in
theorem ce_time3 (t : ByteArray) (r : Int) (g o c i : Nat) (l : List Evt) (x : Evt) (w : World) (hR : EvR w g o l) (hx : l[i]? = some x) (hr : Rt r) (hT : Tb w) (hU : Ut w) (hs : x.reel.size ≤ maxLen) (hs2 : x.note.size ≤ maxLen) (L : Int) (hL : ∀ u, Kept [] w u → Calls Tryd.prog 41 #[clv t r (some ⟨g, o, none⟩) l.length c, .int .i64 i] u fun e w' => e = .returned (.int .i64 L) ∧ Kept [] u w') (hm : nmB x.reel = true) (ht : 0 ≤ x.inn ∧ x.inn < x.out ∧ dy r ≤ x.out) :
    Calls Tryd.prog 18 #[clv t r (some ⟨g, o, none⟩) l.length c, .int .i64 i] w fun e w' => CeP i 194 w e w' := by
  have hj : i < l.length := (List.getElem?_eq_some_iff.1 hx).1
  obtain ⟨n, en⟩ : ∃ n, l.length = n := ⟨_, rfl⟩
  rw [en] at hj hL ⊢
  obtain ⟨w1, e1⟩ : ∃ w1, w.alloc (.cells #[.string t, .int .i64 r, .slice (some ⟨g, o, none⟩) n c] 26 (0, 0)) = w1 := ⟨_, rfl⟩
  have k1 : Kept [] w w1 := by rw [← e1]; exact alloc_kept _ _
  have b1 := heap_alloc_new w (.cells #[.string t, .int .i64 r, .slice (some ⟨g, o, none⟩) n c] 26 (0, 0))
  rw [e1] at b1
  obtain ⟨x0, x1, x2⟩ := cut_cells b1
  obtain ⟨y0, y1, y2, y3, y4⟩ := (hR.keep k1) i x hx
  obtain ⟨reel, inn, out, fade, note⟩ := x
  simp only at y0 y1 y2 y3 y4 hs hs2 hm ht
  obtain ⟨w2, e2⟩ : ∃ w2, w1.alloc (.cells #[.string reel, .int .i64 inn, .int .i64 out, .int .i64 fade, .string note] 34 (0, 0)) = w2 := ⟨_, rfl⟩
  have k2 : Kept [] w1 w2 := by rw [← e2]; exact alloc_kept _ _
  have b2 := heap_alloc_new w1 (.cells #[.string reel, .int .i64 inn, .int .i64 out, .int .i64 fade, .string note] 34 (0, 0))
  rw [e2] at b2
  have hji : (i : Int) < (n : Int) := by omega
  have CP := Hid.mk (PerDay_yes r w2 hr ((hT.keep k1).keep k2))
  have CI : Hid (∀ u, Calls Tryd.prog 40 #[.string reel] u fun e w' => e = .returned (.bool (nmB reel)) ∧ Kept [] u w') := Hid.mk (fun u => isName_any reel u hs)
  have HX := Hid.mk (And.intro (k2.heap b1 (by simp)) b2)
  have K2 := Hid.mk (k1.trans k2)
  have CT := Hid.mk (fun u hu => checkNote_any note u hs2 (hU.keep hu))
  have HL := Hid.mk hL
  obtain ⟨z0, z1⟩ := cut_cells (k2.heap b1 (by simp))
  unfold clv
  clear hR hx k1 b1 k2 b2 hT hU hs hs2 hL en hr
  rw [hm] at CI
  go_enter Tryd.func18, Tryd.ntmps18
  go_wp2_with (fail)
  refine CP.out.mono ?_
  rintro e w3 ⟨rfl, k3⟩
  have c3 := k3.heap HX.out.2 (by simp)
  obtain ⟨m0, m1, m2, m3, m4⟩ := ev_cells c3
  have K3 := Hid.mk (K2.out.trans k3)
  have HC3 := Hid.mk (And.intro (k3.heap HX.out.1 (by simp)) c3)
  have CI3 := Hid.mk (CI.out w3)
  clear k3 c3 x0 x1 x2 y0 y1 y2 y3 y4 z0 z1 CP CI e1 e2
  go_wp2_with (fail)
  refine CI3.out.mono ?_
  rintro e w4 ⟨rfl, k4⟩
  have c4 := k4.heap HC3.out.2 (by simp)
  have d4 := k4.heap HC3.out.1 (by simp)
  have K4 := Hid.mk (K3.out.trans k4)
  clear m0 m1 m2 m3 m4
  obtain ⟨m0, m1, m2, m3, m4⟩ := ev_cells c4
  obtain ⟨q0, q1, q2⟩ := cut_cells d4
  have HC4 := Hid.mk (And.intro d4 c4)
  clear k4 c4 d4 CI3
  have t1 : ¬ inn < 0 := by omega
  have t2 : ¬ out ≤ inn := by omega
  have t3 : dy r ≤ out := ht.2.2
  go_wp2
  go_ret
  exact CeP.fault (by decide) K4.out
theorem dy_top (r : Int) : dy r ≤ 6000000 := by
  unfold dy rc rl
  repeat' split
  all_goals omega
set_option maxHeartbeats 8000000 in
set_option maxRecDepth 1000000 in
theorem ce_fade1 (t : ByteArray) (r : Int) (g o c i : Nat) (l : List Evt) (x : Evt) (w : World) (hR : EvR w g o l) (hx : l[i]? = some x) (hr : Rt r) (hT : Tb w) (hU : Ut w) (hs : x.reel.size ≤ maxLen) (hs2 : x.note.size ≤ maxLen) (L : Int) (hL : ∀ u, Kept [] w u → Calls Tryd.prog 41 #[clv t r (some ⟨g, o, none⟩) l.length c, .int .i64 i] u fun e w' => e = .returned (.int .i64 L) ∧ Kept [] u w') (hm : nmB x.reel = true) (ht : 0 ≤ x.inn ∧ x.inn < x.out ∧ x.out < dy r) (hf : x.fade < 0) :
    Calls Tryd.prog 18 #[clv t r (some ⟨g, o, none⟩) l.length c, .int .i64 i] w fun e w' => CeP i 195 w e w' := by
  have hj : i < l.length := (List.getElem?_eq_some_iff.1 hx).1
  obtain ⟨n, en⟩ : ∃ n, l.length = n := ⟨_, rfl⟩
  rw [en] at hj hL ⊢
  obtain ⟨w1, e1⟩ : ∃ w1, w.alloc (.cells #[.string t, .int .i64 r, .slice (some ⟨g, o, none⟩) n c] 26 (0, 0)) = w1 := ⟨_, rfl⟩
  have k1 : Kept [] w w1 := by rw [← e1]; exact alloc_kept _ _
  have b1 := heap_alloc_new w (.cells #[.string t, .int .i64 r, .slice (some ⟨g, o, none⟩) n c] 26 (0, 0))
  rw [e1] at b1
  obtain ⟨x0, x1, x2⟩ := cut_cells b1
  obtain ⟨y0, y1, y2, y3, y4⟩ := (hR.keep k1) i x hx
  obtain ⟨reel, inn, out, fade, note⟩ := x
  simp only at y0 y1 y2 y3 y4 hs hs2 hm ht hf
  obtain ⟨w2, e2⟩ : ∃ w2, w1.alloc (.cells #[.string reel, .int .i64 inn, .int .i64 out, .int .i64 fade, .string note] 34 (0, 0)) = w2 := ⟨_, rfl⟩
  have k2 : Kept [] w1 w2 := by rw [← e2]; exact alloc_kept _ _
  have b2 := heap_alloc_new w1 (.cells #[.string reel, .int .i64 inn, .int .i64 out, .int .i64 fade, .string note] 34 (0, 0))
  rw [e2] at b2
  have hji : (i : Int) < (n : Int) := by omega
  have CP := Hid.mk (PerDay_yes r w2 hr ((hT.keep k1).keep k2))
  have CI : Hid (∀ u, Calls Tryd.prog 40 #[.string reel] u fun e w' => e = .returned (.bool (nmB reel)) ∧ Kept [] u w') := Hid.mk (fun u => isName_any reel u hs)
  have HX := Hid.mk (And.intro (k2.heap b1 (by simp)) b2)
  have K2 := Hid.mk (k1.trans k2)
  have CT := Hid.mk (fun u hu => checkNote_any note u hs2 (hU.keep hu))
  have HL := Hid.mk hL
  obtain ⟨z0, z1⟩ := cut_cells (k2.heap b1 (by simp))
  unfold clv
  clear hR hx k1 b1 k2 b2 hT hU hs hs2 hL en hr
  rw [hm] at CI
  go_enter Tryd.func18, Tryd.ntmps18
  go_wp2_with (fail)
  refine CP.out.mono ?_
  rintro e w3 ⟨rfl, k3⟩
  have c3 := k3.heap HX.out.2 (by simp)
  obtain ⟨m0, m1, m2, m3, m4⟩ := ev_cells c3
  have K3 := Hid.mk (K2.out.trans k3)
  have HC3 := Hid.mk (And.intro (k3.heap HX.out.1 (by simp)) c3)
  have CI3 := Hid.mk (CI.out w3)
  clear k3 c3 x0 x1 x2 y0 y1 y2 y3 y4 z0 z1 CP CI e1 e2
  go_wp2_with (fail)
  refine CI3.out.mono ?_
  rintro e w4 ⟨rfl, k4⟩
  have c4 := k4.heap HC3.out.2 (by simp)
  have d4 := k4.heap HC3.out.1 (by simp)
  have K4 := Hid.mk (K3.out.trans k4)
  clear m0 m1 m2 m3 m4
  obtain ⟨m0, m1, m2, m3, m4⟩ := ev_cells c4
  obtain ⟨q0, q1, q2⟩ := cut_cells d4
  have HC4 := Hid.mk (And.intro d4 c4)
  clear k4 c4 d4 CI3
  have t1 : ¬ inn < 0 := by omega
  have t2 : ¬ out ≤ inn := by omega
  have t3 : ¬ dy r ≤ out := by omega
  have hdy : dy r ≤ 6000000 := dy_top r
  have r0 : ∀ p : KW w4, p.u.cell? ⟨w1.heap.size, 0, none⟩ = some (.string reel) := fun p => cell_keep p.h m0 (by simp)
  have r1 : ∀ p : KW w4, p.u.cell? ⟨w1.heap.size, 1, none⟩ = some (.int .i64 inn) := fun p => cell_keep p.h m1 (by simp)
  have r2 : ∀ p : KW w4, p.u.cell? ⟨w1.heap.size, 2, none⟩ = some (.int .i64 out) := fun p => cell_keep p.h m2 (by simp)
  have r3 : ∀ p : KW w4, p.u.cell? ⟨w1.heap.size, 3, none⟩ = some (.int .i64 fade) := fun p => cell_keep p.h m3 (by simp)
  have r4 : ∀ p : KW w4, p.u.cell? ⟨w1.heap.size, 4, none⟩ = some (.string note) := fun p => cell_keep p.h m4 (by simp)
  have s0 : ∀ p : KW w4, p.u.cell? ⟨w.heap.size, 0, none⟩ = some (.string t) := fun p => cell_keep p.h q0 (by simp)
  have s1 : ∀ p : KW w4, p.u.cell? ⟨w.heap.size, 1, none⟩ = some (.int .i64 r) := fun p => cell_keep p.h q1 (by simp)
  have s2 : ∀ p : KW w4, p.u.cell? ⟨w.heap.size, 2, none⟩ = some (.slice (some ⟨g, o, none⟩) n c) := fun p => cell_keep p.h q2 (by simp)
  have C1 : Hid (∀ p : KW w4, Calls Tryd.prog 12 #[.agg #[.string reel, .int .i64 inn, .int .i64 out, .int .i64 fade, .string note]] p.u fun e w' => e = .returned (.int .i64 (out - inn)) ∧ ∃ p' : KW w4, w' = p'.u) := Hid.mk fun p => (frames_any ⟨reel, inn, out, fade, note⟩ p.u (by simp only; omega) (by simp only; omega) (by simp only; omega) (by simp only; omega)).mono fun r w' ⟨h1, h2⟩ => ⟨h1, ⟨w', p.h.trans h2⟩, rfl⟩
  have C2 : Hid (∀ p : KW w4, Calls Tryd.prog 41 #[.agg #[.string t, .int .i64 r, .slice (some ⟨g, o, none⟩) n c], .int .i64 i] p.u fun e w' => e = .returned (.int .i64 L) ∧ ∃ p' : KW w4, w' = p'.u) := Hid.mk fun p => (HL.out p.u (K4.out.trans p.h)).mono fun r w' ⟨h1, h2⟩ => ⟨h1, ⟨w', p.h.trans h2⟩, rfl⟩
  have NE : Nonempty (KW w4) := ⟨⟨w4, Kept.refl _ _⟩⟩
  go_upto_region 7 with (fail)
  refine wp_region_kept (by kernel_rfl) (by kernel_rfl) ?_
  repeat (go_big_quiet_step (first | (go_at_call 12; exact C1.out _) | (go_at_call 41; exact C2.out _)))
  refine wpQuiet_nil ?_
  rintro _ ⟨p, rfl⟩
  go_wp2
  go_ret
  exact CeP.fault (by decide) (K4.out.trans p.h)
set_option maxHeartbeats 8000000 in
set_option maxRecDepth 1000000 in
theorem ce_fade2 (t : ByteArray) (r : Int) (g o c i : Nat) (l : List Evt) (x : Evt) (w : World) (hR : EvR w g o l) (hx : l[i]? = some x) (hr : Rt r) (hT : Tb w) (hU : Ut w) (hs : x.reel.size ≤ maxLen) (hs2 : x.note.size ≤ maxLen) (L : Int) (hL : ∀ u, Kept [] w u → Calls Tryd.prog 41 #[clv t r (some ⟨g, o, none⟩) l.length c, .int .i64 i] u fun e w' => e = .returned (.int .i64 L) ∧ Kept [] u w') (hm : nmB x.reel = true) (ht : 0 ≤ x.inn ∧ x.inn < x.out ∧ x.out < dy r) (hf0 : 0 ≤ x.fade) (hf : 100 < x.fade ∨ x.out - x.inn < x.fade ∨ L < x.fade) :
    Calls Tryd.prog 18 #[clv t r (some ⟨g, o, none⟩) l.length c, .int .i64 i] w fun e w' => CeP i 195 w e w' := by
  have hj : i < l.length := (List.getElem?_eq_some_iff.1 hx).1
  obtain ⟨n, en⟩ : ∃ n, l.length = n := ⟨_, rfl⟩
  rw [en] at hj hL ⊢
  obtain ⟨w1, e1⟩ : ∃ w1, w.alloc (.cells #[.string t, .int .i64 r, .slice (some ⟨g, o, none⟩) n c] 26 (0, 0)) = w1 := ⟨_, rfl⟩
  have k1 : Kept [] w w1 := by rw [← e1]; exact alloc_kept _ _
  have b1 := heap_alloc_new w (.cells #[.string t, .int .i64 r, .slice (some ⟨g, o, none⟩) n c] 26 (0, 0))
  rw [e1] at b1
  obtain ⟨x0, x1, x2⟩ := cut_cells b1
  obtain ⟨y0, y1, y2, y3, y4⟩ := (hR.keep k1) i x hx
  obtain ⟨reel, inn, out, fade, note⟩ := x
  simp only at y0 y1 y2 y3 y4 hs hs2 hm ht hf0 hf
  obtain ⟨w2, e2⟩ : ∃ w2, w1.alloc (.cells #[.string reel, .int .i64 inn, .int .i64 out, .int .i64 fade, .string note] 34 (0, 0)) = w2 := ⟨_, rfl⟩
  have k2 : Kept [] w1 w2 := by rw [← e2]; exact alloc_kept _ _
  have b2 := heap_alloc_new w1 (.cells #[.string reel, .int .i64 inn, .int .i64 out, .int .i64 fade, .string note] 34 (0, 0))
  rw [e2] at b2
  have hji : (i : Int) < (n : Int) := by omega
  have CP := Hid.mk (PerDay_yes r w2 hr ((hT.keep k1).keep k2))
  have CI : Hid (∀ u, Calls Tryd.prog 40 #[.string reel] u fun e w' => e = .returned (.bool (nmB reel)) ∧ Kept [] u w') := Hid.mk (fun u => isName_any reel u hs)
  have HX := Hid.mk (And.intro (k2.heap b1 (by simp)) b2)
  have K2 := Hid.mk (k1.trans k2)
  have CT := Hid.mk (fun u hu => checkNote_any note u hs2 (hU.keep hu))
  have HL := Hid.mk hL
  obtain ⟨z0, z1⟩ := cut_cells (k2.heap b1 (by simp))
  unfold clv
  clear hR hx k1 b1 k2 b2 hT hU hs hs2 hL en hr
  rw [hm] at CI
  go_enter Tryd.func18, Tryd.ntmps18
  go_wp2_with (fail)
  refine CP.out.mono ?_
  rintro e w3 ⟨rfl, k3⟩
  have c3 := k3.heap HX.out.2 (by simp)
  obtain ⟨m0, m1, m2, m3, m4⟩ := ev_cells c3
  have K3 := Hid.mk (K2.out.trans k3)
  have HC3 := Hid.mk (And.intro (k3.heap HX.out.1 (by simp)) c3)
  have CI3 := Hid.mk (CI.out w3)
  clear k3 c3 x0 x1 x2 y0 y1 y2 y3 y4 z0 z1 CP CI e1 e2
  go_wp2_with (fail)
  refine CI3.out.mono ?_
  rintro e w4 ⟨rfl, k4⟩
  have c4 := k4.heap HC3.out.2 (by simp)
  have d4 := k4.heap HC3.out.1 (by simp)
  have K4 := Hid.mk (K3.out.trans k4)
  clear m0 m1 m2 m3 m4
  obtain ⟨m0, m1, m2, m3, m4⟩ := ev_cells c4
  obtain ⟨q0, q1, q2⟩ := cut_cells d4
  have HC4 := Hid.mk (And.intro d4 c4)
  clear k4 c4 d4 CI3
  have t1 : ¬ inn < 0 := by omega
  have t2 : ¬ out ≤ inn := by omega
  have t3 : ¬ dy r ≤ out := by omega
  have hdy : dy r ≤ 6000000 := dy_top r
  have r0 : ∀ p : KW w4, p.u.cell? ⟨w1.heap.size, 0, none⟩ = some (.string reel) := fun p => cell_keep p.h m0 (by simp)
  have r1 : ∀ p : KW w4, p.u.cell? ⟨w1.heap.size, 1, none⟩ = some (.int .i64 inn) := fun p => cell_keep p.h m1 (by simp)
  have r2 : ∀ p : KW w4, p.u.cell? ⟨w1.heap.size, 2, none⟩ = some (.int .i64 out) := fun p => cell_keep p.h m2 (by simp)
  have r3 : ∀ p : KW w4, p.u.cell? ⟨w1.heap.size, 3, none⟩ = some (.int .i64 fade) := fun p => cell_keep p.h m3 (by simp)
  have r4 : ∀ p : KW w4, p.u.cell? ⟨w1.heap.size, 4, none⟩ = some (.string note) := fun p => cell_keep p.h m4 (by simp)
  have s0 : ∀ p : KW w4, p.u.cell? ⟨w.heap.size, 0, none⟩ = some (.string t) := fun p => cell_keep p.h q0 (by simp)
  have s1 : ∀ p : KW w4, p.u.cell? ⟨w.heap.size, 1, none⟩ = some (.int .i64 r) := fun p => cell_keep p.h q1 (by simp)
  have s2 : ∀ p : KW w4, p.u.cell? ⟨w.heap.size, 2, none⟩ = some (.slice (some ⟨g, o, none⟩) n c) := fun p => cell_keep p.h q2 (by simp)
  have C1 : Hid (∀ p : KW w4, Calls Tryd.prog 12 #[.agg #[.string reel, .int .i64 inn, .int .i64 out, .int .i64 fade, .string note]] p.u fun e w' => e = .returned (.int .i64 (out - inn)) ∧ ∃ p' : KW w4, w' = p'.u) := Hid.mk fun p => (frames_any ⟨reel, inn, out, fade, note⟩ p.u (by simp only; omega) (by simp only; omega) (by simp only; omega) (by simp only; omega)).mono fun r w' ⟨h1, h2⟩ => ⟨h1, ⟨w', p.h.trans h2⟩, rfl⟩
  have C2 : Hid (∀ p : KW w4, Calls Tryd.prog 41 #[.agg #[.string t, .int .i64 r, .slice (some ⟨g, o, none⟩) n c], .int .i64 i] p.u fun e w' => e = .returned (.int .i64 L) ∧ ∃ p' : KW w4, w' = p'.u) := Hid.mk fun p => (HL.out p.u (K4.out.trans p.h)).mono fun r w' ⟨h1, h2⟩ => ⟨h1, ⟨w', p.h.trans h2⟩, rfl⟩
  have NE : Nonempty (KW w4) := ⟨⟨w4, Kept.refl _ _⟩⟩
  go_upto_region 7 with (fail)
  have hfn : ¬ fade < 0 := by omega
  refine wp_region_kept (by kernel_rfl) (by kernel_rfl) ?_
  repeat (go_big_quiet_step (first | (go_at_call 12; exact C1.out _) | (go_at_call 41; exact C2.out _)))
  refine wpQuiet_nil ?_
  rintro _ ⟨p, rfl⟩
  have hM : (if L < if out - inn < 100 then out - inn else 100 then L else if out - inn < 100 then out - inn else 100) < fade := by split <;> (try split) <;> omega
  clear hf
  go_wp2_with (fail)
  all_goals (refine bodyPost_ret (results_tmp rfl _ _ _) rfl ?_)
  all_goals exact CeP.fault (by decide) (K4.out.trans p.h)
set_option maxHeartbeats 8000000 in
set_option maxRecDepth 1000000 in
theorem ce_note0 (t : ByteArray) (r : Int) (g o c i : Nat) (l : List Evt) (x : Evt) (w : World) (hR : EvR w g o l) (hx : l[i]? = some x) (hr : Rt r) (hT : Tb w) (hU : Ut w) (hs : x.reel.size ≤ maxLen) (hs2 : x.note.size ≤ maxLen) (L : Int) (hL : ∀ u, Kept [] w u → Calls Tryd.prog 41 #[clv t r (some ⟨g, o, none⟩) l.length c, .int .i64 i] u fun e w' => e = .returned (.int .i64 L) ∧ Kept [] u w') (hm : nmB x.reel = true) (ht : 0 ≤ x.inn ∧ x.inn < x.out ∧ x.out < dy r) (hf0 : 0 ≤ x.fade) (hf : ¬ (100 < x.fade ∨ x.out - x.inn < x.fade ∨ L < x.fade)) (eT : ntE x.note = 0) :
    Calls Tryd.prog 18 #[clv t r (some ⟨g, o, none⟩) l.length c, .int .i64 i] w fun e w' => CeP i 0 w e w' := by
  have hj : i < l.length := (List.getElem?_eq_some_iff.1 hx).1
  obtain ⟨n, en⟩ : ∃ n, l.length = n := ⟨_, rfl⟩
  rw [en] at hj hL ⊢
  obtain ⟨w1, e1⟩ : ∃ w1, w.alloc (.cells #[.string t, .int .i64 r, .slice (some ⟨g, o, none⟩) n c] 26 (0, 0)) = w1 := ⟨_, rfl⟩
  have k1 : Kept [] w w1 := by rw [← e1]; exact alloc_kept _ _
  have b1 := heap_alloc_new w (.cells #[.string t, .int .i64 r, .slice (some ⟨g, o, none⟩) n c] 26 (0, 0))
  rw [e1] at b1
  obtain ⟨x0, x1, x2⟩ := cut_cells b1
  obtain ⟨y0, y1, y2, y3, y4⟩ := (hR.keep k1) i x hx
  obtain ⟨reel, inn, out, fade, note⟩ := x
  simp only at y0 y1 y2 y3 y4 hs hs2 hm ht hf0 hf eT
  obtain ⟨w2, e2⟩ : ∃ w2, w1.alloc (.cells #[.string reel, .int .i64 inn, .int .i64 out, .int .i64 fade, .string note] 34 (0, 0)) = w2 := ⟨_, rfl⟩
  have k2 : Kept [] w1 w2 := by rw [← e2]; exact alloc_kept _ _
  have b2 := heap_alloc_new w1 (.cells #[.string reel, .int .i64 inn, .int .i64 out, .int .i64 fade, .string note] 34 (0, 0))
  rw [e2] at b2
  have hji : (i : Int) < (n : Int) := by omega
  have CP := Hid.mk (PerDay_yes r w2 hr ((hT.keep k1).keep k2))
  have CI : Hid (∀ u, Calls Tryd.prog 40 #[.string reel] u fun e w' => e = .returned (.bool (nmB reel)) ∧ Kept [] u w') := Hid.mk (fun u => isName_any reel u hs)
  have HX := Hid.mk (And.intro (k2.heap b1 (by simp)) b2)
  have K2 := Hid.mk (k1.trans k2)
  have CT := Hid.mk (fun u hu => checkNote_any note u hs2 (hU.keep hu))
  have HL := Hid.mk hL
  obtain ⟨z0, z1⟩ := cut_cells (k2.heap b1 (by simp))
  unfold clv
  clear hR hx k1 b1 k2 b2 hT hU hs hs2 hL en hr
  rw [hm] at CI
  rw [eT] at CT
  clear eT
  go_enter Tryd.func18, Tryd.ntmps18
  go_wp2_with (fail)
  refine CP.out.mono ?_
  rintro e w3 ⟨rfl, k3⟩
  have c3 := k3.heap HX.out.2 (by simp)
  obtain ⟨m0, m1, m2, m3, m4⟩ := ev_cells c3
  have K3 := Hid.mk (K2.out.trans k3)
  have HC3 := Hid.mk (And.intro (k3.heap HX.out.1 (by simp)) c3)
  have CI3 := Hid.mk (CI.out w3)
  clear k3 c3 x0 x1 x2 y0 y1 y2 y3 y4 z0 z1 CP CI e1 e2
  go_wp2_with (fail)
  refine CI3.out.mono ?_
  rintro e w4 ⟨rfl, k4⟩
  have c4 := k4.heap HC3.out.2 (by simp)
  have d4 := k4.heap HC3.out.1 (by simp)
  have K4 := Hid.mk (K3.out.trans k4)
  clear m0 m1 m2 m3 m4
  obtain ⟨m0, m1, m2, m3, m4⟩ := ev_cells c4
  obtain ⟨q0, q1, q2⟩ := cut_cells d4
  have HC4 := Hid.mk (And.intro d4 c4)
  clear k4 c4 d4 CI3
  have t1 : ¬ inn < 0 := by omega
  have t2 : ¬ out ≤ inn := by omega
  have t3 : ¬ dy r ≤ out := by omega
  have hdy : dy r ≤ 6000000 := dy_top r
  have r0 : ∀ p : KW w4, p.u.cell? ⟨w1.heap.size, 0, none⟩ = some (.string reel) := fun p => cell_keep p.h m0 (by simp)
  have r1 : ∀ p : KW w4, p.u.cell? ⟨w1.heap.size, 1, none⟩ = some (.int .i64 inn) := fun p => cell_keep p.h m1 (by simp)
  have r2 : ∀ p : KW w4, p.u.cell? ⟨w1.heap.size, 2, none⟩ = some (.int .i64 out) := fun p => cell_keep p.h m2 (by simp)
  have r3 : ∀ p : KW w4, p.u.cell? ⟨w1.heap.size, 3, none⟩ = some (.int .i64 fade) := fun p => cell_keep p.h m3 (by simp)
  have r4 : ∀ p : KW w4, p.u.cell? ⟨w1.heap.size, 4, none⟩ = some (.string note) := fun p => cell_keep p.h m4 (by simp)
  have s0 : ∀ p : KW w4, p.u.cell? ⟨w.heap.size, 0, none⟩ = some (.string t) := fun p => cell_keep p.h q0 (by simp)
  have s1 : ∀ p : KW w4, p.u.cell? ⟨w.heap.size, 1, none⟩ = some (.int .i64 r) := fun p => cell_keep p.h q1 (by simp)
  have s2 : ∀ p : KW w4, p.u.cell? ⟨w.heap.size, 2, none⟩ = some (.slice (some ⟨g, o, none⟩) n c) := fun p => cell_keep p.h q2 (by simp)
  have C1 : Hid (∀ p : KW w4, Calls Tryd.prog 12 #[.agg #[.string reel, .int .i64 inn, .int .i64 out, .int .i64 fade, .string note]] p.u fun e w' => e = .returned (.int .i64 (out - inn)) ∧ ∃ p' : KW w4, w' = p'.u) := Hid.mk fun p => (frames_any ⟨reel, inn, out, fade, note⟩ p.u (by simp only; omega) (by simp only; omega) (by simp only; omega) (by simp only; omega)).mono fun r w' ⟨h1, h2⟩ => ⟨h1, ⟨w', p.h.trans h2⟩, rfl⟩
  have C2 : Hid (∀ p : KW w4, Calls Tryd.prog 41 #[.agg #[.string t, .int .i64 r, .slice (some ⟨g, o, none⟩) n c], .int .i64 i] p.u fun e w' => e = .returned (.int .i64 L) ∧ ∃ p' : KW w4, w' = p'.u) := Hid.mk fun p => (HL.out p.u (K4.out.trans p.h)).mono fun r w' ⟨h1, h2⟩ => ⟨h1, ⟨w', p.h.trans h2⟩, rfl⟩
  have NE : Nonempty (KW w4) := ⟨⟨w4, Kept.refl _ _⟩⟩
  go_upto_region 7 with (fail)
  have hfn : ¬ fade < 0 := by omega
  refine wp_region_kept (by kernel_rfl) (by kernel_rfl) ?_
  repeat (go_big_quiet_step (first | (go_at_call 12; exact C1.out _) | (go_at_call 41; exact C2.out _)))
  refine wpQuiet_nil ?_
  rintro _ ⟨p, rfl⟩
  have hM : ¬ (if L < if out - inn < 100 then out - inn else 100 then L else if out - inn < 100 then out - inn else 100) < fade := by split <;> (try split) <;> omega
  clear hf
  have CN := Hid.mk (CT.out p.u (K4.out.trans p.h))
  have t4 := r4 p
  clear r0 r1 r2 r3 r4 s0 s1 s2 C1 C2
  have HPK := Hid.mk (K4.out.trans p.h)
  go_wp2_with (go_at_call 42; refine CN.out.mono ?_; rintro e w9 ⟨rfl, k9⟩)
  all_goals (refine bodyPost_ret (results_tmp rfl _ _ _) rfl ?_)
  all_goals exact CeP.ok (HPK.out.trans k9)
set_option maxHeartbeats 8000000 in
set_option maxRecDepth 1000000 in
theorem ce_noteE (t : ByteArray) (r : Int) (g o c i : Nat) (l : List Evt) (x : Evt) (w : World) (hR : EvR w g o l) (hx : l[i]? = some x) (hr : Rt r) (hT : Tb w) (hU : Ut w) (hs : x.reel.size ≤ maxLen) (hs2 : x.note.size ≤ maxLen) (L : Int) (hL : ∀ u, Kept [] w u → Calls Tryd.prog 41 #[clv t r (some ⟨g, o, none⟩) l.length c, .int .i64 i] u fun e w' => e = .returned (.int .i64 L) ∧ Kept [] u w') (hm : nmB x.reel = true) (ht : 0 ≤ x.inn ∧ x.inn < x.out ∧ x.out < dy r) (hf0 : 0 ≤ x.fade) (hf : ¬ (100 < x.fade ∨ x.out - x.inn < x.fade ∨ L < x.fade)) (T : Int) (eT : ntE x.note = T) (hT0 : T ≠ 0) :
    Calls Tryd.prog 18 #[clv t r (some ⟨g, o, none⟩) l.length c, .int .i64 i] w fun e w' => CeP i T w e w' := by
  have hj : i < l.length := (List.getElem?_eq_some_iff.1 hx).1
  obtain ⟨n, en⟩ : ∃ n, l.length = n := ⟨_, rfl⟩
  rw [en] at hj hL ⊢
  obtain ⟨w1, e1⟩ : ∃ w1, w.alloc (.cells #[.string t, .int .i64 r, .slice (some ⟨g, o, none⟩) n c] 26 (0, 0)) = w1 := ⟨_, rfl⟩
  have k1 : Kept [] w w1 := by rw [← e1]; exact alloc_kept _ _
  have b1 := heap_alloc_new w (.cells #[.string t, .int .i64 r, .slice (some ⟨g, o, none⟩) n c] 26 (0, 0))
  rw [e1] at b1
  obtain ⟨x0, x1, x2⟩ := cut_cells b1
  obtain ⟨y0, y1, y2, y3, y4⟩ := (hR.keep k1) i x hx
  obtain ⟨reel, inn, out, fade, note⟩ := x
  simp only at y0 y1 y2 y3 y4 hs hs2 hm ht hf0 hf eT
  obtain ⟨w2, e2⟩ : ∃ w2, w1.alloc (.cells #[.string reel, .int .i64 inn, .int .i64 out, .int .i64 fade, .string note] 34 (0, 0)) = w2 := ⟨_, rfl⟩
  have k2 : Kept [] w1 w2 := by rw [← e2]; exact alloc_kept _ _
  have b2 := heap_alloc_new w1 (.cells #[.string reel, .int .i64 inn, .int .i64 out, .int .i64 fade, .string note] 34 (0, 0))
  rw [e2] at b2
  have hji : (i : Int) < (n : Int) := by omega
  have CP := Hid.mk (PerDay_yes r w2 hr ((hT.keep k1).keep k2))
  have CI : Hid (∀ u, Calls Tryd.prog 40 #[.string reel] u fun e w' => e = .returned (.bool (nmB reel)) ∧ Kept [] u w') := Hid.mk (fun u => isName_any reel u hs)
  have HX := Hid.mk (And.intro (k2.heap b1 (by simp)) b2)
  have K2 := Hid.mk (k1.trans k2)
  have CT := Hid.mk (fun u hu => checkNote_any note u hs2 (hU.keep hu))
  have HL := Hid.mk hL
  obtain ⟨z0, z1⟩ := cut_cells (k2.heap b1 (by simp))
  unfold clv
  clear hR hx k1 b1 k2 b2 hT hU hs hs2 hL en hr
  rw [hm] at CI
  rw [eT] at CT
  clear eT
  go_enter Tryd.func18, Tryd.ntmps18
  go_wp2_with (fail)
  refine CP.out.mono ?_
  rintro e w3 ⟨rfl, k3⟩
  have c3 := k3.heap HX.out.2 (by simp)
  obtain ⟨m0, m1, m2, m3, m4⟩ := ev_cells c3
  have K3 := Hid.mk (K2.out.trans k3)
  have HC3 := Hid.mk (And.intro (k3.heap HX.out.1 (by simp)) c3)
  have CI3 := Hid.mk (CI.out w3)
  clear k3 c3 x0 x1 x2 y0 y1 y2 y3 y4 z0 z1 CP CI e1 e2
  go_wp2_with (fail)
  refine CI3.out.mono ?_
  rintro e w4 ⟨rfl, k4⟩
  have c4 := k4.heap HC3.out.2 (by simp)
  have d4 := k4.heap HC3.out.1 (by simp)
  have K4 := Hid.mk (K3.out.trans k4)
  clear m0 m1 m2 m3 m4
  obtain ⟨m0, m1, m2, m3, m4⟩ := ev_cells c4
  obtain ⟨q0, q1, q2⟩ := cut_cells d4
  have HC4 := Hid.mk (And.intro d4 c4)
  clear k4 c4 d4 CI3
  have t1 : ¬ inn < 0 := by omega
  have t2 : ¬ out ≤ inn := by omega
  have t3 : ¬ dy r ≤ out := by omega
  have hdy : dy r ≤ 6000000 := dy_top r
  have r0 : ∀ p : KW w4, p.u.cell? ⟨w1.heap.size, 0, none⟩ = some (.string reel) := fun p => cell_keep p.h m0 (by simp)
  have r1 : ∀ p : KW w4, p.u.cell? ⟨w1.heap.size, 1, none⟩ = some (.int .i64 inn) := fun p => cell_keep p.h m1 (by simp)
  have r2 : ∀ p : KW w4, p.u.cell? ⟨w1.heap.size, 2, none⟩ = some (.int .i64 out) := fun p => cell_keep p.h m2 (by simp)
  have r3 : ∀ p : KW w4, p.u.cell? ⟨w1.heap.size, 3, none⟩ = some (.int .i64 fade) := fun p => cell_keep p.h m3 (by simp)
  have r4 : ∀ p : KW w4, p.u.cell? ⟨w1.heap.size, 4, none⟩ = some (.string note) := fun p => cell_keep p.h m4 (by simp)
  have s0 : ∀ p : KW w4, p.u.cell? ⟨w.heap.size, 0, none⟩ = some (.string t) := fun p => cell_keep p.h q0 (by simp)
  have s1 : ∀ p : KW w4, p.u.cell? ⟨w.heap.size, 1, none⟩ = some (.int .i64 r) := fun p => cell_keep p.h q1 (by simp)
  have s2 : ∀ p : KW w4, p.u.cell? ⟨w.heap.size, 2, none⟩ = some (.slice (some ⟨g, o, none⟩) n c) := fun p => cell_keep p.h q2 (by simp)
  have C1 : Hid (∀ p : KW w4, Calls Tryd.prog 12 #[.agg #[.string reel, .int .i64 inn, .int .i64 out, .int .i64 fade, .string note]] p.u fun e w' => e = .returned (.int .i64 (out - inn)) ∧ ∃ p' : KW w4, w' = p'.u) := Hid.mk fun p => (frames_any ⟨reel, inn, out, fade, note⟩ p.u (by simp only; omega) (by simp only; omega) (by simp only; omega) (by simp only; omega)).mono fun r w' ⟨h1, h2⟩ => ⟨h1, ⟨w', p.h.trans h2⟩, rfl⟩
  have C2 : Hid (∀ p : KW w4, Calls Tryd.prog 41 #[.agg #[.string t, .int .i64 r, .slice (some ⟨g, o, none⟩) n c], .int .i64 i] p.u fun e w' => e = .returned (.int .i64 L) ∧ ∃ p' : KW w4, w' = p'.u) := Hid.mk fun p => (HL.out p.u (K4.out.trans p.h)).mono fun r w' ⟨h1, h2⟩ => ⟨h1, ⟨w', p.h.trans h2⟩, rfl⟩
  have NE : Nonempty (KW w4) := ⟨⟨w4, Kept.refl _ _⟩⟩
  go_upto_region 7 with (fail)
  have hfn : ¬ fade < 0 := by omega
  refine wp_region_kept (by kernel_rfl) (by kernel_rfl) ?_
  repeat (go_big_quiet_step (first | (go_at_call 12; exact C1.out _) | (go_at_call 41; exact C2.out _)))
  refine wpQuiet_nil ?_
  rintro _ ⟨p, rfl⟩
  have hM : ¬ (if L < if out - inn < 100 then out - inn else 100 then L else if out - inn < 100 then out - inn else 100) < fade := by split <;> (try split) <;> omega
  clear hf
  have CN := Hid.mk (CT.out p.u (K4.out.trans p.h))
  have t4 := r4 p
  clear r0 r1 r2 r3 r4 s0 s1 s2 C1 C2
  have HPK := Hid.mk (K4.out.trans p.h)
  go_wp2_with (go_at_call 42; refine CN.out.mono ?_; rintro e w9 ⟨rfl, k9⟩)
  all_goals (refine bodyPost_ret (results_tmp rfl _ _ _) rfl ?_)
  all_goals exact CeP.fault hT0 (HPK.out.trans k9)

theorem checkEvent_any (t : ByteArray) (r : Int) (g o c i : Nat) (l : List Evt) (x : Evt) (w : World) (hR : EvR w g o l) (hx : l[i]? = some x) (hr : Rt r) (hT : Tb w) (hU : Ut w) (hs : x.reel.size ≤ maxLen) (hs2 : x.note.size ≤ maxLen) (L : Int) (hL : ∀ u, Kept [] w u → Calls Tryd.prog 41 #[clv t r (some ⟨g, o, none⟩) l.length c, .int .i64 i] u fun e w' => e = .returned (.int .i64 L) ∧ Kept [] u w') :
    Calls Tryd.prog 18 #[clv t r (some ⟨g, o, none⟩) l.length c, .int .i64 i] w fun e w' => CeP i (ceE (dy r) L x) w e w' := by
  unfold ceE
  by_cases hm : nmB x.reel = false
  · rw [if_pos hm]; exact ce_name t r g o c i l x w hR hx hr hT hU hs hs2 L hL hm
  · rw [if_neg hm]
    have hm' : nmB x.reel = true := by simpa using hm
    by_cases h1 : x.inn < 0
    · rw [if_pos (.inl h1)]; exact ce_time1 t r g o c i l x w hR hx hr hT hU hs hs2 L hL hm' h1
    · by_cases h2 : x.out ≤ x.inn
      · rw [if_pos (.inr (.inl h2))]; exact ce_time2 t r g o c i l x w hR hx hr hT hU hs hs2 L hL hm' ⟨by omega, h2⟩
      · by_cases h3 : dy r ≤ x.out
        · rw [if_pos (.inr (.inr h3))]; exact ce_time3 t r g o c i l x w hR hx hr hT hU hs hs2 L hL hm' ⟨by omega, by omega, h3⟩
        · rw [if_neg (by omega)]
          by_cases f1 : x.fade < 0
          · rw [if_pos (.inl f1)]; exact ce_fade1 t r g o c i l x w hR hx hr hT hU hs hs2 L hL hm' ⟨by omega, by omega, by omega⟩ f1
          · by_cases f2 : 100 < x.fade ∨ x.out - x.inn < x.fade ∨ L < x.fade
            · rw [if_pos (.inr f2)]; exact ce_fade2 t r g o c i l x w hR hx hr hT hU hs hs2 L hL hm' ⟨by omega, by omega, by omega⟩ (by omega) f2
            · rw [if_neg (fun h => h.elim f1 f2)]; (by_cases hz : ntE x.note = 0; (rw [hz]; exact ce_note0 t r g o c i l x w hR hx hr hT hU hs hs2 L hL hm' ⟨by omega, by omega, by omega⟩ (by omega) f2 hz); exact ce_noteE t r g o c i l x w hR hx hr hT hU hs hs2 L hL hm' ⟨by omega, by omega, by omega⟩ (by omega) f2 _ rfl hz)
end Go.Proofs.YtknkjhfemgiiaaaDoor
