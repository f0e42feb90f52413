import Derived.Test.YtlkbpimlofgflaaDooreM
namespace Go.Proofs.YtlkbpimlofgflaaDoor
open Go.RowKit Go.Shelf

/-- A pointer and a number that lie in cells, as the results. -/
theorem results_cells (tmps : Array Value) (w : World) (g k : Nat) (u v : Value)
    (hp : tmps.getD 2 undef = .pointer (some ⟨g, 0, none⟩)) (hq : tmps.getD 3 undef = .pointer (some ⟨k, 0, none⟩)) (hu : w.cell? ⟨g, 0, none⟩ = some u) (hv : w.cell? ⟨k, 0, none⟩ = some v) : (results Tryd.f8 tmps).run Tryd.prog w = .ok (.tuple #[u, v]) w := by
  have hp2 : tmps[2]?.getD undef = .pointer (some ⟨g, 0, none⟩) := by rw [← hp]; simp
  have hq2 : tmps[3]?.getD undef = .pointer (some ⟨k, 0, none⟩) := by rw [← hq]; simp
  simp [results, hp2, hq2, hu, hv, asAddr, go_sem]
theorem foot_def {w : World} {P D : Nat} {V L : Value} {s : Md} {k : Int} {x : Option (List Deferred)} (h : Med w P V L s k) (hD : w.heap[D]? = some (.deferred x)) : D ∉ foot P V L := by
  intro hm
  simp only [foot, List.mem_cons, List.mem_append] at hm
  rcases hm with rfl | hm | hm
  · have := h.box; rw [hD] at this; simp at this
  · rcases h.row.2 with ⟨h1, _⟩ | ⟨g, cap, cur, h1, _, hg, _⟩
    · rw [h1] at hm; simp [Value.ownBlock] at hm
    · rw [h1] at hm; simp [Value.ownBlock] at hm; subst hm; rw [hg] at hD; simp at hD
  · rcases h.log.2 with ⟨h1, _⟩ | ⟨g, cap, cur, h1, _, hg, _⟩
    · rw [h1] at hm; simp [Value.ownBlock] at hm
    · rw [h1] at hm; simp [Value.ownBlock] at hm; subst hm; rw [hg] at hD; simp at hD

set_option maxHeartbeats 16000000 in
set_option maxRecDepth 1000000 in
theorem open_yes (w : World) (P : Nat) (V L : Value) (d : Md) (s : ByteArray) (r st : Nat) (hm : Med w P V L d 0) (ok : Mok d) (hd : d.dead = false) (hg : d.g.length ≤ 900) (hs : s.size ≤ 100) (hv : Txt s) (r1 : 1 ≤ r) (r2 : r ≤ 7) (hst : st ≤ 5183999) (hb : d.b = lbl s r st ++ tl [] (15 + s.size)) :
    Calls Tryd.prog 8 #[.pointer (some ⟨P, 0, none⟩)] w fun e w' => ∃ R, e = .returned (.tuple #[.pointer (some ⟨R, 0, none⟩), .int .i64 0]) ∧ Rl w' R P s r st (.slice none 0 0) true ∧ Kept (P :: L.ownBlock.toList) w w' := by
  obtain ⟨N, hN⟩ : ∃ N, d.b.length = N := ⟨_, rfl⟩
  obtain ⟨E, eE⟩ : ∃ E, 15 + s.size = E := ⟨_, rfl⟩
  have hNE : N = E + 24 := by rw [← hN, hb, List.length_append, lbl_len, tl_len, eE]; simp
  obtain ⟨K, eK⟩ : ∃ K, min N 115 = K := ⟨_, rfl⟩
  have hK : E ≤ K ∧ K ≤ N ∧ K ≤ 115 := by omega
  have hrd : rdE d 0 268435456 0 (K : Int) = 0 ∧ rdB d 0 268435456 0 (K : Int) = (d.b.drop 0).take K ∧ rdS d 0 268435456 0 (K : Int) = { d with g := d.g ++ [(0, (K : Int))] } := rd_in d 0 K hd (by omega) ok.n
  have hbt : (d.b.drop 0).take K = lbl s r st ++ (tl [] E).take (K - E) := by
    rw [List.drop_zero, hb, eE, List.take_append, lbl_len, eE, List.take_of_length_le (by rw [lbl_len, eE]; omega)]
  rw [hbt] at hrd
  have hlk : (lbl s r st ++ (tl [] E).take (K - E)).length = K := by rw [List.length_append, lbl_len, eE, List.length_take, tl_len]; simp; omega
  have hby : Byts ((tl [] E).take (K - E)) := fun x hx => ok.by_ x (by rw [hb, eE]; exact List.mem_append_right _ (List.mem_of_mem_take hx))
  obtain ⟨w1, ew1⟩ : ∃ w1, (w.alloc (.cells #[.pointer none] 31 (0, 0))).alloc (.cells #[.int .i64 0] 27 (0, 0)) = w1 := ⟨_, rfl⟩
  have k1 : Kept [] w w1 := by rw [← ew1]; exact ((Kept.refl [] w).alloc _).alloc _
  have p2 : w1.heap[w.heap.size]? = some (.cells #[.pointer none] 31 (0, 0)) := by rw [← ew1]; exact ((Kept.refl [] _).alloc _).heap (heap_alloc_new _ _) (by simp)
  have p3 : w1.heap[w.heap.size + 1]? = some (.cells #[.int .i64 0] 27 (0, 0)) := by
    rw [← ew1]; have := heap_alloc_new (w.alloc (.cells #[.pointer none] 31 (0, 0))) (.cells #[.int .i64 0] 27 (0, 0)); rw [World.size_alloc] at this; exact this
  have HM := Hid.mk hm
  have HO := Hid.mk ok
  have HRD := Hid.mk hrd
  have HP := Hid.mk (And.intro p2 p3)
  have K1 := Hid.mk k1
  have HNE := Hid.mk (And.intro hNE hK)
  have h73 : d.b.getD E 0 ≠ 76 := by
    rw [hb, eE, List.getD_eq_getElem?_getD, List.getElem?_append_right (by rw [lbl_len, eE]; omega), lbl_len, eE, Nat.sub_self]
    rw [show (tl [] E)[0]? = some 73 from rfl]
    decide
  have H73 := Hid.mk h73
  have HN := Hid.mk hN
  have HLK := Hid.mk (And.intro hlk hby)
  have HB := Hid.mk hb
  have HV := Hid.mk hv
  have HG := Hid.mk hg
  have mi : min (N : Int) 115 = (K : Int) := by omega
  clear hlk hby h73
  clear hm ok hrd hbt p2 p3 k1 hNE hK hN hb hv eK hg
  refine (callsIn_wide (n := 0)).1 ?_
  refine callsIn_of_wp_marks Tryd.func8 rfl trivial ?_ rfl
  simp only [Tryd.ntmps8, List.size_toArray, List.length_cons, List.length_nil, Nat.reduceAdd, Nat.reduceSub, Array.replicate_succ, Array.replicate_zero, List.push_toArray, List.append_toArray, List.nil_append, List.cons_append]
  refine wpIn_wide.2 ?_
  go_wp2_with (fail)
  try rw [ew1]
  clear ew1
  refine (size_any w1 P V L d (HM.out.keep K1.out)).mono ?_
  rintro e w2 ⟨rfl, m2, k2⟩
  rw [HN.out]
  have hP2 := k2.heap HP.out.1 (fun hm => foot_of (HM.out.keep K1.out) HP.out.1 (by decide) (by decide) (by decide) (inP P V L _ hm))
  have hP3 := k2.heap HP.out.2 (fun hm => foot_of (HM.out.keep K1.out) HP.out.2 (by decide) (by decide) (by decide) (inP P V L _ hm))
  have C2 := Hid.mk (read_any w2 P V L d 0 (K : Int) m2 HO.out.n (by have := HG.out; omega) (by omega))
  have M2 := Hid.mk m2
  have K2 := Hid.mk k2
  have HP2 := Hid.mk (And.intro hP2 hP3)
  clear m2 k2 hP2 hP3
  go_wp2_with (fail)
  with_reducible refine C2.out.mono ?_
  rintro e w3 ⟨ro, rc, L3, rfl, o3, m3, k3, l3⟩
  rw [HRD.out.2.1, HLK.out.1] at o3
  rw [HRD.out.1, HRD.out.2.1, HLK.out.1]
  rw [HRD.out.2.2] at m3
  have hP2 := k3.heap HP2.out.1 (fun hm => foot_of M2.out HP2.out.1 (by decide) (by decide) (by decide) (inL P V L _ hm))
  have hP3 := k3.heap HP2.out.2 (fun hm => foot_of M2.out HP2.out.2 (by decide) (by decide) (by decide) (inL P V L _ hm))
  obtain ⟨_, _, ev, b1, b2, -⟩ := row_none o3
  cases ev
  have C3 := Hid.mk (labelOf_yes w3 ro K rc s r st _ (reads_row o3) HLK.out.1 b2 HLK.out.2 (by have := HNE.out; omega) hs HV.out r1 r2 hst)
  have HP3 := Hid.mk (And.intro hP2 hP3)
  have M3 := Hid.mk m3
  have K3 := Hid.mk (And.intro k3 l3)
  clear C2 o3 m3 k3 l3 b1 b2 hP2 hP3 mi
  go_wp2_with (fail)
  with_reducible refine C3.out.mono ?_
  rintro e w4 ⟨rfl, k4⟩
  have HP4 := Hid.mk (And.intro (k4.heap HP3.out.1 (by simp)) (k4.heap HP3.out.2 (by simp)))
  have M4 := Hid.mk (M3.out.keep k4)
  have K4 := Hid.mk k4
  clear C3 k4
  obtain ⟨w5, ew5, k5, hb5⟩ := alloc_new w4 (.cells #[.string s, .int .i64 (r : Int), .int .i64 (st : Int)] 25 (0, 0))
  obtain ⟨w6, ew6, k6, hb6⟩ := alloc_new w5 (.cells #[.pointer (some ⟨P, 0, none⟩), .string s, .int .i64 (r : Int), .int .i64 (st : Int), .slice none 0 0, .bool false] 57 (0, 0))
  obtain ⟨w7, ew7, k7, hb7⟩ := alloc_new w6 (.cells #[.pointer (some ⟨w5.heap.size, 0, none⟩)] 31 (0, 0))
  have a0 : w5.cell? ⟨w4.heap.size, 0, none⟩ = some (.string s) := by simp [World.cell?, hb5]
  have a1 : w5.cell? ⟨w4.heap.size, 1, none⟩ = some (.int .i64 (r : Int)) := by simp [World.cell?, hb5]
  have a2 : w5.cell? ⟨w4.heap.size, 2, none⟩ = some (.int .i64 (st : Int)) := by simp [World.cell?, hb5]
  have a3 : w7.cell? ⟨w6.heap.size, 0, none⟩ = some (.pointer (some ⟨w5.heap.size, 0, none⟩)) := by simp [World.cell?, hb7]
  have C4 : Hid (Calls Tryd.prog 17 #[.pointer (some ⟨w5.heap.size, 0, none⟩)] w7 fun e w' => e = .returned (.int .i64 (E : Int)) ∧ Kept [] w7 w') := Hid.mk (by
    have := end_none w7 w5.heap.size P s r st false (k7.heap hb6 (by simp)) hs r2 hst
    rw [eE] at this
    exact this)
  have k47 := (k5.trans k6).trans k7
  have HP7 := Hid.mk (And.intro (k47.heap HP4.out.1 (by simp)) (k47.heap HP4.out.2 (by simp)))
  have M7 := Hid.mk (M4.out.keep k47)
  have HR7 : Hid (Rl w7 w5.heap.size P s r st (.slice none 0 0) false) := Hid.mk (k7.heap hb6 (by simp))
  have HX7 := Hid.mk hb7
  have HS5 := Hid.mk k5.size
  have K7 := Hid.mk (K4.out.trans k47)
  clear k5 k6 k7 hb5 hb6 hb7 k47
  go_wp2_with (fail)
  clear a0 a1 a2 ew5 ew6 ew7
  with_reducible refine C4.out.mono ?_
  rintro e w8 ⟨rfl, k8⟩
  have C5 := Hid.mk (chain_any w8 P N E)
  have K8 := Hid.mk k8
  clear C4 k8 a3
  go_wp2_with (fail)
  with_reducible refine C5.out.mono ?_
  rintro e w9 ⟨a, b, c, rfl, ha, hb, hc, k9⟩
  have k79 := K8.out.trans k9
  have HP9 := Hid.mk (And.intro (k79.heap HP7.out.1 (by simp)) (k79.heap HP7.out.2 (by simp)))
  have M9 := Hid.mk (M7.out.keep k79)
  have HR9 := Hid.mk (HR7.out.kept k79 (by simp))
  have HX9 := Hid.mk (k79.heap HX7.out (by simp))
  have K9 := Hid.mk (K7.out.trans k79)
  have HABC := Hid.mk (And.intro ha (And.intro hb hc))
  clear C5 k79 k9 ha hb hc
  obtain ⟨R, eR⟩ : ∃ R, w5.heap.size = R := ⟨_, rfl⟩
  obtain ⟨X, eX⟩ : ∃ X, w6.heap.size = X := ⟨_, rfl⟩
  simp only [eR] at HR9 HX9 ⊢
  simp only [eX] at HX9 ⊢
  go_wp2_with (fail)
  obtain ⟨d3, ed3⟩ : ∃ d3 : Md, ({ d with g := d.g ++ [(0, (K : Int))] } : Md) = d3 := ⟨_, rfl⟩
  rw [ed3] at M9
  have H3 : Hid (Mok d3 ∧ d3.dead = false ∧ d3.g.length ≤ 901 ∧ d3.b = d.b) := Hid.mk (by
    rw [← ed3]
    exact ⟨⟨HO.out.n, HO.out.by_, HO.out.l0, HO.out.l1, HO.out.k0, HO.out.k1⟩, hd, by simp; have := HG.out; omega, rfl⟩)
  refine range_none (gf := 36) rfl (enters_of Tryd.func36 (by kernel_rfl) rfl) (P :: L3.ownBlock.toList) ?ks (fun W' => ∃ L5, Med W' P V L5 { d3 with g := d3.g ++ [((E : Int), 16)] } 0 ∧ ∀ x ∈ L5.ownBlock.toList, x ∈ L3.ownBlock.toList ∨ w9.heap.size + 2 ≤ x) ?hit ?hdone
  case ks =>
    intro x hx
    simp only [List.mem_cons] at hx
    rcases hx with rfl | hx
    · exact (Array.getElem?_eq_some_iff.1 M9.out.box).1
    · exact own_lt M9.out.log x hx
  case hit =>
    intro W1 kW sW
    refine (chain_none W1 _ a b c P E N V L3 d3 (kW.heap HABC.out.1 (by simp)) (kW.heap HABC.out.2.1 (by simp)) (kW.heap HABC.out.2.2 (by simp)) (M9.out.keep kW) H3.out.1 H3.out.2.1 (by have := H3.out.2.2.1; omega) (by rw [H3.out.2.2.2]; exact HN.out) (by have := HNE.out; omega) (by rw [H3.out.2.2.2]; exact H73.out)).mono ?_
    rintro e w' ⟨L5, hv, m5, k5, l5⟩
    refine ⟨hv, k5, L5, m5, fun x hx => ?_⟩
    rw [← sW]
    exact l5.mem x hx
  case hdone =>
    rintro W' W ⟨L5, m5, l5⟩ kA sA kB hD
    have fR : R ∉ P :: L3.ownBlock.toList := fun hm => foot_of M9.out HR9.out (by decide) (by decide) (by decide) (inL P V L3 R hm)
    have fX : X ∉ P :: L3.ownBlock.toList := fun hm => foot_of M9.out HX9.out (by decide) (by decide) (by decide) (inL P V L3 X hm)
    have f2 : w.heap.size ∉ P :: L3.ownBlock.toList := fun hm => foot_of M9.out HP9.out.1 (by decide) (by decide) (by decide) (inL P V L3 _ hm)
    have f3 : w.heap.size + 1 ∉ P :: L3.ownBlock.toList := fun hm => foot_of M9.out HP9.out.2 (by decide) (by decide) (by decide) (inL P V L3 _ hm)
    have lt9 : ∀ {b : Nat} {o : Obj}, w9.heap[b]? = some o → b ∉ [w9.heap.size + 1] := fun {b o} hb hm => by
      have := (Array.getElem?_eq_some_iff.1 hb).1
      simp at hm
      omega
    have hR := kB.heap (kA.heap HR9.out fR) (lt9 HR9.out)
    have hX := kB.heap (kA.heap HX9.out fX) (lt9 HX9.out)
    have h2 := kB.heap (kA.heap HP9.out.1 f2) (lt9 HP9.out.1)
    have h3 := kB.heap (kA.heap HP9.out.2 f3) (lt9 HP9.out.2)
    have m6 := m5.kept kB (fun x hx hm => by
      simp at hm
      subst hm
      simp only [foot, List.mem_cons, List.mem_append] at hx
      rcases hx with h | h | h
      · have := (Array.getElem?_eq_some_iff.1 M9.out.box).1; omega
      · have := own_lt M9.out.row _ h; omega
      · rcases l5 _ h with h | h
        · have := own_lt M9.out.log _ h; omega
        · omega)
    have kC : Kept (P :: L3.ownBlock.toList) w9 W := kA.step kB (fun x hx => by simp at hx; subst hx; exact .inr (by omega))
    have M10 := Hid.mk m6
    have HR10 : Hid (Rl W R P s r st (.slice none 0 0) false) := Hid.mk hR
    have HX10 := Hid.mk hX
    have HP10 := Hid.mk (And.intro h2 h3)
    have KC := Hid.mk kC
    have HD := Hid.mk hD
    have L10 := Hid.mk l5
    have x0 : W.cell? ⟨X, 0, none⟩ = some (.pointer (some ⟨R, 0, none⟩)) := by simp [World.cell?, hX]
    obtain ⟨D, eD⟩ : ∃ D, w9.heap.size = D := ⟨_, rfl⟩
    rw [eD] at HD L10 ⊢
    have C6 : Hid (Calls Tryd.prog 23 #[.pointer (some ⟨R, 0, none⟩), .int .i64 (N : Int)] W.drew fun e w' => e = .returned (.tuple #[.bool true, .int .i64 0]) ∧ w'.cell? ⟨X, 0, none⟩ = some (.pointer (some ⟨R, 0, none⟩)) ∧ (w'.setCell ⟨R, 5, none⟩ (.bool true)).cell? ⟨X, 0, none⟩ = some (.pointer (some ⟨R, 0, none⟩)) ∧ w'.cell? ⟨R, 5, none⟩ = some (.bool false) ∧ w'.frozen? ⟨R, 5, none⟩ = false ∧ Hid (Rl w' R P s r st (.slice none 0 0) false ∧ w'.heap[X]? = some (.cells #[.pointer (some ⟨R, 0, none⟩)] 31 (0, 0)) ∧ Kept (P :: L5.ownBlock.toList) W w')) := Hid.mk (by
      have kd : Kept [] W W.drew := (Kept.refl [] W).drew
      refine (endsAt_yes W.drew R P N s r st false V L5 _ (HR10.out.kept kd (by simp)) hs r2 hst M10.out.drew H3.out.2.1 (by simp; have := H3.out.2.2.1; omega) (by show d3.b.length = N; rw [H3.out.2.2.2]; exact HN.out) (by show d3.b = _; rw [H3.out.2.2.2]; exact HB.out)).mono ?_
      rintro e w' ⟨L6, rfl, m', k', -⟩
      have kk : Kept (P :: L5.ownBlock.toList) W w' := ((Kept.refl _ W).drew).trans k'
      have gR := kk.heap HR10.out (fun hm => foot_of M10.out HR10.out (by decide) (by decide) (by decide) (inL P V L5 R hm))
      have gX := kk.heap HX10.out (fun hm => foot_of M10.out HX10.out (by decide) (by decide) (by decide) (inL P V L5 X hm))
      have nXR : X ≠ R := fun e => by subst e; rw [gX] at gR; simp at gR
      have gX2 := ((Kept.refl [R] w').setCell (p := ⟨R, 5, none⟩) (.inl (by simp)) (.bool true)).heap gX (by simpa using nXR)
      exact ⟨rfl, by simp [World.cell?, gX], by simp only [World.cell?, gX2]; rfl, by simp [World.cell?, gR], by simp [World.frozen?, gR], Hid.mk ⟨gR, gX, kk⟩⟩)
    clear m5 l5 kA sA kB hD fR fX f2 f3 lt9 hR hX h2 h3 m6 kC
    go_wp2_with (fail)
    refine wp_region_noPanic ?_
    go_region_held_law (fun u => u.cell? ⟨X, 0, none⟩ = some (.pointer (some ⟨R, 0, none⟩))) (first | exact x0 | exact y0 | exact y1 | go_keep) (first | (go_at_call 23; with_reducible refine C6.out.mono ?_; rintro e w11 ⟨rfl, y0, y1, y5, f5, R11⟩))
    all_goals focus
      refine NoPanic.normal ?_
      have gR := R11.out.1
      have k12 : Kept [R] w11 (w11.setCell ⟨R, 5, none⟩ (.bool true)) := (Kept.refl _ _).setCell (.inl (by simp)) _
      have gR2 : Rl (w11.setCell ⟨R, 5, none⟩ (.bool true)) R P s r st (.slice none 0 0) true := by unfold Rl at gR ⊢; rw [heap_setCell_at gR]; simp
      have q2 := k12.heap (R11.out.2.2.heap HP10.out.1 (fun hm => foot_of M10.out HP10.out.1 (by decide) (by decide) (by decide) (inL P V L5 _ hm))) (fun hm => by
        simp at hm
        have h9 := R11.out.2.2.heap HP10.out.1 (fun hm => foot_of M10.out HP10.out.1 (by decide) (by decide) (by decide) (inL P V L5 _ hm))
        unfold Rl at gR
        rw [hm, gR] at h9
        simp at h9)
      have q3 := k12.heap (R11.out.2.2.heap HP10.out.2 (fun hm => foot_of M10.out HP10.out.2 (by decide) (by decide) (by decide) (inL P V L5 _ hm))) (fun hm => by
        simp at hm
        have h9 := R11.out.2.2.heap HP10.out.2 (fun hm => foot_of M10.out HP10.out.2 (by decide) (by decide) (by decide) (inL P V L5 _ hm))
        unfold Rl at gR
        rw [hm, gR] at h9
        simp at h9)
      have qD := k12.heap (R11.out.2.2.heap HD.out (fun hm => foot_def M10.out HD.out (inL P V L5 _ hm))) (fun hm => by
        simp at hm
        have h9 := R11.out.2.2.heap HD.out (fun hm => foot_def M10.out HD.out (inL P V L5 _ hm))
        unfold Rl at gR
        rw [hm, gR] at h9
        simp at h9)
      obtain ⟨w12, ew12⟩ : ∃ w12, w11.setCell ⟨R, 5, none⟩ (.bool true) = w12 := ⟨_, rfl⟩
      rw [ew12] at k12 gR2 q2 q3 qD y1 ⊢
      have z2 : w12.cell? ⟨w.heap.size, 0, none⟩ = some (.pointer none) := by simp [World.cell?, q2]
      have z3 : w12.cell? ⟨w.heap.size + 1, 0, none⟩ = some (.int .i64 0) := by simp [World.cell?, q3]
      have fz2 : w12.frozen? ⟨w.heap.size, 0, none⟩ = false := by simp [World.frozen?, q2]
      have fz3 : w12.frozen? ⟨w.heap.size + 1, 0, none⟩ = false := by simp [World.frozen?, q3]
      have HQ := Hid.mk (And.intro q2 (And.intro q3 (And.intro qD gR2)))
      have K12 := Hid.mk k12
      clear y0 y5 f5 x0 C6 gR k12 gR2 q2 q3 qD ew12
      go_wp2_with (fail)
      have hS : w.heap.size ≤ w3.heap.size := by have := K1.out.size; have := K2.out.size; have := K3.out.1.size; omega
      have hRs : w.heap.size ≤ R := by have := K4.out.size; have := HS5.out; omega
      have hDs : w.heap.size ≤ D := by have := K9.out.size; omega
      have q1 : Kept (P :: L.ownBlock.toList) w w2 := (K1.out.mono (by simp) : Kept (P :: L.ownBlock.toList) w w1).step K2.out (fun x hx => by simp at hx; subst hx; simp)
      have q2 : Kept (P :: L.ownBlock.toList) w w9 := (q1.step K3.out.1 (fun x hx => .inl hx)).step K9.out (by simp)
      have hL3 : ∀ x ∈ L3.ownBlock.toList, x ∈ P :: L.ownBlock.toList ∨ w.heap.size ≤ x := fun x hx => by
        rcases K3.out.2.mem x hx with h | h
        · exact .inl (List.mem_cons_of_mem _ h)
        · exact .inr (by have := q1.size; omega)
      have q3 : Kept (P :: L.ownBlock.toList) w W := q2.step KC.out (fun x hx => by
        simp only [List.mem_cons] at hx
        rcases hx with rfl | hx
        · exact .inl (by simp)
        · exact hL3 x hx)
      have q4 : Kept (P :: L.ownBlock.toList) w w11 := q3.step R11.out.2.2 (fun x hx => by
        simp only [List.mem_cons] at hx
        rcases hx with rfl | hx
        · exact .inl (by simp)
        · rcases L10.out x hx with h | h
          · exact hL3 x h
          · exact .inr (by omega))
      have q5 : Kept (P :: L.ownBlock.toList) w w12 := q4.step K12.out (fun x hx => by simp at hx; subst hx; exact .inr hRs)
      have k13 : Kept [w.heap.size, w.heap.size + 1] w12 ((w12.setCell ⟨w.heap.size, 0, none⟩ (.pointer (some ⟨R, 0, none⟩))).setCell ⟨w.heap.size + 1, 0, none⟩ (.int .i64 0)) := ((Kept.refl _ _).setCell (.inl (by simp)) _).setCell (.inl (by simp)) _
      have g2 : ((w12.setCell ⟨w.heap.size, 0, none⟩ (.pointer (some ⟨R, 0, none⟩))).setCell ⟨w.heap.size + 1, 0, none⟩ (.int .i64 0)).heap[w.heap.size]? = some (.cells #[.pointer (some ⟨R, 0, none⟩)] 31 (0, 0)) := by
        have := ((Kept.refl [w.heap.size + 1] (w12.setCell ⟨w.heap.size, 0, none⟩ (.pointer (some ⟨R, 0, none⟩)))).setCell (p := ⟨w.heap.size + 1, 0, none⟩) (.inl (by simp)) (.int .i64 0)).heap (heap_setCell_at (i := 0) (u := .pointer (some ⟨R, 0, none⟩)) HQ.out.1) (by simp)
        simpa using this
      have g3 : ((w12.setCell ⟨w.heap.size, 0, none⟩ (.pointer (some ⟨R, 0, none⟩))).setCell ⟨w.heap.size + 1, 0, none⟩ (.int .i64 0)).heap[w.heap.size + 1]? = some (.cells #[.int .i64 0] 27 (0, 0)) := by
        have h9 := ((Kept.refl [w.heap.size] w12).setCell (p := ⟨w.heap.size, 0, none⟩) (.inl (by simp)) (.pointer (some ⟨R, 0, none⟩))).heap HQ.out.2.1 (by simp)
        rw [heap_setCell_at h9]; simp
      have nD : D ∉ [w.heap.size, w.heap.size + 1] := fun hm => by
        have h9 := HQ.out.2.2.1
        simp at hm
        rcases hm with e | e
        · rw [e, HQ.out.1] at h9; simp at h9
        · rw [e, HQ.out.2.1] at h9; simp at h9
      have nR : R ∉ [w.heap.size, w.heap.size + 1] := fun hm => by
        have h9 := HQ.out.2.2.2
        unfold Rl at h9
        simp at hm
        rcases hm with e | e
        · rw [e, HQ.out.1] at h9; simp at h9
        · rw [e, HQ.out.2.1] at h9; simp at h9
      have gD := k13.heap HQ.out.2.2.1 nD
      have gR := HQ.out.2.2.2.kept k13 nR
      have q6 : Kept (P :: L.ownBlock.toList) w ((w12.setCell ⟨w.heap.size, 0, none⟩ (.pointer (some ⟨R, 0, none⟩))).setCell ⟨w.heap.size + 1, 0, none⟩ (.int .i64 0)) := q5.step k13 (fun x hx => by simp at hx; right; omega)
      obtain ⟨w13, ew13⟩ : ∃ w13, (w12.setCell ⟨w.heap.size, 0, none⟩ (.pointer (some ⟨R, 0, none⟩))).setCell ⟨w.heap.size + 1, 0, none⟩ (.int .i64 0) = w13 := ⟨_, rfl⟩
      rw [ew13] at g2 g3 gD gR q6 ⊢
      have nDR : R ∉ [D] := fun hm => by
        simp at hm
        subst hm
        unfold Rl at gR
        rw [gD] at gR
        simp at gR
      have nD2 : D ≠ w.heap.size ∧ D ≠ w.heap.size + 1 := by simp at nD; exact nD
      have kF : Kept [D] w13 (w13.putObj D (.deferred none)) := (Kept.refl _ _).putObj _ (.inl (by simp))
      have e2 := kF.heap g2 (by simp; omega)
      have e3 := kF.heap g3 (by simp; omega)
      refine ⟨by simp, .inl ⟨_, _, rfl, run_takeDeferred gD, ?_⟩⟩
      refine ⟨_, results_cells _ _ w.heap.size (w.heap.size + 1) (.pointer (some ⟨R, 0, none⟩)) (.int .i64 0) rfl rfl (by simp [World.cell?, e2]) (by simp [World.cell?, e3]), R, rfl, gR.kept kF nDR, q6.step kF (fun x hx => by simp at hx; subst hx; exact .inr hDs)⟩
end Go.Proofs.YtlkbpimlofgflaaDoor
