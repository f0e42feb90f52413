import Derived.Test.YtknkjhfemgiiaaaDoorVc
namespace Go.Proofs.YtknkjhfemgiiaaaDoor
open Go.RowKit Go.Lib

theorem Tryd.infoE : (Tryd.prog.info? 34).map (fun i => (i.zero, i.size, i.bytes)) = some (some (.agg #[.string ByteArray.empty, .int .i64 0, .int .i64 0, .int .i64 0, .string ByteArray.empty]), 5, 56) := by kernel_rfl
theorem PsA.app {B p : Nat} {w : World} {P : Ps} {v : Value} (h : PsA B w p P v) (hB : B ≤ w.heap.size) (x : Evt) (hn : P.es.length ≤ 1000) :
    ∃ g c w1, Sem.run Tryd.prog (Builtin.append_ #[24, 24] 24 #[v, .slice (some ⟨w.heap.size, 0, none⟩) 1 1]) (w.alloc (.cells #[.string x.reel, .int .i64 x.inn, .int .i64 x.out, .int .i64 x.fade, .string x.note] 34)) = .ok (.slice (some ⟨g, 0, none⟩) (P.es.length + 1) c) w1 ∧ w1.cell? ⟨p, 2, none⟩ = some v ∧ w1.frozen? ⟨p, 2, none⟩ = false ∧ Kept v.ownBlock.toList w w1 ∧
      PsA B (w1.setCell ⟨p, 2, none⟩ (.slice (some ⟨g, 0, none⟩) (P.es.length + 1) c)) p ⟨P.t, P.r, P.es ++ [x], P.bg⟩ (.slice (some ⟨g, 0, none⟩) (P.es.length + 1) c) ∧ Bx B p w (w1.setCell ⟨p, 2, none⟩ (.slice (some ⟨g, 0, none⟩) (P.es.length + 1) c)) := by
  obtain ⟨g, c, w1, hrun, h2, hk, hg⟩ := appN w B 24 34 5 56 _ Tryd.underlying24 Tryd.infoE rfl (by decide) v P.es.length _ h.er hB [.string x.reel, .int .i64 x.inn, .int .i64 x.out, .int .i64 x.fade, .string x.note] rfl (by simp [Value.oneCell']) (by omega) (by omega)
  have hb1 := hk.heap h.bx (own_ty h.bx (by decide) h.er)
  have ks := kset w1 p 2 (.slice (some ⟨g, 0, none⟩) (P.es.length + 1) c)
  have a2 := own_ty hb1 (by decide) h2
  refine ⟨g, c, w1, hrun, by simp [World.cell?, hb1], fzb hb1 2, hk, ⟨?_, ?_⟩, ?_⟩
  · rw [heap_setCell_at hb1]; rfl
  · have := ks.row h2 (fun x hx hm => a2 (by simp at hm; subst hm; simp [hx]))
    simpa [ecs_snoc] using this
  · exact (hk.bx hB (fun x hx => .inr (own_base h.er x hx))).trans (ks.bx (Nat.le_trans hB hk.size) (by simp))
/-- What a line of an event needs. -/
structure Tke (P : Ps) (X : Rr) : Prop where
  rt : Rt P.r
  bd : ∀ x ∈ P.es, Ebd x
  ln : P.es.length < 200
  s1 : (evF P.r X).1.1.reel.size ≤ maxLen
  s2 : (evF P.r X).1.1.note.size ≤ maxLen
theorem ce_last {B p : Nat} {w : World} (t : ByteArray) (r : Int) (es : List Evt) (x : Evt) (g c : Nat) (bg : Bool) (h : PsA B w p ⟨t, r, es ++ [x], bg⟩ (.slice (some ⟨g, 0, none⟩) (es.length + 1) c)) (hr : Rt r) (hT : Tb w) (hU : Ut w) (hb : ∀ y ∈ es, Ebd y) (hn : es.length < 200) (s1 : x.reel.size ≤ maxLen) (s2 : x.note.size ≤ maxLen) :
    Calls Tryd.prog 18 #[.agg #[.string t, .int .i64 r, .slice (some ⟨g, 0, none⟩) (es.length + 1) c], .int .i64 es.length] w fun e w' => CeP es.length (ceE (dy r) (lfA es.getLast?) x) w e w' := by
  have hl : (es ++ [x]).length = es.length + 1 := by simp
  have hE := h.er
  simp only [hl] at hE
  rcases evl_row hE hl with h0 | ⟨g', o', h1, hR⟩
  · simp at h0
  · cases h1
    have hx : (es ++ [x])[es.length]? = some x := by simp
    have := checkEvent_any t r g 0 c es.length (es ++ [x]) x w hR hx hr hT hU s1 s2 (lfA es.getLast?) (fun u hu => by
      cases hes : es.getLast? with
      | none =>
        obtain rfl : es = [] := List.getLast?_eq_none_iff.1 hes
        exact leftAhead_first t r (some ⟨g, 0, none⟩) _ c u
      | some y =>
        have hne : es ≠ [] := fun h0 => by rw [h0] at hes; cases hes
        have hpos : 0 < es.length := List.length_pos_iff.2 hne
        obtain ⟨j, hj⟩ : ∃ j, es.length = j + 1 := ⟨es.length - 1, by omega⟩
        have hy : es[j]? = some y := by rw [List.getLast?_eq_getElem?, hj] at hes; exact hes
        have hy2 : (es ++ [x])[j]? = some y := by rw [List.getElem?_append_left (by omega)]; exact hy
        have h9 := leftAhead_next t r g 0 c j (es ++ [x]) y u (hR.keep hu) hy2 (hb y (List.mem_of_getElem? hy)) (by rw [hl]; omega)
        rw [hj]
        simpa [lfA] using h9)
    rw [hl] at this
    exact this

set_option maxHeartbeats 16000000 in
set_option maxRecDepth 1000000 in
theorem take_err (B p B2 : Nat) (P : Ps) (v0 : Value) (a : Option Addr) (c : Nat) (x : Wd) (t : List Wd) (en : Int) (w : World) (hB : B ≤ w.heap.size) (hP : PsA B w p P v0) (hw : w.ownsRow B2 56 3 (.slice a (t.length + 1) c) (t.length + 1) (wcs (x :: t))) (hV : Vs w) (hty : 6 ≤ B) (htp : 6 ≤ p) (hX : Sz (tkX (x :: t) en)) (hb : P.bg = true) (hT : Tke P (tkX (x :: t) en)) (y : Int × Int) (he : (evF P.r (tkX (x :: t) en)).2.er = some y) :
    Calls Tryd.prog 9 #[.pointer (some ⟨p, 0, none⟩), .agg #[.slice a (t.length + 1) c, .int .i64 en]] w fun e w' => TkP B p w (P, some y) e w' := by
  have hs9 := And.intro hty htp
  clear hs9
  obtain ⟨P0, r0, es, bg⟩ := P
  simp only at hb he ⊢
  obtain ⟨g, rfl, hf1, hgl⟩ := word_first hw
  have hp := lt_of_block hP.bx
  obtain ⟨w1, e1⟩ : ∃ w1, w.alloc (.cells #[.slice (some ⟨g, 0, none⟩) (t.length + 1) c, .int .i64 en] 43 (0, 0)) = w1 := ⟨_, rfl⟩
  have k1 : Kept [] w w1 := by rw [← e1]; exact alloc_kept _ _
  have z1 : w1.heap.size = w.heap.size + 1 := by rw [← e1]; simp
  have bl := heap_alloc_new w (.cells #[.slice (some ⟨g, 0, none⟩) (t.length + 1) c, .int .i64 en] 43 (0, 0))
  rw [e1] at bl
  have l0 : w1.cell? ⟨w.heap.size, 0, none⟩ = some (.slice (some ⟨g, 0, none⟩) (t.length + 1) c) := by simp [World.cell?, bl]
  have l1 : w1.cell? ⟨w.heap.size, 1, none⟩ = some (.int .i64 en) := by simp [World.cell?, bl]
  have f1 := cell_keep k1 hf1 (by simp)
  have RP2 := reader_new w1 (some ⟨g, 0, none⟩) c (x :: t) en B2 (k1.row hw (by simp))
  obtain ⟨w2, e2⟩ : ∃ w2, w1.alloc (.cells #[.slice (some ⟨g, 0, none⟩) (t.length + 1) c, .int .i64 en, .nilIface] 58 (0, 0)) = w2 := ⟨_, rfl⟩
  have k2 : Kept [] w1 w2 := by rw [← e2]; exact alloc_kept _ _
  have z2 : w2.heap.size = w.heap.size + 2 := by rw [← e2]; simp [z1]
  simp only [List.length_cons] at RP2
  rw [e2] at RP2
  have P2 := (hP.keep k1).keep k2
  obtain ⟨p0, p1, p2, p3⟩ := P2.cells
  simp only at p0 p1 p2 p3
  have pf0 := fzb P2.bx 0
  have pf1 := fzb P2.bx 1
  have pf2 := fzb P2.bx 2
  have pf3 := fzb P2.bx 3
  have V2 := (hV.keep k1).keep k2
  have HP := Hid.mk P2
  have HR := Hid.mk RP2
  have HV := Hid.mk V2
  have K2 := Hid.mk (k1.trans k2)
  have HX := Hid.mk hX
  have hn9 : ¬ ((t.length : Int) + 1 = 0) := by omega
  have Z1 := Hid.mk z1
  have Z2 := Hid.mk z2
  have hgl1 : g < w1.heap.size := by omega
  have hp1 : p < w1.heap.size := by omega
  clear hP hw hV k1 k2 bl P2 RP2 V2 hX hf1 z1 z2
  have E2 := Hid.mk e2
  clear e2
  have HT := Hid.mk hT
  clear hT
  subst hb
  obtain ⟨va, vc, evv0, -⟩ := row_form2 HP.out.er
  subst evv0
  simp only at p2
  have hl9 := HT.out.ln
  simp only at hl9
  have hl8 : ¬ ((es.length : Int) = 200) := by omega
  have CE := Hid.mk (event_any w1.heap.size r0 w2 _ HR.out HV.out.tb (by have := Z1.out; omega) HX.out)
  go_enter Tryd.func9, Tryd.ntmps9
  go_upto_region 5 with (fail)
  rw [E2.out]
  go_wp2_with (fail)
  refine CE.out.mono ?_
  rintro e w3 ⟨rfl, a3, c3, ev3, r3, k3⟩
  clear CE p0 p1 p2 p3 pf0 pf1 pf2 pf3
  generalize hR : evF r0 (tkX (x :: t) en) = R at *
  obtain ⟨⟨⟨n1, i1, o1, f9, s1⟩, pl9⟩, X4⟩ := R
  simp only at he
  have hev := r3.ev
  rw [he] at hev
  obtain ⟨Q, rfl, hQ⟩ := hev
  unfold evv
  have c6 := r3.cells.2.2
  obtain ⟨w4, e4⟩ : ∃ w4, w3.alloc (.cells #[.string n1, .int .i64 i1, .int .i64 o1, .int .i64 f9, .string s1] 34 (0, 0)) = w4 := ⟨_, rfl⟩
  have k4 : Kept [] w3 w4 := by rw [← e4]; exact alloc_kept _ _
  have c7 := cell_keep k4 c6 (by simp)
  have q0 := lt_of_block r3.bx
  have BX : Bx B p w w4 := ((K2.out.b0 hB).trans (k3.bx (by have := Z2.out; omega) (by have := Z1.out; simp; omega))).trans (k4.b0 (by have := k3.size; have := Z2.out; omega))
  obtain ⟨a8, c8, v8, r8, -⟩ := HR.out
  have P4 := (HP.out.kept k3 r8.bx).keep k4
  have HF : Hid (TkP B p w (⟨P0, r0, es, true⟩, some y) (.returned (.iface 45 (.pointer (some ⟨Q, 0, none⟩)))) w4) := Hid.mk ⟨_, _, rfl, ⟨Q, rfl, k4.heap hQ (by simp)⟩, P4, BX⟩
  clear r3 k3 c6 hQ k4 BX P4 hR he
  go_wp2
  go_ret
  exact HF.out

set_option maxHeartbeats 16000000 in
set_option maxRecDepth 1000000 in
theorem take_event (B p B2 : Nat) (P : Ps) (v0 : Value) (a : Option Addr) (c : Nat) (x : Wd) (t : List Wd) (en : Int) (w : World) (hB : B ≤ w.heap.size) (hP : PsA B w p P v0) (hw : w.ownsRow B2 56 3 (.slice a (t.length + 1) c) (t.length + 1) (wcs (x :: t))) (hV : Vs w) (hty : 6 ≤ B) (htp : 6 ≤ p) (hX : Sz (tkX (x :: t) en)) (hb : P.bg = true) (hT : Tke P (tkX (x :: t) en)) (he : (evF P.r (tkX (x :: t) en)).2.er = none) :
    Calls Tryd.prog 9 #[.pointer (some ⟨p, 0, none⟩), .agg #[.slice a (t.length + 1) c, .int .i64 en]] w fun e w' => TkP B p w (⟨P.t, P.r, P.es ++ [(evF P.r (tkX (x :: t) en)).1.1], true⟩, plE (eo P.es.length (ceE (dy P.r) (lfA P.es.getLast?) (evF P.r (tkX (x :: t) en)).1.1)) x.pl (evF P.r (tkX (x :: t) en)).1.2) e w' := by
  have hs9 := And.intro hty htp
  clear hs9
  obtain ⟨P0, r0, es, bg⟩ := P
  simp only at hb he ⊢
  obtain ⟨g, rfl, hf1, hgl⟩ := word_first hw
  have hp := lt_of_block hP.bx
  obtain ⟨w1, e1⟩ : ∃ w1, w.alloc (.cells #[.slice (some ⟨g, 0, none⟩) (t.length + 1) c, .int .i64 en] 43 (0, 0)) = w1 := ⟨_, rfl⟩
  have k1 : Kept [] w w1 := by rw [← e1]; exact alloc_kept _ _
  have z1 : w1.heap.size = w.heap.size + 1 := by rw [← e1]; simp
  have bl := heap_alloc_new w (.cells #[.slice (some ⟨g, 0, none⟩) (t.length + 1) c, .int .i64 en] 43 (0, 0))
  rw [e1] at bl
  have l0 : w1.cell? ⟨w.heap.size, 0, none⟩ = some (.slice (some ⟨g, 0, none⟩) (t.length + 1) c) := by simp [World.cell?, bl]
  have l1 : w1.cell? ⟨w.heap.size, 1, none⟩ = some (.int .i64 en) := by simp [World.cell?, bl]
  have f1 := cell_keep k1 hf1 (by simp)
  have RP2 := reader_new w1 (some ⟨g, 0, none⟩) c (x :: t) en B2 (k1.row hw (by simp))
  obtain ⟨w2, e2⟩ : ∃ w2, w1.alloc (.cells #[.slice (some ⟨g, 0, none⟩) (t.length + 1) c, .int .i64 en, .nilIface] 58 (0, 0)) = w2 := ⟨_, rfl⟩
  have k2 : Kept [] w1 w2 := by rw [← e2]; exact alloc_kept _ _
  have z2 : w2.heap.size = w.heap.size + 2 := by rw [← e2]; simp [z1]
  simp only [List.length_cons] at RP2
  rw [e2] at RP2
  have P2 := (hP.keep k1).keep k2
  obtain ⟨p0, p1, p2, p3⟩ := P2.cells
  simp only at p0 p1 p2 p3
  have pf0 := fzb P2.bx 0
  have pf1 := fzb P2.bx 1
  have pf2 := fzb P2.bx 2
  have pf3 := fzb P2.bx 3
  have V2 := (hV.keep k1).keep k2
  have HP := Hid.mk P2
  have HR := Hid.mk RP2
  have HV := Hid.mk V2
  have hV9 := hV
  have K2 := Hid.mk (k1.trans k2)
  have HX := Hid.mk hX
  have hn9 : ¬ ((t.length : Int) + 1 = 0) := by omega
  have Z1 := Hid.mk z1
  have Z2 := Hid.mk z2
  have hgl1 : g < w1.heap.size := by omega
  have hp1 : p < w1.heap.size := by omega
  clear hP hw hV k1 k2 bl P2 RP2 V2 hX hf1 z1 z2
  have E2 := Hid.mk e2
  clear e2
  have HT := Hid.mk hT
  clear hT
  subst hb
  obtain ⟨va, vc, evv0, -⟩ := row_form2 HP.out.er
  subst evv0
  simp only at p2
  have hl9 := HT.out.ln
  simp only at hl9
  have hl8 : ¬ ((es.length : Int) = 200) := by omega
  have ht1 := HT.out.s1
  have ht2 := HT.out.s2
  have CE := Hid.mk (event_any w1.heap.size r0 w2 _ HR.out HV.out.tb (by have := Z1.out; omega) HX.out)
  generalize hR : evF r0 (tkX (x :: t) en) = R at *
  obtain ⟨⟨⟨n1, i1, o1, f9, s1⟩, pl9⟩, X4⟩ := R
  simp only at CE he ht1 ht2 ⊢
  generalize hplE : plE (eo (es.length : Int) (ceE (dy r0) (lfA es.getLast?) ⟨n1, i1, o1, f9, s1⟩)) x.pl pl9 = PL at *
  have HPL := Hid.mk hplE
  clear hplE hR
  go_enter Tryd.func9, Tryd.ntmps9
  go_upto_region 5 with (fail)
  rw [E2.out]
  go_wp2_with (fail)
  refine CE.out.mono ?_
  rintro e w3 ⟨rfl, a3, c3, ev3, r3, k3⟩
  clear CE p0 p1 p2 p3 pf0 pf1 pf2 pf3
  have hev := r3.ev
  rw [he] at hev
  obtain rfl : ev3 = .nilIface := hev
  unfold evv
  have c6 := r3.cells.2.2
  obtain ⟨w4, e4⟩ : ∃ w4, w3.alloc (.cells #[.string n1, .int .i64 i1, .int .i64 o1, .int .i64 f9, .string s1] 34 (0, 0)) = w4 := ⟨_, rfl⟩
  have k4 : Kept [] w3 w4 := by rw [← e4]; exact alloc_kept _ _
  have b4 := heap_alloc_new w3 (.cells #[.string n1, .int .i64 i1, .int .i64 o1, .int .i64 f9, .string s1] 34 (0, 0))
  rw [e4] at b4
  have c7 := cell_keep k4 c6 (by simp)
  have hz3 := k3.size
  obtain ⟨a8, c8, v8, r8, -⟩ := HR.out
  have P3 := HP.out.kept k3 r8.bx
  have P4 := P3.keep k4
  have hva : w3.heap.size ∉ (Value.slice va es.length vc).ownBlock.toList := fun hm => by
    rcases P3.er.2 with ⟨h1, _⟩ | ⟨g9, _, _, h1, _, h3, _⟩
    · rw [h1] at hm; simp [Value.ownBlock] at hm
    · rw [h1] at hm; simp [Value.ownBlock] at hm
      have := lt_of_block h3
      omega
  have hva2 : w3.heap.size ≠ p := fun h => by have := lt_of_block P3.bx; omega
  obtain ⟨m0, m1, m2, m3, m4⟩ := ev_cells b4
  have V4 := HV.out
  have B4 : Bx B p w w4 := ((K2.out.b0 hB).trans (k3.bx (by have := Z2.out; omega) (by have := Z1.out; simp; omega))).trans (k4.b0 (by have := k3.size; have := Z2.out; omega))
  have HP4 := Hid.mk P4
  have HB4 := Hid.mk B4
  have hB4 : B ≤ w4.heap.size := by have := k3.size; have := k4.size; have := Z2.out; omega
  have VW : Hid (Vs w) := Hid.mk hV9
  clear hV9
  have HVA := Hid.mk (And.intro hva hva2)
  clear r3 k3 c6 P3 P4 B4 r8 hva hva2 V4
  go_upto_region 14 with (fail)
  have SA : Hid (∀ u, Kept [] w4 u → u.cell? ⟨w3.heap.size, 0, none⟩ = some (.string n1) ∧ u.cell? ⟨w3.heap.size, 1, none⟩ = some (.int .i64 i1) ∧ u.cell? ⟨w3.heap.size, 2, none⟩ = some (.int .i64 o1) ∧ u.cell? ⟨w3.heap.size, 3, none⟩ = some (.int .i64 f9) ∧ u.cell? ⟨w3.heap.size, 4, none⟩ = some (.string s1)) := Hid.mk (fun u hu => ⟨cell_keep hu m0 (by simp), cell_keep hu m1 (by simp), cell_keep hu m2 (by simp), cell_keep hu m3 (by simp), cell_keep hu m4 (by simp)⟩)
  have SL : Hid (∀ u, Kept [] w4 u → u.cell? ⟨p, 2, none⟩ = some (.slice va es.length vc)) := Hid.mk (fun u hu => cell_keep hu HP4.out.cells.2.2.1 (by simp))
  clear m0 m1 m2 m3 m4
  refine wp_region_held_drew (S := fun u => u.cell? ⟨w3.heap.size, 0, none⟩ = some (.string n1) ∧ u.cell? ⟨w3.heap.size, 1, none⟩ = some (.int .i64 i1) ∧ u.cell? ⟨w3.heap.size, 2, none⟩ = some (.int .i64 o1) ∧ u.cell? ⟨w3.heap.size, 3, none⟩ = some (.int .i64 f9) ∧ u.cell? ⟨w3.heap.size, 4, none⟩ = some (.string s1)) (by kernel_rfl) (SA.out _ (Kept.refl [] w4).drew) (fun hH0 => ?_)
  have KD := Hid.mk ((Kept.refl [] w4).drew)
  generalize w4.drew = wd at *
  refine wpAnyH_take (i := 0) (v := ?_) rfl (by kernel_rfl) (by kernel_rfl) (by kernel_rfl) (fun _ _ _ h => h) (Or.inl ⟨by rfl, ?_⟩) (by assumption) ?_
  rotate_left
  · intro w hSw
    try dsimp only at hSw
    go_simp
    all_goals with_reducible rfl
  simp only [Act.put, List.getElem_toArray, List.getElem_cons_zero, List.setIfInBounds_toArray, List.set_cons_zero, List.set_cons_succ]
  refine wpAnyH_take (i := 1) (v := ?_) rfl (by kernel_rfl) (by kernel_rfl) (by kernel_rfl) (fun _ _ _ h => h) (Or.inl ⟨by rfl, ?_⟩) (by assumption) ?_
  rotate_left
  · intro w hSw
    try dsimp only at hSw
    go_simp
    all_goals with_reducible rfl
  simp only [Act.put, List.getElem_toArray, List.getElem_cons_zero, List.getElem_cons_succ, List.setIfInBounds_toArray, List.set_cons_zero, List.set_cons_succ]
  refine wpAnyH_take (i := 2) (v := ?_) rfl (by kernel_rfl) (by kernel_rfl) (by kernel_rfl) (fun _ _ _ h => h) (Or.inl ⟨by rfl, ?_⟩) (by assumption) ?_
  rotate_left
  · intro w hSw
    try dsimp only at hSw
    go_simp
    all_goals with_reducible rfl
  simp only [Act.put, List.getElem_toArray, List.getElem_cons_zero, List.getElem_cons_succ, List.setIfInBounds_toArray, List.set_cons_zero, List.set_cons_succ]
  refine wpAnyH_take (i := 3) (v := ?_) rfl (by kernel_rfl) (by kernel_rfl) (by kernel_rfl) (fun _ _ _ h => h) (Or.inl ⟨by rfl, ?_⟩) (by assumption) ?_
  rotate_left
  · intro w hSw
    try dsimp only at hSw
    go_simp
    all_goals with_reducible rfl
  simp only [Act.put, List.getElem_toArray, List.getElem_cons_zero, List.getElem_cons_succ, List.setIfInBounds_toArray, List.set_cons_zero, List.set_cons_succ]
  refine wpAnyH_take (i := 4) (v := ?_) rfl (by kernel_rfl) (by kernel_rfl) (by kernel_rfl) (fun _ _ _ h => h) (Or.inl ⟨by rfl, ?_⟩) (by assumption) ?_
  rotate_left
  · intro w hSw
    try dsimp only at hSw
    go_simp
    all_goals with_reducible rfl
  simp only [Act.put, List.getElem_toArray, List.getElem_cons_zero, List.getElem_cons_succ, List.setIfInBounds_toArray, List.set_cons_zero, List.set_cons_succ]
  refine wpAnyH_take (i := 6) (v := ?_) rfl (by kernel_rfl) (by kernel_rfl) (by kernel_rfl) (fun _ _ _ h => h) (Or.inl ⟨by rfl, ?_⟩) (by assumption) ?_
  rotate_left
  · intro w hSw
    try dsimp only at hSw
    go_simp
    all_goals with_reducible rfl
  simp only [Act.put, List.getElem_toArray, List.getElem_cons_zero, List.getElem_cons_succ, List.setIfInBounds_toArray, List.set_cons_zero, List.set_cons_succ]
  have PD := HP4.out.keep KD.out
  obtain ⟨g5, c5, w5, hrun, x2, z2, k5, P6, B6⟩ := PD.app (Nat.le_trans hB4 KD.out.size) ⟨n1, i1, o1, f9, s1⟩ (by simp only; omega)
  simp only at hrun P6 B6
  have KB5 : Kept (Value.slice va es.length vc).ownBlock.toList wd w5 := k5
  have b5 := KB5.heap (KD.out.heap b4 (by simp)) HVA.out.1
  obtain ⟨n0, n1', n2, n3, n4⟩ := ev_cells b5
  have HC : Hid (w5.cell? ⟨w3.heap.size, 0, none⟩ = some (.string n1) ∧ w5.cell? ⟨w3.heap.size, 1, none⟩ = some (.int .i64 i1) ∧ w5.cell? ⟨w3.heap.size, 2, none⟩ = some (.int .i64 o1) ∧ w5.cell? ⟨w3.heap.size, 3, none⟩ = some (.int .i64 f9) ∧ w5.cell? ⟨w3.heap.size, 4, none⟩ = some (.string s1)) := Hid.mk ⟨n0, n1', n2, n3, n4⟩
  have b6 := (kset w5 p 2 (.slice (some ⟨g5, 0, none⟩) (es.length + 1) c5)).heap b5 (by simpa using HVA.out.2)
  obtain ⟨o0, o1', o2, o3, o4⟩ := ev_cells b6
  have HE : Hid ((w5.setCell ⟨p, 2, none⟩ (.slice (some ⟨g5, 0, none⟩) (es.length + 1) c5)).cell? ⟨w3.heap.size, 0, none⟩ = some (.string n1) ∧ (w5.setCell ⟨p, 2, none⟩ (.slice (some ⟨g5, 0, none⟩) (es.length + 1) c5)).cell? ⟨w3.heap.size, 1, none⟩ = some (.int .i64 i1) ∧ (w5.setCell ⟨p, 2, none⟩ (.slice (some ⟨g5, 0, none⟩) (es.length + 1) c5)).cell? ⟨w3.heap.size, 2, none⟩ = some (.int .i64 o1) ∧ (w5.setCell ⟨p, 2, none⟩ (.slice (some ⟨g5, 0, none⟩) (es.length + 1) c5)).cell? ⟨w3.heap.size, 3, none⟩ = some (.int .i64 f9) ∧ (w5.setCell ⟨p, 2, none⟩ (.slice (some ⟨g5, 0, none⟩) (es.length + 1) c5)).cell? ⟨w3.heap.size, 4, none⟩ = some (.string s1)) := Hid.mk ⟨o0, o1', o2, o3, o4⟩
  have HP6 := Hid.mk P6
  have HB6 := Hid.mk ((HB4.out.trans (KD.out.b0 hB4)).trans B6)
  clear P6 B6 k5 KB5 b5 b6 n0 n1' n2 n3 n4 o0 o1' o2 o3 o4 PD
  refine wpAnyH_ready (rs := [5, 7]) (by kernel_rfl) (by simp) ?_
  refine AllReadyH.cons rfl (fun K9 hK9 => ?_) (AllReadyH.cons rfl (fun K9 hK9 => ?_) AllReadyH.nil)
  · have c0 := SL.out wd KD.out
    go_simp
    refine hK9.out _ _ (SA.out _ KD.out) (fun hHeld2 => ?_)
    clear hK9 K9 c0
    refine wpAnyH_ready (rs := [7]) (by kernel_rfl) (by simp) ?_
    refine AllReadyH.cons rfl (fun K9 hK9 => ?_) AllReadyH.nil
    go_simp
    refine hK9.out _ _ (SA.out _ (KD.out.alloc _)) (fun hHeld2 => ?_)
    clear hK9 K9
    refine wpAnyH_ready (rs := [8]) (by kernel_rfl) (by simp) ?_
    refine AllReadyH.cons rfl (fun K9 hK9 => ?_) AllReadyH.nil
    refine step_app rfl _ _ 24 rfl _ _ _ _ rfl rfl hrun ?_
    simp only [Act.put, List.getElem_toArray, List.getElem_cons_zero, List.getElem_cons_succ, List.setIfInBounds_toArray, List.set_cons_zero, List.set_cons_succ]
    refine hK9.out _ _ HC.out (fun hHeld2 => ?_)
    clear hK9 K9
    refine wpAnyH_take (i := 9) (v := ?_) rfl (by kernel_rfl) (by kernel_rfl) (by kernel_rfl) (fun _ _ _ h => h) (Or.inl ⟨by rfl, ?_⟩) (by assumption) ?_
    rotate_left
    · intro w hSw
      try dsimp only at hSw
      go_simp
      all_goals with_reducible rfl
    simp only [Act.put, List.getElem_toArray, List.getElem_cons_zero, List.getElem_cons_succ, List.setIfInBounds_toArray, List.set_cons_zero, List.set_cons_succ]
    refine wpAnyH_take (i := 10) (v := ?_) rfl (by kernel_rfl) (by kernel_rfl) (by kernel_rfl) (fun _ _ _ h => h) (Or.inl ⟨by rfl, ?_⟩) (by assumption) ?_
    rotate_left
    · intro w hSw
      try dsimp only at hSw
      go_simp
      all_goals with_reducible rfl
    simp only [Act.put, List.getElem_toArray, List.getElem_cons_zero, List.getElem_cons_succ, List.setIfInBounds_toArray, List.set_cons_zero, List.set_cons_succ]
    refine wpAnyH_take (i := 11) (v := ?_) rfl (by kernel_rfl) (by kernel_rfl) (by kernel_rfl) (fun _ _ _ h => h) (Or.inl ⟨by rfl, ?_⟩) (by assumption) ?_
    rotate_left
    · intro w hSw
      try dsimp only at hSw
      go_simp
      all_goals with_reducible rfl
    simp only [Act.put, List.getElem_toArray, List.getElem_cons_zero, List.getElem_cons_succ, List.setIfInBounds_toArray, List.set_cons_zero, List.set_cons_succ]
    refine wpAnyH_ready (rs := [12]) (by kernel_rfl) (by simp) ?_
    refine AllReadyH.cons rfl (fun K9 hK9 => ?_) AllReadyH.nil
    go_simp
    refine hK9.out _ _ HE.out (fun hHeld2 => ?_)
    clear hK9 K9
    refine wpAnyH_done (by kernel_rfl) ?_ _
    clear SA SL hrun x2 z2 HC HE hH0 e4 c7
    generalize w5.setCell ⟨p, 2, none⟩ (.slice (some ⟨g5, 0, none⟩) (es.length + 1) c5) = w6 at *
    have hB6 : B ≤ w6.heap.size := Nat.le_trans hB HB6.out.size
    go_wp2_with (fail)
    have SB : Hid (∀ u, Kept [] w6 u → u.cell? ⟨p, 0, none⟩ = some (.string P0) ∧ u.cell? ⟨p, 1, none⟩ = some (.int .i64 r0) ∧ u.cell? ⟨p, 2, none⟩ = some (.slice (some ⟨g5, 0, none⟩) (es.length + 1) c5)) := Hid.mk (fun u hu => by
      obtain ⟨y0, y1, y2, -⟩ := (HP6.out.keep hu).cells
      exact ⟨y0, y1, y2⟩)
    have w9 : wrap64 ((es.length : Int) + 1 - 1) = (es.length : Int) := by rw [show (es.length : Int) + 1 - 1 = (es.length : Int) from by omega]; exact w64_in (by omega) (by omega)
    have w8 : IntKind.i64.wrap ((es.length : Int) + 1 - 1) = (es.length : Int) := by rw [show (es.length : Int) + 1 - 1 = (es.length : Int) from by omega]; exact wrap_i (by omega) (by omega)
    have w6' : IntKind.i64.wrap (es.length : Int) = (es.length : Int) := wrap_i (by omega) (by omega)
    have w5' : wrap64 (es.length : Int) = (es.length : Int) := w64_in (by omega) (by omega)
    have w7 : (es.length : Int) + 1 - 1 = (es.length : Int) := by omega
    refine wp_region_held_drew (S := fun u => u.cell? ⟨p, 0, none⟩ = some (.string P0) ∧ u.cell? ⟨p, 1, none⟩ = some (.int .i64 r0) ∧ u.cell? ⟨p, 2, none⟩ = some (.slice (some ⟨g5, 0, none⟩) (es.length + 1) c5)) (by kernel_rfl) (SB.out _ (Kept.refl [] w6).drew) (fun hH0 => ?_)
    have KE := Hid.mk ((Kept.refl [] w6).drew)
    generalize w6.drew = we at *
    refine wpAnyH_take (i := 0) (v := ?_) rfl (by kernel_rfl) (by kernel_rfl) (by kernel_rfl) (fun _ _ _ h => h) (Or.inl ⟨by rfl, ?_⟩) (by assumption) ?_
    rotate_left
    · intro w hSw
      try dsimp only at hSw
      go_simp
      all_goals with_reducible rfl
    simp only [Act.put, List.getElem_toArray, List.getElem_cons_zero, List.setIfInBounds_toArray, List.set_cons_zero, List.set_cons_succ]
    refine wpAnyH_take (i := 1) (v := ?_) rfl (by kernel_rfl) (by kernel_rfl) (by kernel_rfl) (fun _ _ _ h => h) (Or.inl ⟨by rfl, ?_⟩) (by assumption) ?_
    rotate_left
    · intro w hSw
      try dsimp only at hSw
      go_simp
      all_goals with_reducible rfl
    simp only [Act.put, List.getElem_toArray, List.getElem_cons_zero, List.getElem_cons_succ, List.setIfInBounds_toArray, List.set_cons_zero, List.set_cons_succ]
    refine wpAnyH_take (i := 2) (v := ?_) rfl (by kernel_rfl) (by kernel_rfl) (by kernel_rfl) (fun _ _ _ h => h) (Or.inl ⟨by rfl, ?_⟩) (by assumption) ?_
    rotate_left
    · intro w hSw
      try dsimp only at hSw
      go_simp
      all_goals with_reducible rfl
    simp only [Act.put, List.getElem_toArray, List.getElem_cons_zero, List.getElem_cons_succ, List.setIfInBounds_toArray, List.set_cons_zero, List.set_cons_succ]
    refine wpAnyH_take (i := 3) (v := ?_) rfl (by kernel_rfl) (by kernel_rfl) (by kernel_rfl) (fun _ _ _ h => h) (Or.inl ⟨by rfl, ?_⟩) (by assumption) ?_
    rotate_left
    · intro w hSw
      try dsimp only at hSw
      go_simp
      all_goals with_reducible rfl
    simp only [Act.put, List.getElem_toArray, List.getElem_cons_zero, List.getElem_cons_succ, List.setIfInBounds_toArray, List.set_cons_zero, List.set_cons_succ]
    refine wpAnyH_take (i := 4) (v := ?_) rfl (by kernel_rfl) (by kernel_rfl) (by kernel_rfl) (fun _ _ _ h => h) (Or.inl ⟨by rfl, ?_⟩) (by assumption) ?_
    rotate_left
    · intro w hSw
      try dsimp only at hSw
      go_simp
      all_goals with_reducible rfl
    simp only [Act.put, List.getElem_toArray, List.getElem_cons_zero, List.getElem_cons_succ, List.setIfInBounds_toArray, List.set_cons_zero, List.set_cons_succ]
    refine wpAnyH_take (i := 5) (v := ?_) rfl (by kernel_rfl) (by kernel_rfl) (by kernel_rfl) (fun _ _ _ h => h) (Or.inl ⟨by rfl, ?_⟩) (by assumption) ?_
    rotate_left
    · intro w hSw
      try dsimp only at hSw
      go_simp
      all_goals with_reducible rfl
    simp only [Act.put, List.getElem_toArray, List.getElem_cons_zero, List.getElem_cons_succ, List.setIfInBounds_toArray, List.set_cons_zero, List.set_cons_succ]
    refine wpAnyH_take (i := 6) (v := ?_) rfl (by kernel_rfl) (by kernel_rfl) (by kernel_rfl) (fun _ _ _ h => h) (Or.inl ⟨by rfl, ?_⟩) (by assumption) ?_
    rotate_left
    · intro w hSw
      try dsimp only at hSw
      go_simp
      all_goals with_reducible rfl
    simp only [Act.put, List.getElem_toArray, List.getElem_cons_zero, List.getElem_cons_succ, List.setIfInBounds_toArray, List.set_cons_zero, List.set_cons_succ]
    refine wpAnyH_take (i := 7) (v := ?_) rfl (by kernel_rfl) (by kernel_rfl) (by kernel_rfl) (fun _ _ _ h => h) (Or.inl ⟨by rfl, ?_⟩) (by assumption) ?_
    rotate_left
    · intro w hSw
      try dsimp only at hSw
      go_simp
      all_goals with_reducible rfl
    simp only [Act.put, List.getElem_toArray, List.getElem_cons_zero, List.getElem_cons_succ, List.setIfInBounds_toArray, List.set_cons_zero, List.set_cons_succ]
    refine wpAnyH_take (i := 8) (v := ?_) rfl (by kernel_rfl) (by kernel_rfl) (by kernel_rfl) (fun _ _ _ h => h) (Or.inl ⟨by rfl, ?_⟩) (by assumption) ?_
    rotate_left
    · intro w hSw
      try dsimp only at hSw
      go_simp
      all_goals with_reducible rfl
    simp only [Act.put, List.getElem_toArray, List.getElem_cons_zero, List.getElem_cons_succ, List.setIfInBounds_toArray, List.set_cons_zero, List.set_cons_succ]
    refine wpAnyH_take (i := 9) (v := ?_) rfl (by kernel_rfl) (by kernel_rfl) (by kernel_rfl) (fun _ _ _ h => h) (Or.inl ⟨by rfl, ?_⟩) (by assumption) ?_
    rotate_left
    · intro w hSw
      try dsimp only at hSw
      go_simp
      all_goals with_reducible rfl
    simp only [Act.put, List.getElem_toArray, List.getElem_cons_zero, List.getElem_cons_succ, List.setIfInBounds_toArray, List.set_cons_zero, List.set_cons_succ]
    refine wpAnyH_take (i := 10) (v := ?_) rfl (by kernel_rfl) (by kernel_rfl) (by kernel_rfl) (fun _ _ _ h => h) (Or.inl ⟨by rfl, ?_⟩) (by assumption) ?_
    rotate_left
    · intro w hSw
      try dsimp only at hSw
      go_simp
      all_goals with_reducible rfl
    simp only [Act.put, List.getElem_toArray, List.getElem_cons_zero, List.getElem_cons_succ, List.setIfInBounds_toArray, List.set_cons_zero, List.set_cons_succ]
    refine wpAnyH_take (i := 12) (v := ?_) rfl (by kernel_rfl) (by kernel_rfl) (by kernel_rfl) (fun _ _ _ h => h) (Or.inl ⟨by rfl, ?_⟩) (by assumption) ?_
    rotate_left
    · intro w hSw
      try dsimp only at hSw
      go_simp
      all_goals with_reducible rfl
    simp only [Act.put, List.getElem_toArray, List.getElem_cons_zero, List.getElem_cons_succ, List.setIfInBounds_toArray, List.set_cons_zero, List.set_cons_succ]
    refine wpAnyH_take (i := 13) (v := ?_) rfl (by kernel_rfl) (by kernel_rfl) (by kernel_rfl) (fun _ _ _ h => h) (Or.inl ⟨by rfl, ?_⟩) (by assumption) ?_
    rotate_left
    · intro w hSw
      try dsimp only at hSw
      go_simp
      all_goals with_reducible rfl
    simp only [Act.put, List.getElem_toArray, List.getElem_cons_zero, List.getElem_cons_succ, List.setIfInBounds_toArray, List.set_cons_zero, List.set_cons_succ]
    have PE := HP6.out.keep KE.out
    have VE := ((VW.out.bx HB6.out hty htp).keep KE.out)
    have CEV := Hid.mk (ce_last P0 r0 es ⟨n1, i1, o1, f9, s1⟩ g5 c5 true PE HT.out.rt VE.tb VE.ut HT.out.bd hl9 ht1 ht2)
    have ET := Hid.mk VE.et
    clear PE VE
    refine wpAnyH_ready (rs := [11]) (by kernel_rfl) (by simp) ?_
    refine AllReadyH.cons rfl (fun K9 hK9 => ?_) AllReadyH.nil
    go_simp
    go_at_call 18
    refine CEV.out.mono ?_
    rintro e w7 ⟨v7, rfl, h7, k7⟩
    refine hK9.out _ _ (SB.out _ (KE.out.trans k7)) (fun hHeld3 => ?_)
    clear hK9 K9
    have CPL := Hid.mk (placed_any v7 _ x.pl pl9 w7 (ET.out.keep k7) h7)
    have K7 := Hid.mk (KE.out.trans k7)
    clear h7 k7 CEV ET
    refine wpAnyH_ready (rs := [14]) (by kernel_rfl) (by simp) ?_
    refine AllReadyH.cons rfl (fun K9 hK9 => ?_) AllReadyH.nil
    go_simp
    go_at_call 17
    refine CPL.out.mono ?_
    rintro e w8' ⟨v8', rfl, h8, k8⟩
    refine hK9.out _ _ (SB.out _ (K7.out.trans k8)) (fun hHeld4 => ?_)
    clear hK9 K9
    have HF : Hid (TkP B p w (⟨P0, r0, es ++ [⟨n1, i1, o1, f9, s1⟩], true⟩, PL) (.returned v8') w8') := Hid.mk ⟨v8', _, rfl, by rw [← HPL.out]; exact h8, HP6.out.keep (K7.out.trans k8), HB6.out.trans ((K7.out.trans k8).b0 hB6)⟩
    clear h8 k8 CPL
    refine wpAnyH_take (i := 15) (v := ?_) rfl (by kernel_rfl) (by kernel_rfl) (by kernel_rfl) (fun _ _ _ h => h) (Or.inl ⟨by rfl, ?_⟩) (by assumption) ?_
    rotate_left
    · intro w hSw
      try dsimp only at hSw
      go_simp
      all_goals with_reducible rfl
    simp only [Act.put, List.getElem_toArray, List.getElem_cons_zero, List.getElem_cons_succ, List.setIfInBounds_toArray, List.set_cons_zero, List.set_cons_succ]
    refine wpAnyH_done (by kernel_rfl) ?_ _
    go_wp2
    go_ret
    exact HF.out
  · go_simp
    refine hK9.out _ _ (SA.out _ (KD.out.alloc _)) (fun hHeld2 => ?_)
    clear hK9 K9
    refine wpAnyH_ready (rs := [5]) (by kernel_rfl) (by simp) ?_
    refine AllReadyH.cons rfl (fun K9 hK9 => ?_) AllReadyH.nil
    have c0 := SL.out (wd.alloc (.cells #[.string n1, .int .i64 i1, .int .i64 o1, .int .i64 f9, .string s1] 34 (0, 0))) (KD.out.alloc _)
    go_simp
    refine hK9.out _ _ (SA.out _ (KD.out.alloc _)) (fun hHeld2 => ?_)
    clear hK9 K9 c0
    refine wpAnyH_ready (rs := [8]) (by kernel_rfl) (by simp) ?_
    refine AllReadyH.cons rfl (fun K9 hK9 => ?_) AllReadyH.nil
    refine step_app rfl _ _ 24 rfl _ _ _ _ rfl rfl hrun ?_
    simp only [Act.put, List.getElem_toArray, List.getElem_cons_zero, List.getElem_cons_succ, List.setIfInBounds_toArray, List.set_cons_zero, List.set_cons_succ]
    refine hK9.out _ _ HC.out (fun hHeld2 => ?_)
    clear hK9 K9
    refine wpAnyH_take (i := 9) (v := ?_) rfl (by kernel_rfl) (by kernel_rfl) (by kernel_rfl) (fun _ _ _ h => h) (Or.inl ⟨by rfl, ?_⟩) (by assumption) ?_
    rotate_left
    · intro w hSw
      try dsimp only at hSw
      go_simp
      all_goals with_reducible rfl
    simp only [Act.put, List.getElem_toArray, List.getElem_cons_zero, List.getElem_cons_succ, List.setIfInBounds_toArray, List.set_cons_zero, List.set_cons_succ]
    refine wpAnyH_take (i := 10) (v := ?_) rfl (by kernel_rfl) (by kernel_rfl) (by kernel_rfl) (fun _ _ _ h => h) (Or.inl ⟨by rfl, ?_⟩) (by assumption) ?_
    rotate_left
    · intro w hSw
      try dsimp only at hSw
      go_simp
      all_goals with_reducible rfl
    simp only [Act.put, List.getElem_toArray, List.getElem_cons_zero, List.getElem_cons_succ, List.setIfInBounds_toArray, List.set_cons_zero, List.set_cons_succ]
    refine wpAnyH_take (i := 11) (v := ?_) rfl (by kernel_rfl) (by kernel_rfl) (by kernel_rfl) (fun _ _ _ h => h) (Or.inl ⟨by rfl, ?_⟩) (by assumption) ?_
    rotate_left
    · intro w hSw
      try dsimp only at hSw
      go_simp
      all_goals with_reducible rfl
    simp only [Act.put, List.getElem_toArray, List.getElem_cons_zero, List.getElem_cons_succ, List.setIfInBounds_toArray, List.set_cons_zero, List.set_cons_succ]
    refine wpAnyH_ready (rs := [12]) (by kernel_rfl) (by simp) ?_
    refine AllReadyH.cons rfl (fun K9 hK9 => ?_) AllReadyH.nil
    go_simp
    refine hK9.out _ _ HE.out (fun hHeld2 => ?_)
    clear hK9 K9
    refine wpAnyH_done (by kernel_rfl) ?_ _
    clear SA SL hrun x2 z2 HC HE hH0 e4 c7
    generalize w5.setCell ⟨p, 2, none⟩ (.slice (some ⟨g5, 0, none⟩) (es.length + 1) c5) = w6 at *
    have hB6 : B ≤ w6.heap.size := Nat.le_trans hB HB6.out.size
    go_wp2_with (fail)
    have SB : Hid (∀ u, Kept [] w6 u → u.cell? ⟨p, 0, none⟩ = some (.string P0) ∧ u.cell? ⟨p, 1, none⟩ = some (.int .i64 r0) ∧ u.cell? ⟨p, 2, none⟩ = some (.slice (some ⟨g5, 0, none⟩) (es.length + 1) c5)) := Hid.mk (fun u hu => by
      obtain ⟨y0, y1, y2, -⟩ := (HP6.out.keep hu).cells
      exact ⟨y0, y1, y2⟩)
    have w9 : wrap64 ((es.length : Int) + 1 - 1) = (es.length : Int) := by rw [show (es.length : Int) + 1 - 1 = (es.length : Int) from by omega]; exact w64_in (by omega) (by omega)
    have w8 : IntKind.i64.wrap ((es.length : Int) + 1 - 1) = (es.length : Int) := by rw [show (es.length : Int) + 1 - 1 = (es.length : Int) from by omega]; exact wrap_i (by omega) (by omega)
    have w6' : IntKind.i64.wrap (es.length : Int) = (es.length : Int) := wrap_i (by omega) (by omega)
    have w5' : wrap64 (es.length : Int) = (es.length : Int) := w64_in (by omega) (by omega)
    have w7 : (es.length : Int) + 1 - 1 = (es.length : Int) := by omega
    refine wp_region_held_drew (S := fun u => u.cell? ⟨p, 0, none⟩ = some (.string P0) ∧ u.cell? ⟨p, 1, none⟩ = some (.int .i64 r0) ∧ u.cell? ⟨p, 2, none⟩ = some (.slice (some ⟨g5, 0, none⟩) (es.length + 1) c5)) (by kernel_rfl) (SB.out _ (Kept.refl [] w6).drew) (fun hH0 => ?_)
    have KE := Hid.mk ((Kept.refl [] w6).drew)
    generalize w6.drew = we at *
    refine wpAnyH_take (i := 0) (v := ?_) rfl (by kernel_rfl) (by kernel_rfl) (by kernel_rfl) (fun _ _ _ h => h) (Or.inl ⟨by rfl, ?_⟩) (by assumption) ?_
    rotate_left
    · intro w hSw
      try dsimp only at hSw
      go_simp
      all_goals with_reducible rfl
    simp only [Act.put, List.getElem_toArray, List.getElem_cons_zero, List.setIfInBounds_toArray, List.set_cons_zero, List.set_cons_succ]
    refine wpAnyH_take (i := 1) (v := ?_) rfl (by kernel_rfl) (by kernel_rfl) (by kernel_rfl) (fun _ _ _ h => h) (Or.inl ⟨by rfl, ?_⟩) (by assumption) ?_
    rotate_left
    · intro w hSw
      try dsimp only at hSw
      go_simp
      all_goals with_reducible rfl
    simp only [Act.put, List.getElem_toArray, List.getElem_cons_zero, List.getElem_cons_succ, List.setIfInBounds_toArray, List.set_cons_zero, List.set_cons_succ]
    refine wpAnyH_take (i := 2) (v := ?_) rfl (by kernel_rfl) (by kernel_rfl) (by kernel_rfl) (fun _ _ _ h => h) (Or.inl ⟨by rfl, ?_⟩) (by assumption) ?_
    rotate_left
    · intro w hSw
      try dsimp only at hSw
      go_simp
      all_goals with_reducible rfl
    simp only [Act.put, List.getElem_toArray, List.getElem_cons_zero, List.getElem_cons_succ, List.setIfInBounds_toArray, List.set_cons_zero, List.set_cons_succ]
    refine wpAnyH_take (i := 3) (v := ?_) rfl (by kernel_rfl) (by kernel_rfl) (by kernel_rfl) (fun _ _ _ h => h) (Or.inl ⟨by rfl, ?_⟩) (by assumption) ?_
    rotate_left
    · intro w hSw
      try dsimp only at hSw
      go_simp
      all_goals with_reducible rfl
    simp only [Act.put, List.getElem_toArray, List.getElem_cons_zero, List.getElem_cons_succ, List.setIfInBounds_toArray, List.set_cons_zero, List.set_cons_succ]
    refine wpAnyH_take (i := 4) (v := ?_) rfl (by kernel_rfl) (by kernel_rfl) (by kernel_rfl) (fun _ _ _ h => h) (Or.inl ⟨by rfl, ?_⟩) (by assumption) ?_
    rotate_left
    · intro w hSw
      try dsimp only at hSw
      go_simp
      all_goals with_reducible rfl
    simp only [Act.put, List.getElem_toArray, List.getElem_cons_zero, List.getElem_cons_succ, List.setIfInBounds_toArray, List.set_cons_zero, List.set_cons_succ]
    refine wpAnyH_take (i := 5) (v := ?_) rfl (by kernel_rfl) (by kernel_rfl) (by kernel_rfl) (fun _ _ _ h => h) (Or.inl ⟨by rfl, ?_⟩) (by assumption) ?_
    rotate_left
    · intro w hSw
      try dsimp only at hSw
      go_simp
      all_goals with_reducible rfl
    simp only [Act.put, List.getElem_toArray, List.getElem_cons_zero, List.getElem_cons_succ, List.setIfInBounds_toArray, List.set_cons_zero, List.set_cons_succ]
    refine wpAnyH_take (i := 6) (v := ?_) rfl (by kernel_rfl) (by kernel_rfl) (by kernel_rfl) (fun _ _ _ h => h) (Or.inl ⟨by rfl, ?_⟩) (by assumption) ?_
    rotate_left
    · intro w hSw
      try dsimp only at hSw
      go_simp
      all_goals with_reducible rfl
    simp only [Act.put, List.getElem_toArray, List.getElem_cons_zero, List.getElem_cons_succ, List.setIfInBounds_toArray, List.set_cons_zero, List.set_cons_succ]
    refine wpAnyH_take (i := 7) (v := ?_) rfl (by kernel_rfl) (by kernel_rfl) (by kernel_rfl) (fun _ _ _ h => h) (Or.inl ⟨by rfl, ?_⟩) (by assumption) ?_
    rotate_left
    · intro w hSw
      try dsimp only at hSw
      go_simp
      all_goals with_reducible rfl
    simp only [Act.put, List.getElem_toArray, List.getElem_cons_zero, List.getElem_cons_succ, List.setIfInBounds_toArray, List.set_cons_zero, List.set_cons_succ]
    refine wpAnyH_take (i := 8) (v := ?_) rfl (by kernel_rfl) (by kernel_rfl) (by kernel_rfl) (fun _ _ _ h => h) (Or.inl ⟨by rfl, ?_⟩) (by assumption) ?_
    rotate_left
    · intro w hSw
      try dsimp only at hSw
      go_simp
      all_goals with_reducible rfl
    simp only [Act.put, List.getElem_toArray, List.getElem_cons_zero, List.getElem_cons_succ, List.setIfInBounds_toArray, List.set_cons_zero, List.set_cons_succ]
    refine wpAnyH_take (i := 9) (v := ?_) rfl (by kernel_rfl) (by kernel_rfl) (by kernel_rfl) (fun _ _ _ h => h) (Or.inl ⟨by rfl, ?_⟩) (by assumption) ?_
    rotate_left
    · intro w hSw
      try dsimp only at hSw
      go_simp
      all_goals with_reducible rfl
    simp only [Act.put, List.getElem_toArray, List.getElem_cons_zero, List.getElem_cons_succ, List.setIfInBounds_toArray, List.set_cons_zero, List.set_cons_succ]
    refine wpAnyH_take (i := 10) (v := ?_) rfl (by kernel_rfl) (by kernel_rfl) (by kernel_rfl) (fun _ _ _ h => h) (Or.inl ⟨by rfl, ?_⟩) (by assumption) ?_
    rotate_left
    · intro w hSw
      try dsimp only at hSw
      go_simp
      all_goals with_reducible rfl
    simp only [Act.put, List.getElem_toArray, List.getElem_cons_zero, List.getElem_cons_succ, List.setIfInBounds_toArray, List.set_cons_zero, List.set_cons_succ]
    refine wpAnyH_take (i := 12) (v := ?_) rfl (by kernel_rfl) (by kernel_rfl) (by kernel_rfl) (fun _ _ _ h => h) (Or.inl ⟨by rfl, ?_⟩) (by assumption) ?_
    rotate_left
    · intro w hSw
      try dsimp only at hSw
      go_simp
      all_goals with_reducible rfl
    simp only [Act.put, List.getElem_toArray, List.getElem_cons_zero, List.getElem_cons_succ, List.setIfInBounds_toArray, List.set_cons_zero, List.set_cons_succ]
    refine wpAnyH_take (i := 13) (v := ?_) rfl (by kernel_rfl) (by kernel_rfl) (by kernel_rfl) (fun _ _ _ h => h) (Or.inl ⟨by rfl, ?_⟩) (by assumption) ?_
    rotate_left
    · intro w hSw
      try dsimp only at hSw
      go_simp
      all_goals with_reducible rfl
    simp only [Act.put, List.getElem_toArray, List.getElem_cons_zero, List.getElem_cons_succ, List.setIfInBounds_toArray, List.set_cons_zero, List.set_cons_succ]
    have PE := HP6.out.keep KE.out
    have VE := ((VW.out.bx HB6.out hty htp).keep KE.out)
    have CEV := Hid.mk (ce_last P0 r0 es ⟨n1, i1, o1, f9, s1⟩ g5 c5 true PE HT.out.rt VE.tb VE.ut HT.out.bd hl9 ht1 ht2)
    have ET := Hid.mk VE.et
    clear PE VE
    refine wpAnyH_ready (rs := [11]) (by kernel_rfl) (by simp) ?_
    refine AllReadyH.cons rfl (fun K9 hK9 => ?_) AllReadyH.nil
    go_simp
    go_at_call 18
    refine CEV.out.mono ?_
    rintro e w7 ⟨v7, rfl, h7, k7⟩
    refine hK9.out _ _ (SB.out _ (KE.out.trans k7)) (fun hHeld3 => ?_)
    clear hK9 K9
    have CPL := Hid.mk (placed_any v7 _ x.pl pl9 w7 (ET.out.keep k7) h7)
    have K7 := Hid.mk (KE.out.trans k7)
    clear h7 k7 CEV ET
    refine wpAnyH_ready (rs := [14]) (by kernel_rfl) (by simp) ?_
    refine AllReadyH.cons rfl (fun K9 hK9 => ?_) AllReadyH.nil
    go_simp
    go_at_call 17
    refine CPL.out.mono ?_
    rintro e w8' ⟨v8', rfl, h8, k8⟩
    refine hK9.out _ _ (SB.out _ (K7.out.trans k8)) (fun hHeld4 => ?_)
    clear hK9 K9
    have HF : Hid (TkP B p w (⟨P0, r0, es ++ [⟨n1, i1, o1, f9, s1⟩], true⟩, PL) (.returned v8') w8') := Hid.mk ⟨v8', _, rfl, by rw [← HPL.out]; exact h8, HP6.out.keep (K7.out.trans k8), HB6.out.trans ((K7.out.trans k8).b0 hB6)⟩
    clear h8 k8 CPL
    refine wpAnyH_take (i := 15) (v := ?_) rfl (by kernel_rfl) (by kernel_rfl) (by kernel_rfl) (fun _ _ _ h => h) (Or.inl ⟨by rfl, ?_⟩) (by assumption) ?_
    rotate_left
    · intro w hSw
      try dsimp only at hSw
      go_simp
      all_goals with_reducible rfl
    simp only [Act.put, List.getElem_toArray, List.getElem_cons_zero, List.getElem_cons_succ, List.setIfInBounds_toArray, List.set_cons_zero, List.set_cons_succ]
    refine wpAnyH_done (by kernel_rfl) ?_ _
    go_wp2
    go_ret
    exact HF.out
end Go.Proofs.YtknkjhfemgiiaaaDoor
