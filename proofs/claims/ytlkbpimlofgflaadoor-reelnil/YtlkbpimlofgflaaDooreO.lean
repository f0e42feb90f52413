import Derived.Test.YtlkbpimlofgflaaDooreI
import Derived.Test.YtlkbpimlofgflaaDooreN
namespace Go.Proofs.YtlkbpimlofgflaaDoor
open Go.RowKit Go.Shelf

theorem ap_plain (d : Md) (l : List Nat) (hd : d.dead = false) (hl : d.left = 0) (hn : d.b.length + l.length ≤ 268435456) : apE d l = 0 ∧ apA d l = (d.b.length : Int) ∧ apS d l = { d with b := d.b ++ l } := by
  refine ⟨?_, ?_, ?_⟩
  · unfold apE; rw [hd, if_neg (by simp), if_neg (by omega), if_neg (by omega)]
  · unfold apA; rw [hd, if_neg (by simp), if_neg (by omega), if_neg (by omega)]
  · unfold apS; rw [hd, if_neg (by simp), if_neg (by omega), if_neg (by omega), if_pos hl]
    cases d
    simp only at hl hd ⊢
    subst hl hd
    rfl

set_option maxHeartbeats 4000000 in
theorem fin_any (w : World) (R P : Nat) (s : ByteArray) (r st : Nat) (V : Value) (f : Bool) (h : Rl w R P s r st V f) : Calls Tryd.prog 12 #[.pointer (some ⟨R, 0, none⟩)] w fun e w' => e = .returned (.bool f) ∧ w' = w := by
  obtain ⟨-, -, -, -, -, c5⟩ := h.cells
  clear h
  go_enter Tryd.func12, Tryd.ntmps12
  go_wp2
  go_ret
  exact ⟨rfl, rfl⟩
set_option maxHeartbeats 4000000 in
theorem rcount_any (w : World) (R P : Nat) (s : ByteArray) (r st : Nat) (f : Bool) (h : Rl w R P s r st (.slice none 0 0) f) : Calls Tryd.prog 13 #[.pointer (some ⟨R, 0, none⟩)] w fun e w' => e = .returned (.int .i64 0) ∧ w' = w := by
  obtain ⟨-, -, -, -, c4, -⟩ := h.cells
  clear h
  go_enter Tryd.func13, Tryd.ntmps13
  go_wp2
  go_ret
  exact ⟨rfl, rfl⟩

set_option maxHeartbeats 8000000 in
set_option maxRecDepth 1000000 in
theorem alive_any (w : World) : Calls Tryd.prog 5 #[] w fun e w' => e = .returned (.bool true) ∧ Kept [] w w' := by
  have hs : (⟨#[97]⟩ : ByteArray).size = 1 := rfl
  obtain ⟨s, es⟩ : ∃ s : ByteArray, (⟨#[97]⟩ : ByteArray) = s := ⟨_, rfl⟩
  have hv : Txt s := by rw [← es]; exact txt_a
  rw [es] at hs
  obtain ⟨l, el⟩ : ∃ l, lbl s 2 0 = l := ⟨_, rfl⟩
  have ll : l.length = 16 := by rw [← el, lbl_len, hs]
  have lby : Byts l := by
    rw [← el]
    refine smd_byts ?_
    unfold lb0
    refine Byts.append (Byts.append (Byts.append (by unfold Byts; decide) ?_) (tb_byts s)) (wds_byts _)
    intro b hb
    simp [hs] at hb
    omega
  obtain ⟨d1, ed1⟩ : ∃ d1 : Md, (⟨l, [], false, 0, 0⟩ : Md) = d1 := ⟨_, rfl⟩
  have p0 := ap_plain ⟨[], [], false, 0, 0⟩ l rfl rfl (by simp [ll])
  have a0 : apS ⟨[], [], false, 0, 0⟩ (lbl s 2 0) = d1 := by rw [el, p0.2.2, ← ed1]; rfl
  have b1 : d1.b = l := by rw [← ed1]
  have ok1 : Mok d1 := by rw [← ed1]; exact ⟨by rw [ll]; decide, lby, by simp, by simp, by simp, by simp⟩
  have tby : Byts (tl [] 16) := by
    unfold tl idx ft
    exact Byts.append (smd_byts (Byts.append (Byts.append (by unfold Byts; decide) (wds_byts _)) (wds_byts _))) (smd_byts (Byts.append (by unfold Byts; decide) (wds_byts _)))
  have lt : (tl [] 16).length = 24 := by rw [tl_len]; rfl
  have p1 := ap_plain d1 (tl [] 16) (by rw [← ed1]) (by rw [← ed1]) (by rw [b1, ll, lt]; decide)
  rw [b1] at p1
  obtain ⟨d2, ed2⟩ : ∃ d2 : Md, ({ d1 with b := l ++ tl [] 16 } : Md) = d2 := ⟨_, rfl⟩
  rw [ed2] at p1
  have ok2 : Mok d2 := by rw [← ed2]; exact ⟨by simp [ll, lt], lby.append tby, ok1.l0, ok1.l1, ok1.k0, ok1.k1⟩
  have b2 : d2.b = lbl s 2 0 ++ tl [] (15 + s.size) := by rw [← ed2, el, hs]
  have n2 : d2.dead = false ∧ d2.g.length ≤ 900 := by rw [← ed2, ← ed1]; simp
  have C2 : Hid (∀ (u : World) (P : Nat), Med u P (.slice none 0 0) (.slice none 0 0) ⟨[], [], false, 0, 0⟩ 0 → Calls Tryd.prog 6 #[.pointer (some ⟨P, 0, none⟩), .agg #[.string s, .int .i64 2, .int .i64 0]] u fun e w' => ∃ Q V', e = .returned (.tuple #[.pointer (some ⟨Q, 0, none⟩), .int .i64 0]) ∧ Wr w' Q P none 0 0 false ∧ u.heap.size ≤ Q ∧ Med w' P V' (.slice none 0 0) d1 0 ∧ Kept (P :: (Value.slice none 0 0).ownBlock.toList) u w' ∧ Lies u (.slice none 0 0) V') := Hid.mk (fun u P hm => by
    have := create_yes u P _ _ _ s 2 0 hm ⟨by simp, by simp [Byts], by simp, by simp, by simp, by simp⟩ rfl rfl (by simp) (by omega) hv (by decide) (by decide) (by decide)
    rw [a0] at this
    exact this)
  have C3 : Hid (∀ (u : World) (Q P : Nat) (V : Value), Wr u Q P none 0 0 false → Med u P V (.slice none 0 0) d1 0 → Calls Tryd.prog 11 #[.pointer (some ⟨Q, 0, none⟩)] u fun e w' => ∃ V', e = .returned (.tuple #[.agg #[.int .i64 0, .int .i64 16, .int .i64 24], .int .i64 0]) ∧ Med w' P V' (.slice none 0 0) d2 0 ∧ Kept (Q :: P :: V.ownBlock.toList) u w' ∧ Lies u V V') := Hid.mk (fun u Q P V hw hm => by
    have e16 : d1.b.length = 16 := by rw [b1, ll]
    have := finish_yes u Q P none 0 0 [] V _ d1 hw hm ok1 (.inl rfl) rfl (by simp) (by decide) (fun h => absurd rfl h) (by rw [e16]; exact p1.1)
    rw [e16, p1.2.1, p1.2.2, lt, ll] at this
    refine this.mono ?_
    rintro e w' ⟨V', rfl, -, h2, h3, h4⟩
    exact ⟨V', rfl, h2, h3, h4⟩)
  have C4 : Hid (∀ (u : World) (P : Nat) (V : Value), Med u P V (.slice none 0 0) d2 0 → Calls Tryd.prog 8 #[.pointer (some ⟨P, 0, none⟩)] u fun e w' => ∃ R, e = .returned (.tuple #[.pointer (some ⟨R, 0, none⟩), .int .i64 0]) ∧ Rl w' R P s 2 0 (.slice none 0 0) true ∧ Kept (P :: (Value.slice none 0 0).ownBlock.toList) u w') := Hid.mk (fun u P V hm => open_yes u P V _ d2 s 2 0 hm ok2 n2.1 n2.2 (by omega) hv (by decide) (by decide) (by decide) b2)
  have B1 := Hid.mk (show d1.b.length = 16 by rw [b1, ll])
  clear hs hv el ll lby p0 a0 b1 ok1 tby lt p1 ok2 b2 n2 ed1 ed2
  go_enter Tryd.func5, Tryd.ntmps5
  go_wp2_with (fail)
  refine (new_any w).mono ?_
  rintro e w1 ⟨rfl, m1, k1⟩
  obtain ⟨P, eP⟩ : ∃ P, w.heap.size = P := ⟨_, rfl⟩
  rw [eP] at m1 ⊢
  have M1 := Hid.mk m1
  have K1 := Hid.mk k1
  clear m1 k1
  go_wp2_with (fail)
  try rw [es]
  refine (C2.out w1 P M1.out).mono ?_
  rintro e w2 ⟨Q, V2, rfl, hw2, hQ, m2, k2, l2⟩
  have HW2 := Hid.mk hw2
  have M2 := Hid.mk m2
  have K2 := Hid.mk (And.intro hQ (And.intro k2 l2))
  clear hw2 m2 hQ k2 l2
  go_wp2_with (fail)
  refine (size_any w2 P V2 _ d1 M2.out).mono ?_
  rintro e w3 ⟨rfl, m3, k3⟩
  rw [B1.out]
  have HW3 := Hid.mk (HW2.out.kept k3 (fun hm => HW2.out.far M2.out (inP P V2 _ Q hm)))
  have M3 := Hid.mk m3
  have K3 := Hid.mk k3
  clear m3 k3
  go_wp2_with (fail)
  refine (C3.out w3 Q P V2 HW3.out M3.out).mono ?_
  rintro e w4 ⟨V4, rfl, m4, k4, l4⟩
  obtain ⟨w5, ew5, k5, hb5⟩ := alloc_new w4 (.cells #[.int .i64 0, .int .i64 16, .int .i64 24] 39 (0, 0))
  have C5 := Hid.mk (C4.out w5 P V4 (m4.keep k5))
  have f5 := foot_of (m4.keep k5) hb5 (by decide) (by decide) (by decide)
  have HB5 := Hid.mk (And.intro hb5 f5)
  have K4 := Hid.mk (And.intro k4 (And.intro l4 k5))
  clear m4 k4 l4 k5 hb5 f5
  go_wp2_with (fail)
  try rw [ew5]
  clear ew5
  refine C5.out.mono ?_
  rintro e w6 ⟨R, rfl, r6, k6⟩
  have hb6 := k6.heap HB5.out.1 (fun hm => HB5.out.2 (inL P V4 _ _ hm))
  have c0 : w6.cell? ⟨w4.heap.size, 0, none⟩ = some (.int .i64 0) := by simp [World.cell?, hb6]
  have c1 : w6.cell? ⟨w4.heap.size, 1, none⟩ = some (.int .i64 16) := by simp [World.cell?, hb6]
  have c2 : w6.cell? ⟨w4.heap.size, 2, none⟩ = some (.int .i64 24) := by simp [World.cell?, hb6]
  have C7 := Hid.mk (fin_any w6 R P s 2 0 _ true r6)
  have C8 := Hid.mk (rcount_any w6 R P s 2 0 true r6)
  have K6 := Hid.mk k6
  clear hb6 r6 k6
  go_wp2_with (fail)
  with_reducible refine C7.out.mono ?_
  rintro e w7 ⟨rfl, hx⟩
  obtain rfl := hx.symm
  clear C7 hx
  go_wp2_with (fail)
  with_reducible refine C8.out.mono ?_
  rintro e w8 ⟨rfl, hx⟩
  obtain rfl := hx.symm
  clear C8 hx
  go_wp2
  go_ret
  have hP : w.heap.size ≤ P := by omega
  have hV2 : ∀ x ∈ V2.ownBlock.toList, w.heap.size ≤ x := fun x hx => by
    rcases K2.out.2.2.mem x hx with h | h
    · simp [Value.ownBlock] at h
    · have := K1.out.size; omega
  have q2 : Kept [] w w2 := K1.out.step K2.out.2.1 (fun x hx => by simp [Value.ownBlock] at hx; subst hx; exact .inr hP)
  have q3 : Kept [] w w3 := q2.step K3.out (fun x hx => by simp at hx; subst hx; exact .inr hP)
  have q4 : Kept [] w w4 := q3.step K4.out.1 (fun x hx => by
    simp only [List.mem_cons] at hx
    rcases hx with rfl | rfl | hx
    · exact .inr (by have := K2.out.1; have := K1.out.size; omega)
    · exact .inr hP
    · exact .inr (hV2 x hx))
  exact ⟨rfl, (q4.trans K4.out.2.2).step K6.out (fun x hx => by simp [Value.ownBlock] at hx; subst hx; exact .inr hP)⟩

set_option maxHeartbeats 4000000 in
theorem names_any (w : World) : Calls Tryd.prog 3 #[] w fun e w' => e = .returned (.bool true) ∧ Kept [] w w' := by
  go_enter Tryd.func3, Tryd.ntmps3
  go_wp2_with (fail)
  refine (alive_any w).mono ?_
  rintro e w1 ⟨rfl, k1⟩
  have K1 := Hid.mk k1
  clear k1
  go_wp2
  go_ret
  exact ⟨rfl, K1.out⟩

set_option maxHeartbeats 4000000 in
theorem create_nil (w : World) (s : ByteArray) (r st : Int) : Calls Tryd.prog 6 #[.pointer none, .agg #[.string s, .int .i64 r, .int .i64 st]] w fun e w' => e = .returned (.tuple #[.pointer none, .int .i64 1]) ∧ Kept [] w w' := by
  go_enter Tryd.func6, Tryd.ntmps6
  go_wp2
  go_ret2
  exact ⟨rfl, (Kept.refl [] w).alloc _⟩

set_option maxHeartbeats 4000000 in
set_option maxRecDepth 1000000 in
theorem open_nil (w : World) : Calls Tryd.prog 8 #[.pointer none] w fun e w' => e = .returned (.tuple #[.pointer none, .int .i64 1]) ∧ Kept [] w w' := by
  obtain ⟨w1, ew1⟩ : ∃ w1, (w.alloc (.cells #[.pointer none] 31 (0, 0))).alloc (.cells #[.int .i64 0] 27 (0, 0)) = w1 := ⟨_, rfl⟩
  have k1 : Kept [] w w1 := by rw [← ew1]; exact ((Kept.refl [] w).alloc _).alloc _
  have p2 : w1.heap[w.heap.size]? = some (.cells #[.pointer none] 31 (0, 0)) := by rw [← ew1]; exact ((Kept.refl [] _).alloc _).heap (heap_alloc_new _ _) (by simp)
  have p3 : w1.heap[w.heap.size + 1]? = some (.cells #[.int .i64 0] 27 (0, 0)) := by
    rw [← ew1]; have := heap_alloc_new (w.alloc (.cells #[.pointer none] 31 (0, 0))) (.cells #[.int .i64 0] 27 (0, 0)); rw [World.size_alloc] at this; exact this
  have z2 : w1.cell? ⟨w.heap.size, 0, none⟩ = some (.pointer none) := by simp [World.cell?, p2]
  have z3 : w1.cell? ⟨w.heap.size + 1, 0, none⟩ = some (.int .i64 0) := by simp [World.cell?, p3]
  have fz2 : w1.frozen? ⟨w.heap.size, 0, none⟩ = false := by simp [World.frozen?, p2]
  have fz3 : w1.frozen? ⟨w.heap.size + 1, 0, none⟩ = false := by simp [World.frozen?, p3]
  have HP := Hid.mk (And.intro p2 p3)
  have K1 := Hid.mk k1
  clear k1 p2 p3
  refine (callsIn_wide (n := 0)).1 ?_
  refine callsIn_of_wp_marks Tryd.func8 rfl trivial ?_ rfl
  simp only [Tryd.ntmps8, List.size_toArray, List.length_cons, List.length_nil, Nat.reduceAdd, Nat.reduceSub, Array.replicate_succ, Array.replicate_zero, List.push_toArray, List.append_toArray, List.nil_append, List.cons_append]
  refine wpIn_wide.2 ?_
  go_wp2_with (fail)
  have g2 : ((w1.setCell ⟨w.heap.size, 0, none⟩ (.pointer none)).setCell ⟨w.heap.size + 1, 0, none⟩ (.int .i64 1)).heap[w.heap.size]? = some (.cells #[.pointer none] 31 (0, 0)) := by
    have := ((Kept.refl [w.heap.size + 1] (w1.setCell ⟨w.heap.size, 0, none⟩ (.pointer none))).setCell (p := ⟨w.heap.size + 1, 0, none⟩) (.inl (by simp)) (.int .i64 1)).heap (heap_setCell_at (i := 0) (u := .pointer none) HP.out.1) (by simp)
    simpa using this
  have g3 : ((w1.setCell ⟨w.heap.size, 0, none⟩ (.pointer none)).setCell ⟨w.heap.size + 1, 0, none⟩ (.int .i64 1)).heap[w.heap.size + 1]? = some (.cells #[.int .i64 1] 27 (0, 0)) := by
    have h9 := ((Kept.refl [w.heap.size] w1).setCell (p := ⟨w.heap.size, 0, none⟩) (.inl (by simp)) (.pointer none)).heap HP.out.2 (by simp)
    rw [heap_setCell_at h9]; simp
  have kF : Kept [] w ((w1.setCell ⟨w.heap.size, 0, none⟩ (.pointer none)).setCell ⟨w.heap.size + 1, 0, none⟩ (.int .i64 1)) := (K1.out.setCell (.inr (Nat.le_refl _)) _).setCell (.inr (Nat.le_succ _)) _
  refine ⟨_, results_cells _ _ w.heap.size (w.heap.size + 1) (.pointer none) (.int .i64 1) rfl rfl (by simp only [World.cell?, g2]; rfl) (by simp only [World.cell?, g3]; rfl), rfl, kF⟩

set_option maxHeartbeats 4000000 in
theorem continue_nil (w : World) : Calls Tryd.prog 7 #[.pointer none] w fun e w' => e = .returned (.tuple #[.pointer none, .int .i64 1]) ∧ Kept [] w w' := by
  go_enter Tryd.func7, Tryd.ntmps7
  go_wp2_with (fail)
  refine (open_nil w).mono ?_
  rintro e w1 ⟨rfl, k1⟩
  have K1 := Hid.mk k1
  clear k1
  go_wp2
  go_ret2
  exact ⟨rfl, K1.out⟩

set_option maxHeartbeats 4000000 in
set_option maxRecDepth 1000000 in
theorem nil_any (w : World) (s : ByteArray) (r st : Int) : Calls Tryd.prog 4 #[.agg #[.string s, .int .i64 r, .int .i64 st]] w fun e w' => e = .returned (.bool true) ∧ Kept [] w w' := by
  obtain ⟨w1, ew1, k1, hb1⟩ := alloc_new w (.cells #[.string s, .int .i64 r, .int .i64 st] 25 (0, 0))
  have K1 := Hid.mk k1
  have HB := Hid.mk hb1
  clear k1 hb1
  go_enter Tryd.func4, Tryd.ntmps4
  go_wp2_with (fail)
  try rw [ew1]
  clear ew1
  refine (alive_any w1).mono ?_
  rintro e w2 ⟨rfl, k2⟩
  have hb2 := k2.heap HB.out (by simp)
  have c0 : w2.cell? ⟨w.heap.size, 0, none⟩ = some (.string s) := by simp [World.cell?, hb2]
  have c1 : w2.cell? ⟨w.heap.size, 1, none⟩ = some (.int .i64 r) := by simp [World.cell?, hb2]
  have c2 : w2.cell? ⟨w.heap.size, 2, none⟩ = some (.int .i64 st) := by simp [World.cell?, hb2]
  have K2 := Hid.mk (K1.out.trans k2)
  clear hb2 k2
  go_wp2_with (fail)
  refine (create_nil w2 s r st).mono ?_
  rintro e w3 ⟨rfl, k3⟩
  have K3 := Hid.mk (K2.out.trans k3)
  clear k3 c0 c1 c2
  go_wp2_with (fail)
  refine (continue_nil w3).mono ?_
  rintro e w4 ⟨rfl, k4⟩
  have K4 := Hid.mk (K3.out.trans k4)
  clear k4
  go_wp2_with (fail)
  refine (open_nil w4).mono ?_
  rintro e w5 ⟨rfl, k5⟩
  have K5 := Hid.mk (K4.out.trans k5)
  clear k5
  go_wp2
  go_ret
  exact ⟨rfl, K5.out⟩
end Go.Proofs.YtlkbpimlofgflaaDoor
