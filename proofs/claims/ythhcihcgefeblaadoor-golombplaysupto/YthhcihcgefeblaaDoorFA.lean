import Derived.Test.YthhcihcgefeblaaDoorF8
namespace Go.Proofs.YthhcihcgefeblaaDoor
open Go.RowKit

theorem cnt_few (r n : Nat) (h : n ≤ 4096) : cnt r n ≤ 22 := by
  by_cases e : cnt r n ≤ 22
  · exact e
  · exfalso
    have h1 := cnt_lo r n
    have h2 := S_mono r 23 (cnt r n) (by omega)
    have h3 : S r 23 = S r 22 + 2 ^ J (min (r + 22) 22) := rfl
    have h4 := S_ge r 22
    have h5 : min (r + 22) 22 = 22 := by omega
    have h6 : 2 ^ J 22 = 4096 := by decide
    rw [h5, h6] at h3
    omega
theorem rw_le2 (r n room : Nat) (h : n ≤ room) (hr : room ≤ 4096) : rw_ r n room ≤ 40 := by
  have h1 := cnt_few r n (by omega)
  have h2 := J_le (rm r n)
  unfold rw_
  split
  · omega
  · split <;> omega

/-- Both sides' Put of a run: few bits. -/
theorem rput_less (N len r : Nat) (n room : Int) (hl : len ≤ 1000000000) : ∃ (E : Int) (N' len' r' : Nat), len' ≤ len + 40 ∧
    (∀ (X B : Nat) (V : Value) (w : World), CoderAt w X r → WriterAt w B V N len → Tab w → X ≠ 0 → B ≠ 0 → V.ownBlock ≠ some 0 → Calls Tryd.prog 30 #[.pointer (some ⟨X, 0, none⟩), .pointer (some ⟨B, 0, none⟩), .int .i64 n, .int .i64 room] w fun e w' => e = .returned (.int .i64 E) ∧
      ∃ V', CoderAt w' X r' ∧ WriterAt w' B V' N' len' ∧ Kept (X :: B :: V.ownBlock.toList) w w' ∧ Lies w V V') ∧
    (∀ (X B : Nat) (V : Value) (w : World), RefX w X r → RefW w B V (bin len N) → Calls Tryd.prog 41 #[.pointer (some ⟨X, 0, none⟩), .pointer (some ⟨B, 0, none⟩), .int .i64 n, .int .i64 room] w fun e w' => e = .returned (.int .i64 E) ∧
      ∃ V', RefX w' X r' ∧ RefW w' B V' (bin len' N') ∧ Kept (X :: B :: V.ownBlock.toList) w w' ∧ Lies w V V') := by
  by_cases hr : room < 1 ∨ 4096 < room
  · refine ⟨1, N, len, r, by omega, fun X B V w hx hw _ _ _ _ => ?_, fun X B V w hx hw => ?_⟩
    · refine (rput_arg X B n room w hr).mono ?_
      rintro e w' ⟨rfl, rfl⟩
      exact ⟨rfl, V, hx, hw, Kept.refl _ _, Lies.refl _ _⟩
    · refine (rputD_arg X B n room w hr).mono ?_
      rintro e w' ⟨rfl, rfl⟩
      exact ⟨rfl, V, hx, hw, Kept.refl _ _, Lies.refl _ _⟩
  · by_cases hn : n < 0 ∨ room < n
    · refine ⟨22, N, len, r, by omega, fun X B V w hx hw _ _ _ _ => ?_, fun X B V w hx hw => ?_⟩
      · refine (rput_value X B n room w (by omega) (by omega) hn).mono ?_
        rintro e w' ⟨rfl, rfl⟩
        exact ⟨rfl, V, hx, hw, Kept.refl _ _, Lies.refl _ _⟩
      · refine (rputD_value X B n room w (by omega) (by omega) hn).mono ?_
        rintro e w' ⟨rfl, rfl⟩
        exact ⟨rfl, V, hx, hw, Kept.refl _ _, Lies.refl _ _⟩
    · have hc := rw_le2 r n.toNat room.toNat (by omega) (by omega)
      refine ⟨0, _, len + rw_ r n.toNat room.toNat, _, by omega, fun X B V w hx hw hT hX hB hV => rput_any X B V N len r n room w hx hw hT hX hB hV (by omega) (by omega) (by omega) (by omega) (by omega), fun X B V w hx hw => rputD_any X B V N len r n room w hx hw (by omega) (by omega) (by omega) (by omega) (by omega)⟩

section
variable {W w w' : World} {A : Nat} {s : Wo}
theorem At.tab (h : At W w A s) (hT : Tab W) : Tab w := hT.kept h.old (by simp)
theorem At.far (h : At W w A s) (hT : Tab W) (j : Nat × Nat) (hj : s.D j) : ∀ x ∈ (s.R A j).F, x ≠ 0 := fun x hx e => by
  have := h.new j hj x hx
  have := hT.pos
  omega
theorem At.putXC {i c : Nat} {V V2 : Value} {N len t r N2 len2 t2 r2 : Nat} (h : At W w A ((s.upd 0 i V N len t r).upd 4 c V2 N2 len2 t2 r2)) (hi : i < s.c 1) (hc : c < s.c 5) {V' V'' : Value} {N' len' t' r' N3 len3 t3 r3 : Nat} (hk : Kept (s.B 5 c :: s.B 1 i :: (s.V 1 i).ownBlock.toList) w w') (hw : RefW w' (s.B 1 i) V' (bin len' N')) (hx : RefX w' (s.B 5 c) r3) (hL : Lies w (s.V 1 i) V') : At W w' A ((((s.upd 0 i V N len t r).upd 4 c V2 N2 len2 t2 r2).upd 1 i V' N' len' t' r').upd 5 c V'' N3 len3 t3 r3) :=
  At.setXC h i c hi hc hk hw hx hL
theorem At.isX2 {i c : Nat} {V V2 : Value} {N len t r N2 len2 t2 r2 : Nat} (h : At W w A ((s.upd 0 i V N len t r).upd 4 c V2 N2 len2 t2 r2)) (ha : Alike s) (hi : i < s.c 0) (hc : c < s.c 4) : RefW w (s.B 1 i) (s.V 1 i) (bin (s.len 0 i) (s.N 0 i)) ∧ RefX w (s.B 5 c) (s.r 4 c) := by
  have h1 : RefW w (s.B 1 i) (s.V 1 i) (bin (s.len 1 i) (s.N 1 i)) := h.other2 (by omega) (by omega) (1, i) (s.D_thing 1 i (by omega) (by rw [← ha.c01]; exact hi)) (by simp) (by simp)
  have h2 : RefX w (s.B 5 c) (s.r 5 c) := h.other2 (by omega) (by omega) (5, c) (s.D_thing 5 c (by omega) (by rw [← ha.c45]; exact hc)) (by simp) (by simp)
  rw [ha.len, ha.N, ha.r]
  exact ⟨h1, h2⟩
end

set_option maxHeartbeats 8000000 in
set_option maxRecDepth 1000000 in
theorem step_K5 (W w : World) (A : Nat) (s : Wo) (b : Nat) (kd on a bb cc : Int) (T : ByteArray) (hkd : Hid (kd = 5)) (h : At W w A s) (ha : Alike s) (hs : Small s b) (hT : Tab W) (hb : b ≤ 1000000000) (p0 : 0 < s.c 0) (p2 : 0 < s.c 2) (p4 : 0 < s.c 4) (o0 : -9223372036854775808 ≤ on) (o1 : on ≤ 9223372036854775807) :
    Calls Tryd.prog 13 #[.pointer (some ⟨A, 0, none⟩), .agg (opc kd on a bb cc T)] w fun e w' => SPost W A s (b + 50) e w' := by
  have HT := Hid.mk hT
  clear hT
  have h1 : At W (w.alloc (.cells (opc kd on a bb cc T) 37)) A (s.op w.heap.size kd on a bb cc T) := h.hold (r := obj w.heap.size (.cells (opc kd on a bb cc T) 37 (0, 0))) ((Kept.refl [] w).alloc (.cells (opc kd on a bb cc T) 37)) (heap_alloc_new w _) (by simp [obj])
  obtain ⟨q0, q1, q2, q3, q4, q5⟩ := h1.opc (Still.refl _)
  have k0 := h1.fld (Still.refl _) 0 (by omega)
  obtain ⟨a0, c0, e0⟩ := h.form 0 (by omega)
  obtain ⟨a2, c2, e2⟩ := h.form 2 (by omega)
  obtain ⟨a4, c4, e4⟩ := h.form 4 (by omega)
  have E0 : Hid ((s.op w.heap.size kd on a bb cc T).S 0 = .slice a0 (s.c 0) c0) := Hid.mk e0
  have E2 : Hid ((s.op w.heap.size kd on a bb cc T).S 2 = .slice a2 (s.c 2) c2) := Hid.mk e2
  have E4 : Hid ((s.op w.heap.size kd on a bb cc T).S 4 = .slice a4 (s.c 4) c4) := Hid.mk e4
  rw [E0.out] at k0
  have H1 := Hid.mk h1
  have Ha := Hid.mk ha
  have Hs := Hid.mk hs
  have m0 : (0 : Int) < (s.c 0 : Int) := by omega
  have m2 : (0 : Int) < (s.c 2 : Int) := by omega
  have m4 : (0 : Int) < (s.c 4 : Int) := by omega
  have n0 := hs.c 0
  have n2 := hs.c 2
  have n4 := hs.c 4
  obtain ⟨i, hi, hil⟩ := pick_nat on (s.c 0) p0
  obtain ⟨k, hk, hkl⟩ := pick_nat on (s.c 2) p2
  obtain ⟨x, hx, hxl⟩ := pick_nat (on.tdiv 3) (s.c 4) p4
  have Hi := Hid.mk hi
  have Hk := Hid.mk hk
  have Hx := Hid.mk hx
  obtain ⟨d0, d1⟩ := tdiv3 on o0 o1
  have hw3 : IntKind.i64.wrap (on.tdiv 3) = on.tdiv 3 := by rw [IntKind.wrap_i64]; omega
  clear h1 h e0 e2 e4 ha hs hi hk hx
  go_enter Tryd.func13, Tryd.ntmps13
  go_wp2_with fail
  generalize w.alloc (.cells (opc kd on a bb cc T) 37) = w1 at *
  generalize w.heap.size = O at *
  go_quiet ((go_at_call 15; refine Calls.quiet_of_same (pick_any _ _ _ ?_ ?_ ?_); assumption; assumption; assumption))
  rw [Hi.out]
  have H2 := Hid.mk (H1.out.keep ((Kept.refl _ _).drewN nq))
  clear H1 q0 q1 q2 q3 q4 q5 k0
  generalize w1.drewN nq = w2 at *
  clear nq
  obtain ⟨q0, q1, q2, q3, q4, q5⟩ := H2.out.opc (Still.refl _)
  have k2 := H2.out.fld (Still.refl _) 2 (by omega)
  rw [E2.out] at k2
  go_wp2_with fail
  go_quiet ((go_at_call 15; refine Calls.quiet_of_same (pick_any _ _ _ ?_ ?_ ?_); assumption; assumption; assumption))
  rw [Hk.out]
  have H3 := Hid.mk (H2.out.keep ((Kept.refl _ _).drewN nq))
  clear H2 q0 q1 q2 q3 q4 q5 k2
  generalize w2.drewN nq = w3 at *
  clear nq
  obtain ⟨q0, q1, q2, q3, q4, q5⟩ := H3.out.opc (Still.refl _)
  have k4 := H3.out.fld (Still.refl _) 4 (by omega)
  rw [E4.out] at k4
  go_wp2_with fail
  go_quiet ((go_at_call 15; refine Calls.quiet_of_same (pick_any _ _ _ ?_ ?_ ?_); assumption; assumption; assumption))
  rw [Hx.out]
  have H4 := Hid.mk (H3.out.keep ((Kept.refl _ _).drewN nq))
  clear H3 q0 q1 q2 q3 q4 q5 k4
  generalize w3.drewN nq = w4 at *
  clear nq
  obtain ⟨q0, q1, q2, q3, q4, q5⟩ := H4.out.opc (Still.refl _)
  obtain rfl := hkd.out
  obtain ⟨E, N', len', r', hlen, hP, hQ⟩ := rput_less (s.N 0 i) (s.len 0 i) (s.r 4 x) a bb (by have := Hs.out.len i; omega)
  have i1 : Hid (i < s.c 1) := Hid.mk (by rw [← Ha.out.c01]; exact hil)
  have x1 : Hid (x < s.c 5) := Hid.mk (by rw [← Ha.out.c45]; exact hxl)
  obtain ⟨G0, cp0, hS0, hG0⟩ := H4.out.ptrs 0 i (by omega) hil
  obtain ⟨G1, cp1, hS1, hG1⟩ := H4.out.ptrs 1 i (by omega) i1.out
  obtain ⟨G4, cp4, hS4, hG4⟩ := H4.out.ptrs 4 x (by omega) hxl
  obtain ⟨G5, cp5, hS5, hG5⟩ := H4.out.ptrs 5 x (by omega) x1.out
  have HE : Hid (∀ w' s', At W w' A s' → Still (s.op O 5 on a bb cc T) s' → (w'.cell? ⟨O, 2, none⟩ = some (.int .i64 a) ∧ w'.cell? ⟨O, 3, none⟩ = some (.int .i64 bb) ∧ w'.cell? ⟨A, 0, none⟩ = some (.slice (some ⟨G0, 0, none⟩) (s.c 0) cp0) ∧ w'.cell? ⟨A, 1, none⟩ = some (.slice (some ⟨G1, 0, none⟩) (s.c 1) cp1) ∧ w'.cell? ⟨A, 4, none⟩ = some (.slice (some ⟨G4, 0, none⟩) (s.c 4) cp4) ∧ w'.cell? ⟨A, 5, none⟩ = some (.slice (some ⟨G5, 0, none⟩) (s.c 5) cp5) ∧ w'.cell? ⟨G0, i, none⟩ = some (.pointer (some ⟨s.B 0 i, 0, none⟩)) ∧ w'.cell? ⟨G1, i, none⟩ = some (.pointer (some ⟨s.B 1 i, 0, none⟩)) ∧ w'.cell? ⟨G4, x, none⟩ = some (.pointer (some ⟨s.B 4 x, 0, none⟩)) ∧ w'.cell? ⟨G5, x, none⟩ = some (.pointer (some ⟨s.B 5 x, 0, none⟩)))) := Hid.mk (by
    intro w' s' h' hs'
    obtain ⟨_, _, r2, r3, r4, _⟩ := h'.opc hs'
    refine ⟨r2, r3, ?_, ?_, ?_, ?_, hG0 _ _ h' hs', hG1 _ _ h' hs', hG4 _ _ h' hs', hG5 _ _ h' hs'⟩
    · rw [h'.fld hs' 0 (by omega), hS0]; rfl
    · rw [h'.fld hs' 1 (by omega), hS1]; rfl
    · rw [h'.fld hs' 4 (by omega), hS4]; rfl
    · rw [h'.fld hs' 5 (by omega), hS5]; rfl)
  clear hG0 hG1 hS0 hS1 hG4 hG5 hS4 hS5
  have HP := Hid.mk hP
  have HQ := Hid.mk hQ
  have c1 : Hid (s.c 1 = s.c 0) := Hid.mk Ha.out.c01.symm
  have c5 : Hid (s.c 5 = s.c 4) := Hid.mk Ha.out.c45.symm
  rw [c1.out, c5.out] at HE
  have Hlen : Hid (len' ≤ b + 50) := Hid.mk (by have := Hs.out.len i; omega)
  have Hx0 : Hid (s.B 4 x ≠ 0) := Hid.mk (H4.out.far HT.out (4, x) (Wo.D_thing _ 4 x (by omega) hxl) _ (by show _ ∈ [_]; simp; rfl))
  have Hb0 : Hid (s.B 0 i ≠ 0) := Hid.mk (H4.out.far HT.out (0, i) (Wo.D_thing _ 0 i (by omega) hil) _ (by show _ ∈ _ :: _; exact List.mem_cons_self))
  have Hv0 : Hid ((s.V 0 i).ownBlock ≠ some 0) := Hid.mk (fun e => H4.out.far HT.out (0, i) (Wo.D_thing _ 0 i (by omega) hil) 0 (by show _ ∈ _ :: (s.V 0 i).ownBlock.toList; rw [e]; simp) rfl)
  clear hP hQ hlen
  clear q1 q2 q3 q4 q5
  have il : (i : Int) < (s.c 0 : Int) := by omega
  have xl : (x : Int) < (s.c 4 : Int) := by omega
  go_wp2_with fail
  have HD := Hid.mk (H4.out.keep ((Kept.refl _ _).drew))
  obtain ⟨z0, z1, z2, z3, z4, z5, z6, z7, z8, z9⟩ := HE.out _ _ HD.out (Still.refl _)
  go_region_held_law (fun w' => w'.cell? ⟨O, 2, none⟩ = some (.int .i64 a) ∧ w'.cell? ⟨O, 3, none⟩ = some (.int .i64 bb) ∧ w'.cell? ⟨A, 0, none⟩ = some (.slice (some ⟨G0, 0, none⟩) (s.c 0) cp0) ∧ w'.cell? ⟨A, 1, none⟩ = some (.slice (some ⟨G1, 0, none⟩) (s.c 0) cp1) ∧ w'.cell? ⟨A, 4, none⟩ = some (.slice (some ⟨G4, 0, none⟩) (s.c 4) cp4) ∧ w'.cell? ⟨A, 5, none⟩ = some (.slice (some ⟨G5, 0, none⟩) (s.c 4) cp5) ∧ w'.cell? ⟨G0, i, none⟩ = some (.pointer (some ⟨s.B 0 i, 0, none⟩)) ∧ w'.cell? ⟨G1, i, none⟩ = some (.pointer (some ⟨s.B 1 i, 0, none⟩)) ∧ w'.cell? ⟨G4, x, none⟩ = some (.pointer (some ⟨s.B 4 x, 0, none⟩)) ∧ w'.cell? ⟨G5, x, none⟩ = some (.pointer (some ⟨s.B 5 x, 0, none⟩)))
      (first | exact ⟨z0, z1, z2, z3, z4, z5, z6, z7, z8, z9⟩ | exact HE.out _ _ H6.out ((Still.refl _).upd .. |>.upd .. |>.upd .. |>.upd ..) | exact HE.out _ _ H5.out ((Still.refl _).upd .. |>.upd ..) | assumption)
      (first
        | (go_at_call 30; refine (HP.out _ _ _ _ (HD.out.cd x hxl) (HD.out.wr i hil) (HD.out.tab HT.out) Hx0.out Hb0.out Hv0.out).mono ?_; rintro e w5 ⟨rfl, V5, hx5, hw5, hk5, hL5⟩; have H5 := Hid.mk (At.setWC (V'' := s.V 4 x) (t := 0) (r := 0) (N2 := 0) (len2 := 0) (t2 := 0) HD.out i x hil hxl hk5 hw5 hx5 hL5))
        | (go_at_call 41; refine (HQ.out _ _ _ _ (H5.out.isX2 (alike_op Ha.out) hil hxl).2 (H5.out.isX2 (alike_op Ha.out) hil hxl).1).mono ?_; rintro e w6 ⟨rfl, V6, hx6, hw6, hk6, hL6⟩; have H6 := Hid.mk (H5.out.putXC (V'' := s.V 5 x) (t' := 0) (r' := 0) (N3 := 0) (len3 := 0) (t3 := 0) i1.out x1.out hk6 hw6 hx6 hL6)))
  all_goals go_wp2_with fail
  all_goals go_ret
  all_goals exact spost_four (p := 0) (.inl rfl) H6.out Ha.out Hs.out (fun _ => Hlen.out)
end Go.Proofs.YthhcihcgefeblaaDoor
