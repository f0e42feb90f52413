import Derived.Test.YthhcihcgefeblaaDoorFE
namespace Go.Proofs.YthhcihcgefeblaaDoor
open Go.RowKit

/-- What stands of the document's writers. -/
structure Keep1 (s s' : Wo) (x O : Nat) (o : Obj) : Prop where
  S : s'.S 1 = s.S 1
  c : s'.c 1 = s.c 1
  B : s'.B 1 x = s.B 1 x
  m : s.m < s'.m
  X : s'.X s.m = obj O o

set_option maxHeartbeats 4000000 in
set_option maxRecDepth 1000000 in
theorem makes_K8 (W w : World) (A : Nat) (s : Wo) (b : Nat) (kd on a bb cc : Int) (T : ByteArray) (hkd : Hid (kd = 8)) (h : At W w A s) (ha : Alike s) (hs : Small s b) (hc : ∀ k, s.c k < 99999999) (p1 : 0 < s.c 1) (hb : b ≤ 70000000) (o0 : -9223372036854775808 ≤ on) (o1 : on ≤ 9223372036854775807) :
    Calls Tryd.prog 46 #[.pointer (some ⟨A, 0, none⟩), .agg (opc kd on a bb cc T)] w fun e w' => SPost W A s (b + 50) e w' := by
  obtain ⟨x, hx, hxl⟩ := pick_nat on (s.c 1) p1
  have HPk : Hid (∀ w, Calls Tryd.prog 15 #[.int .i64 on, .int .i64 (s.c 1 : Int)] w fun e w' => e = .returned (.int .i64 (x : Int)) ∧ w' = w) := Hid.mk (fun w => by rw [← hx]; exact pick_any on (s.c 1 : Int) w o0 o1 (by omega))
  have hlx : s.len 1 x ≤ b := by rw [← ha.len]; exact hs.len x
  obtain ⟨M, hM⟩ : ∃ M, M = (s.len 1 x + 7) / 8 := ⟨_, rfl⟩
  obtain ⟨l, hl⟩ : ∃ l, l = big M (s.N 1 x * 2 ^ (8 * M - s.len 1 x)) := ⟨_, rfl⟩
  have Hby : Hid (Byts l) := Hid.mk (by rw [hl]; exact big_lt _ _)
  have Hln : Hid (l.length = M) := Hid.mk (by rw [hl]; exact big_length _ _)
  have HMb : Hid (M ≤ 10000000) := Hid.mk (by omega)
  have Hrb : Hid (∀ w', RefW w' (s.B 1 x) (s.V 1 x) (bin (s.len 1 x) (s.N 1 x)) → Calls Tryd.prog 48 #[.pointer (some ⟨s.B 1 x, 0, none⟩)] w' fun e w'' => ∃ ao cp, e = .returned (.slice ao M cp) ∧ Reads w'' ao l ∧ (∀ g off, ao = some ⟨g, off, none⟩ → w'.heap.size ≤ g) ∧ Kept [] w' w'') := Hid.mk (fun w' h' => by
    refine (refBytes_new _ _ _ _ M w' h' hM (by omega)).mono ?_
    rintro e w'' ⟨V', rfl, ho, hL, hk⟩
    obtain ⟨ao, cp, rfl⟩ := row_form ho
    rw [← hl] at ho
    exact ⟨ao, cp, rfl, reads_row ho, lies_new hL, hk⟩)
  obtain ⟨G1, cp1, hS1, hG1⟩ := h.ptr 1 x (by omega) hxl
  have HE : Hid (∀ w' s' O, At W w' A s' → Keep1 s s' x O (.cells (opc 8 on a bb cc T) 37 (0, 0)) → (w'.cell? ⟨O, 1, none⟩ = some (.int .i64 on) ∧ w'.cell? ⟨A, 1, none⟩ = some (.slice (some ⟨G1, 0, none⟩) (s.c 1) cp1) ∧ w'.cell? ⟨G1, x, none⟩ = some (.pointer (some ⟨s.B 1 x, 0, none⟩)))) := Hid.mk (by
    intro w' s' O h' hs'
    have h2 := h'.more s.m hs'.m
    rw [hs'.X] at h2
    obtain ⟨G', cp', e', g'⟩ := h'.ptr 1 x (by omega) (by rw [hs'.c]; exact hxl)
    rw [hs'.S, hS1, hs'.c] at e'
    simp at e'
    obtain ⟨rfl, rfl⟩ := e'
    rw [hs'.B] at g'
    refine ⟨(opc_cells h2).2.1, ?_, g'⟩
    rw [h'.cells.1 1 (by omega), hs'.S, hS1])
  have xl : (x : Int) < (s.c 1 : Int) := by omega
  have n1 := hs.c 1
  clear hx hM hl hlx hS1 hG1
  have h1 : At W (w.alloc (.cells (opc kd on a bb cc T) 37)) A (s.op w.heap.size kd on a bb cc T) := h.hold (r := obj w.heap.size (.cells (opc kd on a bb cc T) 37 (0, 0))) ((Kept.refl [] w).alloc (.cells (opc kd on a bb cc T) 37)) (heap_alloc_new w _) (by simp [obj])
  obtain ⟨q0, q1, q2, q3, q4, q5⟩ := h1.opc (Still.refl _)
  have H1 := Hid.mk h1
  have Ha := Hid.mk ha
  have Hs := Hid.mk hs
  have Hc := Hid.mk hc
  clear h1 h ha hs hc
  go_enter Tryd.func46, Tryd.ntmps46
  obtain rfl := hkd.out
  clear q1 q2 q3 q4 q5
  go_wp2_with fail
  generalize w.alloc (.cells (opc 8 on a bb cc T) 37) = w1 at *
  generalize w.heap.size = O at *
  have HD := Hid.mk (H1.out.keep ((Kept.refl _ _).drew))
  obtain ⟨z0, z1, z2⟩ := HE.out _ _ O HD.out ⟨rfl, rfl, rfl, Nat.lt_succ_self _, by simp [Wo.op]⟩
  go_region_held_law (fun w' => w'.cell? ⟨O, 1, none⟩ = some (.int .i64 on) ∧ w'.cell? ⟨A, 1, none⟩ = some (.slice (some ⟨G1, 0, none⟩) (s.c 1) cp1) ∧ w'.cell? ⟨G1, x, none⟩ = some (.pointer (some ⟨s.B 1 x, 0, none⟩)))
      (first | exact ⟨z0, z1, z2⟩ | exact ⟨y0, y1, y2⟩ | exact ⟨v0, v1, v2⟩ | assumption)
      (first
        | (go_at_call 15; refine (HPk.out _).mono ?_; rintro e w5 ⟨rfl, rfl⟩)
        | (go_at_call 48; refine (Hrb.out _ (HD.out.rw_ x hxl)).mono ?_; rintro e w5 ⟨ao, cp, rfl, hr5, hF5, hk5⟩; have H5 := Hid.mk (HD.out.rdl hk5 hr5 hF5); obtain ⟨y0, y1, y2⟩ := HE.out _ _ O H5.out ⟨rfl, rfl, rfl, Nat.lt_succ_of_lt (Nat.lt_succ_self _), by simp [Wo.op, Wo.rd]⟩)
        | (go_at_call 11; refine (reader_any W _ A _ _ M _ (s.m + 1) l H5.out (Nat.lt_succ_self _) (by simp [Wo.rd, Wo.op]) Hby.out Hln.out HMb.out (Hs.out.c 2) (Hs.out.c 3)).mono ?_; rintro e w6 ⟨rfl, B0, S0, g, B1, S1, V1, h6⟩; have H6 := Hid.mk h6; clear h6; obtain ⟨v0, v1, v2⟩ := HE.out _ _ O H6.out ⟨by simp [Wo.add]; rfl, by simp [Wo.add]; rfl, by simp [Wo.add, upd2]; rfl, Nat.lt_succ_of_lt (Nat.lt_succ_self _), by simp [Wo.add, Wo.op, Wo.rd]⟩))
  all_goals go_wp2_with fail
  all_goals go_ret
  all_goals exact spost_of (spost_add (p := 2) (.inr (.inl rfl)) H6.out (alike_rd (alike_op Ha.out)) (small_rd (small_op Hs.out)) Hc.out (by rw [Hln.out]; exact HMb.out)) rfl

end Go.Proofs.YthhcihcgefeblaaDoor
