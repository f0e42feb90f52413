import Derived.Test.YtpjogodepionoaaJ1
namespace Go.Proofs.Ytpjogodepionoaa
open Go.RowKit

/-- What Learn of the document does. -/
def LrnD : Prop := ∀ (R g cap : Nat) (T d k q : Int) (L : Nat → Sx) (w : World), Rd w R g cap T d L →
    Calls Try.prog 32 #[.pointer (some ⟨R, 0, none⟩), .int .i64 k, .int .i64 q] w fun e w' => e = .returned (.tuple #[]) ∧ Rd w' R g cap T d (lL T d L k q) ∧ Kept [g] w w'

set_option maxHeartbeats 16000000 in
set_option maxRecDepth 1000000 in
theorem step_any (B P R g cap : Nat) (T d : Int) (L : Nat → Sx) (q : Ent) (w : World) (h : Pg w B P R g cap T d L) (HD : LrnD) :
    Calls Try.prog 11 #[.agg #[.pointer (some ⟨P, 0, none⟩), .pointer (some ⟨R, 0, none⟩)], opv q] w fun e w' => e = .returned (.bool true) ∧ (∃ L', Pg w' B P R g cap T d L') ∧ Kept [P, g] w w' := by
  have G := Hid.mk h.m.good
  have HH := Hid.mk h
  have HLD := Hid.mk HD
  have HQ : Hid (P < w.heap.size ∧ R < w.heap.size ∧ g < w.heap.size) := Hid.mk ⟨h.m.lt, lt_of_cell h.r.sl, by obtain ⟨cs, hb, _⟩ := h.r.blk; exact lt_of_block hb⟩
  clear h HD
  obtain ⟨kd, qk, qs, qa, qb, qc, qd, qt⟩ := q
  have pre : Hid (∃ w1, (w.alloc (.cells #[.pointer (some ⟨P, 0, none⟩), .pointer (some ⟨R, 0, none⟩)] 29 (0, 0))).alloc (.cells #[.int .i64 kd, .int .i64 qk, .int .i64 qs, .int .i64 qa, .int .i64 qb, .int .i64 qc, .int .i64 qd, .bool qt] 33 (0, 0)) = w1 ∧ Kept [] w w1 ∧ Sb w1 w.heap.size P R ⟨kd, qk, qs, qa, qb, qc, qd, qt⟩) := Hid.mk (step_boxes w P R ⟨kd, qk, qs, qa, qb, qc, qd, qt⟩)
  have fin : Hid (∀ w', Kept [] w w' → (∃ L', Pg w' B P R g cap T d L') ∧ Kept [P, g] w w') := Hid.mk (fun w' hk => ⟨⟨L, HH.out.keep hk (by simp) (by simp) (by simp)⟩, hk.mono (fun x hx => by simp at hx)⟩)
  go_enter Try.func11, Try.ntmps11
  obtain ⟨w1, hw1, k1, hb⟩ := pre.out
  have hM := HH.out.keep k1 (by simp) (by simp) (by simp)
  have HS := Hid.mk hb
  obtain ⟨b0, b1, b2, ⟨x1, x2, x3, x4, x5, x6⟩⟩ := hb
  have HM := Hid.mk hM
  have HK := Hid.mk k1
  dsimp only at b2 x1 x2 x3 x4 x5 x6
  clear pre hM k1
  by_cases e1 : kd = 1
  · subst e1
    have C1 := Hid.mk (fun n => shrink_any P T d qa (w1.drewN n) (HM.out.m.hd.drewN n) G.out)
    have C2 := Hid.mk (fun n => shrinkD_any R T d qa (w1.drewN n) (HM.out.r.hd.drewN n) G.out)
    go_wp2_with (fail)
    (try rw [hw1])
    clear hw1
    go_quiet ((first | (go_at_call 15; exact Calls.quiet_of (C1.out _)) | (go_at_call 27; exact Calls.quiet_of (C2.out _))))
    go_wp2
    go_ret
    exact ⟨by first | rfl | simp, fin.out _ (HK.out.drewN _)⟩
  · have f1 : (kd == 1) = false := by simpa using e1
    clear e1
    by_cases e2 : kd = 2
    · subst e2
      have C1 := Hid.mk (fun n => grow_any P T d qa qb (w1.drewN n) (HM.out.m.hd.drewN n) G.out)
      have C2 := Hid.mk (fun n => growD_any R T d qa qb (w1.drewN n) (HM.out.r.hd.drewN n) G.out)
      go_wp2_with (fail)
      (try rw [hw1])
      clear hw1
      go_quiet ((first | (go_at_call 16; exact Calls.quiet_of (C1.out _)) | (go_at_call 28; exact Calls.quiet_of (C2.out _))))
      go_wp2
      go_ret
      exact ⟨by first | rfl | simp, fin.out _ (HK.out.drewN _)⟩
    · have f2 : (kd == 2) = false := by simpa using e2
      clear e2
      by_cases e3 : kd = 3
      · subst e3
        go_wp2_with (fail)
        (try rw [hw1])
        clear hw1
        refine (find_any P T d qa qb qc qd w1 HM.out.m.hd G.out).mono ?_
        rintro e w2 ⟨rfl, hw⟩
        obtain rfl := hw.symm
        go_wp2_with (fail)
        refine (findD_any R T d qa qb qc qd w1 HM.out.r.hd G.out).mono ?_
        rintro e w2 ⟨rfl, m2, rfl⟩
        go_wp2
        go_ret
        exact ⟨by first | rfl | simp, fin.out _ (HK.out.drewN _)⟩
      · have f3 : (kd == 3) = false := by simpa using e3
        clear e3
        by_cases e4 : kd = 4
        · subst e4
          have C1 := Hid.mk (fun n => guess_any P T d qk qs qa qb qc L (w1.drewN n) (HM.out.m.drewN n))
          have C2 := Hid.mk (fun n => guessD_any R g cap T d qk qs qa qb qc L (w1.drewN n) (HM.out.r.drewN n))
          go_wp2_with (fail)
          (try rw [hw1])
          clear hw1
          go_quiet ((first | (go_at_call 22; exact Calls.quiet_of_same (C1.out _)) | (go_at_call 30; exact Calls.quiet_of_same (C2.out _))))
          go_wp2
          go_ret
          exact ⟨by first | rfl | simp, fin.out _ (HK.out.drewN _)⟩
        · have f4 : (kd == 4) = false := by simpa using e4
          clear e4
          by_cases e5 : kd = 5
          · subst e5
            have r1 : ∀ p : KW w1, p.u.cell? ⟨w.heap.size, 0, none⟩ = some (.pointer (some ⟨P, 0, none⟩)) := fun p => cell_keep p.h HS.out.p0 (by simp)
            have r2 : ∀ p : KW w1, p.u.cell? ⟨w.heap.size, 1, none⟩ = some (.pointer (some ⟨R, 0, none⟩)) := fun p => cell_keep p.h HS.out.p1 (by simp)
            have r3 : ∀ p : KW w1, p.u.cell? ⟨w.heap.size + 1, 1, none⟩ = some (.int .i64 qk) := fun p => (HS.out.e8.keep p.h (by simp)).c1
            have K1 : Hid (∀ p : KW w1, Calls Try.prog 23 #[.pointer (some ⟨P, 0, none⟩), .int .i64 qk] p.u fun r w' => r = .returned (.int .i64 (po L qk : Int)) ∧ ∃ p' : KW w1, w' = p'.u) := Hid.mk fun p => (param_any P qk T d L p.u (HM.out.m.keep p.h (by simp))).mono fun r w' ⟨h1, h2⟩ => ⟨h1, ⟨w', p.h.trans h2⟩, rfl⟩
            have K2 : Hid (∀ p : KW w1, Calls Try.prog 31 #[.pointer (some ⟨R, 0, none⟩), .int .i64 qk] p.u fun r w' => r = .returned (.int .i64 (po L qk : Int)) ∧ ∃ p' : KW w1, w' = p'.u) := Hid.mk fun p => (paramD_any R g cap qk T d L p.u (HM.out.r.keep p.h (by simp) (by simp))).mono fun r w' ⟨h1, m, h2⟩ => ⟨h1, ⟨w', by rw [h2]; exact p.h.drewN m⟩, rfl⟩
            have NE : Nonempty (KW w1) := ⟨⟨w1, Kept.refl _ _⟩⟩
            go_wp2_with (fail)
            (try rw [hw1])
            clear hw1
            refine wp_region_kept (by kernel_rfl) (by kernel_rfl) ?_
            repeat (go_big_quiet_step ((first | (go_at_call 23; exact K1.out _) | (go_at_call 31; exact K2.out _))))
            refine wpQuiet_nil ?_
            rintro _ ⟨p, rfl⟩
            go_wp2
            go_ret
            exact ⟨by first | rfl | simp, fin.out _ (HK.out.trans p.h)⟩
          · have f5 : (kd == 5) = false := by simpa using e5
            clear e5
            by_cases e6 : kd = 6
            · subst e6
              go_wp2_with (fail)
              (try rw [hw1])
              clear hw1
              refine (learn_any P T d qk qa L w1 HM.out.m).mono ?_
              rintro e w2 ⟨rfl, m2, k2⟩
              have S2 := HS.out.keep k2 (by simp; have := HQ.out; omega) (by simp; have := HQ.out; omega)
              obtain ⟨c0, c1, c2, ⟨y1, y2, y3, y4, y5, y6⟩⟩ := S2
              dsimp only at c2 y1 y2 y3 y4 y5 y6
              have r2 := HM.out.r.keep k2 (by simp; exact Ne.symm HM.out.pr) (by simp; exact Ne.symm HM.out.pg)
              go_wp2_with (fail)
              refine (HLD.out R g cap T d qk qa L w2 r2).mono ?_
              rintro e w3 ⟨rfl, r3, k3⟩
              have S3 := (HS.out.keep k2 (by simp; have := HQ.out; omega) (by simp; have := HQ.out; omega)).keep k3 (by simp; have := HQ.out; omega) (by simp; have := HQ.out; omega)
              have P3 : Pg w3 B P R g cap T d (lL T d L qk qa) := ⟨m2.keep k3 (by simp; exact HM.out.pg), r3, HM.out.pr, HM.out.pg, HM.out.bp, HM.out.br, HM.out.bg⟩
              obtain ⟨d0, d1, d2, ⟨z1, z2, z3, z4, z5, z6⟩⟩ := S3
              dsimp only at d2 z1 z2 z3 z4 z5 z6
              have HK3 : Hid (Kept [P, g] w w3) := Hid.mk (((HK.out.mono (l2 := [P, g]) (fun x hx => by simp at hx)).step k2 (fun x hx => by simp at hx; subst hx; simp)).step k3 (fun x hx => by simp at hx; subst hx; simp))
              have HP3 := Hid.mk P3
              clear P3 k2 k3 m2 r2 r3
              go_wp2_with (fail)
              refine (pstats_any B P R g cap T d qk _ w3 HP3.out).mono ?_
              rintro e w4 ⟨rfl, k4⟩
              go_wp2
              go_ret
              exact ⟨rfl, ⟨_, HP3.out.keep k4 (by simp) (by simp) (by simp)⟩, HK3.out.trans (k4.mono (fun x hx => by simp at hx))⟩
            · have f6 : (kd == 6) = false := by simpa using e6
              clear e6
              by_cases e7 : kd = 7
              · subst e7
                go_wp2_with (fail)
                (try rw [hw1])
                clear hw1
                refine (pstats_any B P R g cap T d qk L w1 HM.out).mono ?_
                rintro e w2 ⟨rfl, k2⟩
                go_wp2
                go_ret
                exact ⟨rfl, fin.out _ (HK.out.trans k2)⟩
              · have f7 : (kd == 7) = false := by simpa using e7
                clear e7
                by_cases e8 : kd = 8
                · subst e8
                  have C1 := Hid.mk (fun n => med_any qa qb qc (w1.drewN n))
                  have C2 := Hid.mk (fun n => medD_any qa qb qc (w1.drewN n))
                  go_wp2_with (fail)
                  (try rw [hw1])
                  clear hw1
                  go_quiet ((first | (go_at_call 34; exact Calls.quiet_of_same (C1.out _)) | (go_at_call 35; exact Calls.quiet_of_same (C2.out _))))
                  go_wp2
                  go_ret
                  exact ⟨by first | rfl | simp, fin.out _ (HK.out.drewN _)⟩
                · have f8 : (kd == 8) = false := by simpa using e8
                  clear e8
                  go_wp2
                  (try rw [hw1])
                  go_ret
                  exact ⟨rfl, fin.out _ HK.out⟩

end Go.Proofs.Ytpjogodepionoaa
