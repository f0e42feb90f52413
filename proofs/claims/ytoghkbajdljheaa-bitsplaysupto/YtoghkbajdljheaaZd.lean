import Derived.Test.YtoghkbajdljheaaZc
namespace Go.Proofs.Ytoghkbajdljheaa
open Go.RowKit

/-- The World behind the first round. -/
def Half (W wr : World) (A : Nat) : Prop :=
  ∃ R B0 B2 B4 B6 g V, Sep W wr 6 R ∧ R 0 = obj A (.cells (c10 (upd (upd (upd (upd c00 0 (.pointer (some ⟨B0, 0, none⟩))) 2 (.pointer (some ⟨B2, 0, none⟩))) 4 (.pointer (some ⟨B4, 0, none⟩))) 6 (.pointer (some ⟨B6, 0, none⟩)))) 37 (0, 0)) ∧
    R 1 = wtr B0 (.slice none 0 0) 0 0 ∧ R 2 = rfw B2 (.slice none 0 0) [] ∧ R 4 = rdr B4 g [] 0 ∧ R 5 = rfr B6 V [] 0

theorem newRef_at (w : World) : RefW (w.alloc (.cells #[.slice none 0 0] 78)) w.heap.size (.slice none 0 0) [] :=
  ⟨heap_alloc_new w _, World.ownsRow_nil _ _ _ _⟩

theorem newWriter_k (w : World) : Calls Try.prog 10 #[] w fun e w' => e = .returned (.pointer (some ⟨w.heap.size, 0, none⟩)) ∧ WriterAt w' w.heap.size (.slice none 0 0) 0 0 ∧ Kept [] w w' := by
  refine (newWriter_any w).mono ?_
  rintro e w' ⟨rfl, rfl⟩
  exact ⟨rfl, newWriter_at w, (Kept.refl [] w).alloc _⟩

theorem refNewWriter_k (w : World) : Calls Try.prog 11 #[] w fun e w' => e = .returned (.pointer (some ⟨w.heap.size, 0, none⟩)) ∧ RefW w' w.heap.size (.slice none 0 0) [] ∧ Kept [] w w' := by
  refine (refNewWriter_any w).mono ?_
  rintro e w' ⟨rfl, rfl⟩
  exact ⟨rfl, newRef_at w, (Kept.refl [] w).alloc _⟩

theorem Sep.setNew {W w w1 : World} {m A i : Nat} {R : Nat → Rsc} {c : Nat → Value} {r : Rsc} {x : Value} (h : Sep W w (m + 1) R) (h0 : R 0 = obj A (.cells (c10 c) 37 (0, 0))) (hk : Kept [] w w1) (hr : r.P w1) (hF : ∀ x ∈ r.F, w.heap.size ≤ x) (hi : i < 10) :
    Sep W (w1.setCell ⟨A, i, none⟩ x) (m + 1 + 1) (upd (upd R (m + 1) r) 0 (obj A (.cells (c10 (upd c i x)) 37 (0, 0)))) :=
  (h.push hk hr hF).set (by rw [upd_far _ _ _ _ (by omega)]; exact h0) i hi x

set_option maxHeartbeats 8000000 in
set_option maxRecDepth 1000000 in
theorem plays_any (sa : Option Addr) (N cap : Nat) (kd on n v : Nat → Int) (ao : Nat → Option Addr) (mm cp : Nat → Nat) (l : Nat → List Nat) (w : World) (hN : N ≤ 200000)
    (hc : 0 < N → ∃ b off, sa = some ⟨b, off, none⟩ ∧ ∀ i, i < N → w.cell? ⟨b, off + i * 5, none⟩ = some (.int .i64 (kd i)) ∧ w.cell? ⟨b, off + i * 5 + 1, none⟩ = some (.int .i64 (on i)) ∧ w.cell? ⟨b, off + i * 5 + 2, none⟩ = some (.int .i64 (n i)) ∧ w.cell? ⟨b, off + i * 5 + 3, none⟩ = some (.int .u32 (v i)) ∧ w.cell? ⟨b, off + i * 5 + 4, none⟩ = some (.slice (ao i) (mm i) (cp i)))
    (ho : ∀ i, i < N → -9223372036854775808 ≤ on i ∧ on i ≤ 9223372036854775807) (hv : ∀ i, i < N → 0 ≤ v i ∧ v i < 4294967296) (hr : ∀ i, i < N → Reads w (ao i) (l i) ∧ Byts (l i) ∧ (l i).length = mm i ∧ mm i ≤ 10000000) :
    Calls Try.prog 4 #[.slice sa N cap] w fun e w' => e = .returned (.bool true) ∧ Kept [] w w' := by
  have Hc := Hid.mk hc
  have Ho := Hid.mk ho
  have Hv := Hid.mk hv
  have Hr := Hid.mk hr
  clear hc ho hv hr
  go_enter Try.func4, Try.ntmps4
  go_wp2_with fail
  refine (alive_any _).mono ?_
  rintro e w1 ⟨rfl, hk1⟩
  have HS0 : Hid (Sep w (w1.alloc (.cells #[.pointer none, .pointer none, .pointer none, .pointer none, .pointer none, .pointer none, .pointer none, .pointer none, .slice none 0 0, .slice none 0 0] 37)) 1 (fun _ => obj w1.heap.size (.cells (c10 c00) 37 (0, 0)))) :=
    Sep.one (hk1.alloc _) (heap_alloc_new w1 _) (by simp [obj]; exact hk1.size)
  clear hk1
  go_wp2
  generalize w1.alloc (.cells #[.pointer none, .pointer none, .pointer none, .pointer none, .pointer none, .pointer none, .pointer none, .pointer none, .slice none 0 0, .slice none 0 0] 37) = wa at *
  generalize w1.heap.size = A at *
  go_loopg [5, 6] 2 (fun gk s5 s6 wr => (gk = 2 ∧ s5 = .int .i64 0 ∧ ∃ R, Sep w wr 1 R ∧ R 0 = obj A (.cells (c10 c00) 37 (0, 0))) ∨ (gk = 1 ∧ s5 = .int .i64 1 ∧ Half w wr A) ∨ (gk = 0 ∧ s5 = .int .i64 2 ∧ ∃ s, Stt w wr A s 0 (fun _ => nul) ∧ Ok s 0))
  case atStart => exact .inl ⟨rfl, rfl, _, HS0.out, rfl⟩
  case round =>
    rcases hrel with ⟨rfl, rfl, R, hS, h0⟩ | ⟨rfl, rfl, R, P0, P2, P4, P6, pg, pV, hS, h0, h1, h2, h4, h5⟩ | ⟨rfl, rfl, s, hS, hok⟩
    · have HS := Hid.mk hS
      have H0 := Hid.mk h0
      clear hS h0 HS0
      go_wp2_with fail
      go_cut [] (fun w2 => ∃ B, Sep w w2 (0 + 1 + 1) (upd (upd R (0 + 1) (wtr B (.slice none 0 0) 0 0)) 0 (obj A (.cells (c10 (upd (c00) 0 (.pointer (some ⟨B, 0, none⟩)))) 37 (0, 0)))))
      case first =>
        have hb1 := HS.out.P 0 (by omega)
        rw [H0.out] at hb1
        obtain ⟨x0, x1⟩ := c10_cell hb1 0 (by omega)
        have Hb1 := Hid.mk hb1
        clear hb1
        go_region_with (go_at_call 10; refine (newWriter_k _).mono ?_; rintro e w2 ⟨rfl, hW2, hk2⟩; have y0 := (c10_cell (hk2.undrew.heap Hb1.out (by simp)) 0 (by omega)).1; have y1 := (c10_cell (hk2.undrew.heap Hb1.out (by simp)) 0 (by omega)).2)
        all_goals go_wp2
        all_goals go_meet
        all_goals exact ⟨_, HS.out.setNew H0.out hk2.undrew (r := wtr _ (.slice none 0 0) 0 0) hW2 (by intro x hx; simp [wtr, Value.ownBlock] at hx; subst hx; exact Nat.le_refl _) (by omega)⟩
      case rest =>
        obtain ⟨B0, hS1⟩ := hcut
        generalize hR1 : upd (upd R (0 + 1) (wtr B0 (.slice none 0 0) 0 0)) 0 (obj A (.cells (c10 (upd (c00) 0 (.pointer (some ⟨B0, 0, none⟩)))) 37 (0, 0))) = R1 at *
        have hE1 : R1 0 = obj A (.cells (c10 (upd (c00) 0 (.pointer (some ⟨B0, 0, none⟩)))) 37 (0, 0)) := by rw [← hR1, upd_at]
        have HS1 := Hid.mk hS1
        have HE1 := Hid.mk hE1
        have HR1 := Hid.mk hR1
        clear hS1 hE1 hR1 HS
        go_wp2_with fail
        go_cut [] (fun w3 => ∃ B, Sep w w3 (0 + 1 + 1 + 1) (upd (upd R1 (0 + 1 + 1) (rfw B (.slice none 0 0) [])) 0 (obj A (.cells (c10 (upd (upd (c00) 0 (.pointer (some ⟨B0, 0, none⟩))) 2 (.pointer (some ⟨B, 0, none⟩)))) 37 (0, 0)))))
        case first =>
          have hb1 := HS1.out.P 0 (by omega)
          rw [HE1.out] at hb1
          obtain ⟨x0, x1⟩ := c10_cell hb1 2 (by omega)
          have Hb1 := Hid.mk hb1
          clear hb1
          go_region_with (go_at_call 11; refine (refNewWriter_k _).mono ?_; rintro e w3 ⟨rfl, hW3, hk3⟩; have y0 := (c10_cell (hk3.undrew.heap Hb1.out (by simp)) 2 (by omega)).1; have y1 := (c10_cell (hk3.undrew.heap Hb1.out (by simp)) 2 (by omega)).2)
          all_goals go_wp2
          all_goals go_meet
          all_goals exact ⟨_, HS1.out.setNew HE1.out hk3.undrew (r := rfw _ (.slice none 0 0) []) hW3 (by intro x hx; simp [rfw, Value.ownBlock] at hx; subst hx; exact Nat.le_refl _) (by omega)⟩
        case rest =>
          obtain ⟨B2, hS2⟩ := hcut
          generalize hR2 : upd (upd R1 (0 + 1 + 1) (rfw B2 (.slice none 0 0) [])) 0 (obj A (.cells (c10 (upd (upd (c00) 0 (.pointer (some ⟨B0, 0, none⟩))) 2 (.pointer (some ⟨B2, 0, none⟩)))) 37 (0, 0))) = R2 at *
          have hE2 : R2 0 = obj A (.cells (c10 (upd (upd (c00) 0 (.pointer (some ⟨B0, 0, none⟩))) 2 (.pointer (some ⟨B2, 0, none⟩)))) 37 (0, 0)) := by rw [← hR2, upd_at]
          have HS2 := Hid.mk hS2
          have HE2 := Hid.mk hE2
          have HR2 := Hid.mk hR2
          clear hS2 hE2 hR2 HS1
          go_wp2_with fail
          refine (reads_new0 w _ A (0 + 1 + 1) R2 _ HS2.out HE2.out).mono ?_
          rintro e w4 ⟨rfl, R4, B4, g, B6, V, hS4, h40, h4a, h4b, h4c⟩
          have hb4 := hS4.P 0 (by omega)
          rw [h40] at hb4
          have x0 := (c10_cell hb4 0 (by omega)).1
          simp only [upd] at x0
          have HS4 := Hid.mk hS4
          have H40 := Hid.mk h40
          have H4a := Hid.mk h4a
          have H4b := Hid.mk h4b
          have H4c := Hid.mk h4c
          clear hS4 h40 h4a h4b h4c hb4 HS2
          go_wp2
          go_roundg 1
          case measure => omega
          case rel =>
            refine .inr (.inl ⟨rfl, by go_num, R4, B0, B2, B4, B6, g, V, HS4.out, H40.out, ?_, ?_, H4a.out, H4b.out⟩)
            · rw [H4c.out 1 (by omega) (by omega), ← HR2.out, upd_far _ _ _ _ (by omega), upd_far _ _ _ _ (by omega), ← HR1.out, upd_far _ _ _ _ (by omega), upd_at]
            · rw [H4c.out 2 (by omega) (by omega), ← HR2.out, upd_far _ _ _ _ (by omega), upd_at]
    · have HS := Hid.mk hS
      have H0 := Hid.mk h0
      have P1h := Hid.mk h1
      have P2h := Hid.mk h2
      have P4h := Hid.mk h4
      have P5h := Hid.mk h5
      clear hS h0 HS0 h1 h2 h4 h5
      go_wp2_with fail
      go_cut [] (fun w2 => ∃ B, Sep w w2 (5 + 1 + 1) (upd (upd R (5 + 1) (wtr B (.slice none 0 0) 0 0)) 0 (obj A (.cells (c10 (upd (upd (upd (upd (upd c00 0 (.pointer (some ⟨P0, 0, none⟩))) 2 (.pointer (some ⟨P2, 0, none⟩))) 4 (.pointer (some ⟨P4, 0, none⟩))) 6 (.pointer (some ⟨P6, 0, none⟩))) 1 (.pointer (some ⟨B, 0, none⟩)))) 37 (0, 0)))))
      case first =>
        have hb1 := HS.out.P 0 (by omega)
        rw [H0.out] at hb1
        obtain ⟨x0, x1⟩ := c10_cell hb1 1 (by omega)
        have Hb1 := Hid.mk hb1
        clear hb1
        go_region_with (go_at_call 10; refine (newWriter_k _).mono ?_; rintro e w2 ⟨rfl, hW2, hk2⟩; have y0 := (c10_cell (hk2.undrew.heap Hb1.out (by simp)) 1 (by omega)).1; have y1 := (c10_cell (hk2.undrew.heap Hb1.out (by simp)) 1 (by omega)).2)
        all_goals go_wp2
        all_goals go_meet
        all_goals exact ⟨_, HS.out.setNew H0.out hk2.undrew (r := wtr _ (.slice none 0 0) 0 0) hW2 (by intro x hx; simp [wtr, Value.ownBlock] at hx; subst hx; exact Nat.le_refl _) (by omega)⟩
      case rest =>
        obtain ⟨B0, hS1⟩ := hcut
        generalize hR1 : upd (upd R (5 + 1) (wtr B0 (.slice none 0 0) 0 0)) 0 (obj A (.cells (c10 (upd (upd (upd (upd (upd c00 0 (.pointer (some ⟨P0, 0, none⟩))) 2 (.pointer (some ⟨P2, 0, none⟩))) 4 (.pointer (some ⟨P4, 0, none⟩))) 6 (.pointer (some ⟨P6, 0, none⟩))) 1 (.pointer (some ⟨B0, 0, none⟩)))) 37 (0, 0))) = R1 at *
        have hE1 : R1 0 = obj A (.cells (c10 (upd (upd (upd (upd (upd c00 0 (.pointer (some ⟨P0, 0, none⟩))) 2 (.pointer (some ⟨P2, 0, none⟩))) 4 (.pointer (some ⟨P4, 0, none⟩))) 6 (.pointer (some ⟨P6, 0, none⟩))) 1 (.pointer (some ⟨B0, 0, none⟩)))) 37 (0, 0)) := by rw [← hR1, upd_at]
        have HS1 := Hid.mk hS1
        have HE1 := Hid.mk hE1
        have HR1 := Hid.mk hR1
        clear hS1 hE1 hR1 HS
        go_wp2_with fail
        go_cut [] (fun w3 => ∃ B, Sep w w3 (5 + 1 + 1 + 1) (upd (upd R1 (5 + 1 + 1) (rfw B (.slice none 0 0) [])) 0 (obj A (.cells (c10 (upd (upd (upd (upd (upd (upd c00 0 (.pointer (some ⟨P0, 0, none⟩))) 2 (.pointer (some ⟨P2, 0, none⟩))) 4 (.pointer (some ⟨P4, 0, none⟩))) 6 (.pointer (some ⟨P6, 0, none⟩))) 1 (.pointer (some ⟨B0, 0, none⟩))) 3 (.pointer (some ⟨B, 0, none⟩)))) 37 (0, 0)))))
        case first =>
          have hb1 := HS1.out.P 0 (by omega)
          rw [HE1.out] at hb1
          obtain ⟨x0, x1⟩ := c10_cell hb1 3 (by omega)
          have Hb1 := Hid.mk hb1
          clear hb1
          go_region_with (go_at_call 11; refine (refNewWriter_k _).mono ?_; rintro e w3 ⟨rfl, hW3, hk3⟩; have y0 := (c10_cell (hk3.undrew.heap Hb1.out (by simp)) 3 (by omega)).1; have y1 := (c10_cell (hk3.undrew.heap Hb1.out (by simp)) 3 (by omega)).2)
          all_goals go_wp2
          all_goals go_meet
          all_goals exact ⟨_, HS1.out.setNew HE1.out hk3.undrew (r := rfw _ (.slice none 0 0) []) hW3 (by intro x hx; simp [rfw, Value.ownBlock] at hx; subst hx; exact Nat.le_refl _) (by omega)⟩
        case rest =>
          obtain ⟨B2, hS2⟩ := hcut
          generalize hR2 : upd (upd R1 (5 + 1 + 1) (rfw B2 (.slice none 0 0) [])) 0 (obj A (.cells (c10 (upd (upd (upd (upd (upd (upd c00 0 (.pointer (some ⟨P0, 0, none⟩))) 2 (.pointer (some ⟨P2, 0, none⟩))) 4 (.pointer (some ⟨P4, 0, none⟩))) 6 (.pointer (some ⟨P6, 0, none⟩))) 1 (.pointer (some ⟨B0, 0, none⟩))) 3 (.pointer (some ⟨B2, 0, none⟩)))) 37 (0, 0))) = R2 at *
          have hE2 : R2 0 = obj A (.cells (c10 (upd (upd (upd (upd (upd (upd c00 0 (.pointer (some ⟨P0, 0, none⟩))) 2 (.pointer (some ⟨P2, 0, none⟩))) 4 (.pointer (some ⟨P4, 0, none⟩))) 6 (.pointer (some ⟨P6, 0, none⟩))) 1 (.pointer (some ⟨B0, 0, none⟩))) 3 (.pointer (some ⟨B2, 0, none⟩)))) 37 (0, 0)) := by rw [← hR2, upd_at]
          have HS2 := Hid.mk hS2
          have HE2 := Hid.mk hE2
          have HR2 := Hid.mk hR2
          clear hS2 hE2 hR2 HS1
          go_wp2_with fail
          refine (reads_new1 w _ A (5 + 1 + 1) R2 _ HS2.out HE2.out).mono ?_
          rintro e w4 ⟨rfl, R4, B4, g, B6, V, hS4, h40, h4a, h4b, h4c⟩
          have hb4 := hS4.P 0 (by omega)
          rw [h40] at hb4
          have x0 := (c10_cell hb4 1 (by omega)).1
          simp only [upd] at x0
          have HS4 := Hid.mk hS4
          have H40 := Hid.mk h40
          have H4a := Hid.mk h4a
          have H4b := Hid.mk h4b
          have H4c := Hid.mk h4c
          clear hS4 h40 h4a h4b h4c hb4 HS2
          go_wp2
          go_roundg 0
          case measure => omega
          case rel =>
            refine .inr (.inr ⟨rfl, by go_num, ?_⟩)
            refine whole00 (W0 := P0) (W1 := B0) (X0 := P2) (X1 := B2) (R0 := P4) (R1 := B4) (Y0 := P6) (Y1 := B6) (g0 := pg) (g1 := g) (V0 := pV) (V1 := V) HS4.out H40.out ?_ ?_ ?_ ?_ ?_ ?_ H4a.out H4b.out (by simp [c10, upd, c00])
            · rw [H4c.out 1 (by omega) (by omega), ← HR2.out, upd_far _ _ _ _ (by omega), upd_far _ _ _ _ (by omega), ← HR1.out, upd_far _ _ _ _ (by omega), upd_far _ _ _ _ (by omega), P1h.out]
            · rw [H4c.out 2 (by omega) (by omega), ← HR2.out, upd_far _ _ _ _ (by omega), upd_far _ _ _ _ (by omega), ← HR1.out, upd_far _ _ _ _ (by omega), upd_far _ _ _ _ (by omega), P2h.out]
            · rw [H4c.out 4 (by omega) (by omega), ← HR2.out, upd_far _ _ _ _ (by omega), upd_far _ _ _ _ (by omega), ← HR1.out, upd_far _ _ _ _ (by omega), upd_far _ _ _ _ (by omega), P4h.out]
            · rw [H4c.out 5 (by omega) (by omega), ← HR2.out, upd_far _ _ _ _ (by omega), upd_far _ _ _ _ (by omega), ← HR1.out, upd_far _ _ _ _ (by omega), upd_far _ _ _ _ (by omega), P5h.out]
            · rw [H4c.out 6 (by omega) (by omega), ← HR2.out, upd_far _ _ _ _ (by omega), upd_far _ _ _ _ (by omega), ← HR1.out, upd_far _ _ _ _ (by omega), upd_at]
            · rw [H4c.out 7 (by omega) (by omega), ← HR2.out, upd_far _ _ _ _ (by omega), upd_at]
    · have HS := Hid.mk hS
      have Hok := Hid.mk hok
      clear hS hok HS0
      go_wp2
      go_loopw [7, 8] (fun s7 s8 wr => ∃ (i : Nat) (s : St), i ≤ N ∧ s7 = .int .i64 i ∧ Stt w wr A s 0 (fun _ => nul) ∧ Ok s i) (fun s7 _ _ => N - (intOf s7).toNat)
      case atStart => exact ⟨0, s, Nat.zero_le _, rfl, HS.out, Hok.out⟩
      case round =>
        obtain ⟨i, s1, hi, rfl, hS1, hok1⟩ := hrel
        have HS1 := Hid.mk hS1
        have Hok1 := Hid.mk hok1
        clear hok1 HS Hok
        by_cases hlt : i < N
        · obtain ⟨b, off, rfl, hcs⟩ := Hc.out (by omega)
          obtain ⟨q0, q1, q2, q3, q4⟩ := hcs i hlt
          have hblk := hS1.old.block b (World.block_lt_of_cell? w _ q0) (by simp)
          have r0 := (World.cell?_of_block (a := ⟨b, off + i * 5, none⟩) hblk).trans q0
          have r1 := (World.cell?_of_block (a := ⟨b, off + i * 5 + 1, none⟩) hblk).trans q1
          have r2 := (World.cell?_of_block (a := ⟨b, off + i * 5 + 2, none⟩) hblk).trans q2
          have r3 := (World.cell?_of_block (a := ⟨b, off + i * 5 + 3, none⟩) hblk).trans q3
          have r4 := (World.cell?_of_block (a := ⟨b, off + i * 5 + 4, none⟩) hblk).trans q4
          have i1 : (i : Int) < (N : Int) := by omega
          have Hoi := Hid.mk (Ho.out i hlt)
          have Hvi := Hid.mk (Hv.out i hlt)
          have Hri := Hid.mk (Hr.out i hlt)
          generalize kd i = kdi at *
          generalize on i = oni at *
          generalize n i = ni at *
          generalize v i = vi at *
          generalize ao i = aoi at *
          generalize mm i = mmi at *
          generalize cp i = cpi at *
          generalize l i = li at *
          clear hcs q0 q1 q2 q3 q4 hblk hS1
          go_wp2_with fail
          refine (step_any w _ A s1 0 _ i kdi oni ni vi aoi mmi cpi li HS1.out Hok1.out (by omega) Hoi.out.1 Hoi.out.2 Hvi.out.1 Hvi.out.2 Hri.out.1 Hri.out.2.1 Hri.out.2.2.1 Hri.out.2.2.2).mono ?_
          rintro e w2 ⟨rfl, s2, hS2, hok2⟩
          have HS2 := Hid.mk hS2
          have Hok2 := Hid.mk hok2
          clear hS2 hok2 HS1 Hok1 r0 r1 r2 r3 r4
          by_cases h40 : (i : Int) % 40 = 39
          · go_wp2_with fail
            refine (ends_stt w _ A s2 0 _ (i + 1) HS2.out Hok2.out (by omega)).mono ?_
            rintro e w3 ⟨rfl, s3, hS3, hok3⟩
            have HS3 := Hid.mk hS3
            have Hok3 := Hid.mk hok3
            clear hS3 hok3 HS2 Hok2
            go_wp2
            go_roundw
            case rel => exact ⟨i + 1, s3, by omega, by go_num, HS3.out, Hok3.out⟩
            case measure => simp [intOf]; omega
          · go_wp2
            go_roundw
            case rel => exact ⟨i + 1, s2, by omega, by go_num, HS2.out, Hok2.out⟩
            case measure => simp [intOf]; omega
        · clear hS1
          have i2 : ¬ (i : Int) < (N : Int) := by omega
          go_wp2_with fail
          refine (ends_stt w _ A s1 0 _ i HS1.out Hok1.out (by omega)).mono ?_
          rintro e w3 ⟨rfl, s3, hS3, hok3⟩
          have HK3 := Hid.mk hS3.old
          clear hS3 hok3 HS1 Hok1
          go_wp2
          go_ret
          exact ⟨rfl, HK3.out⟩
end Go.Proofs.Ytoghkbajdljheaa
