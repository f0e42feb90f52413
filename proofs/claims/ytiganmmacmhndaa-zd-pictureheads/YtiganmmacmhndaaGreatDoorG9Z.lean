import Derived.Test.YtiganmmacmhndaaGreatDoorG7Z
namespace Go.Proofs.YtiganmmacmhndaaGreatDoor
open Go.RowKit

set_option maxHeartbeats 1000000 in
set_option maxRecDepth 100000 in
/-- How many samples more a run has that ends ahead of its room's end. -/
theorem short_any (X B g : Nat) (l : List Nat) (t r : Nat) (left : Int) (w : World) (hx : CoderAt w X r) (hw : ReaderAt w B g l t) (hT : Tab w) :
    Calls Tryz.prog 165 #[.pointer (some ⟨X, 0, none⟩), .pointer (some ⟨B, 0, none⟩), .int .i64 left] w fun e w' => ∃ (Y E : Int) (t' r' : Nat), e = .returned (.tuple #[.int .i64 Y, .int .i64 E]) ∧ ReaderAt w' B g l t' ∧ CoderAt w' X r' ∧ Kept [X, B] w w' ∧
      ((t + J r ≤ 8 * l.length ∧ (nextN l t (J r) : Int) < left ∧ Y = (nextN l t (J r) : Int) ∧ E = 0 ∧ t' = t + J r ∧ r' = r - 1) ∨
       (t + J r ≤ 8 * l.length ∧ left ≤ (nextN l t (J r) : Int) ∧ Y = 0 ∧ E = 24) ∨ (8 * l.length < t + J r ∧ Y = 0 ∧ E = 23)) := by
  have hXB : X ≠ B := by
    rintro rfl
    have h1 := hw.1
    rw [hx.1] at h1
    simp at h1
  have hXg : X ≠ g := by
    rintro rfl
    have h1 := hw.2.1
    rw [hx.1] at h1
    simp at h1
  obtain ⟨c0, f0⟩ := cells_one hx.1
  have hr := hx.2
  have hj := hT r (by omega)
  have j12 := J_le r
  obtain ⟨Y, E, t', hg⟩ := getRes_ex l t (J r)
  have HG := Hid.mk (fun w hw => get_res B g l t (J r : Int) Y E t' w hw (by omega) (by omega) (by rw [Int.toNat_natCast]; exact hg))
  have HW := Hid.mk hw
  have HX := Hid.mk hx
  clear hw hx hT
  rcases hg with ⟨h2, rfl, rfl, rfl⟩ | ⟨h2, rfl, rfl, rfl⟩
  · have hu := next_u32 l t (J r) (by omega)
    by_cases hq : left ≤ (nextN l t (J r) : Int)
    · go_enter Tryz.func165, Tryz.ntmps165
      go_wp2_with (go_at_call 93; refine (HG.out _ HW.out).mono ?_; rintro e w1 ⟨rfl, hr1, hk1⟩)
      go_ret2
      exact ⟨_, _, _, _, rfl, hr1, HX.out.kept hk1 (by simpa using hXB), hk1.mono (by simp), .inr (.inl ⟨h2, hq, rfl, rfl⟩)⟩
    · go_enter Tryz.func165, Tryz.ntmps165
      go_wp2_with (first
        | (go_at_call 93; refine (HG.out _ HW.out).mono ?_; rintro e w1 ⟨rfl, hr1, hk1⟩; have HR1 := Hid.mk hr1; have HK1 := Hid.mk hk1; clear hr1 hk1)
        | (go_at_call 183; refine (fall_any X r _ (HX.out.kept HK1.out (by simpa using hXB))).mono ?_; rintro e w2 ⟨rfl, hc2, hk2⟩))
      go_ret2
      exact ⟨_, _, _, _, rfl, reader_kept HR1.out hk2 (by simpa using hXB.symm) (by simpa using hXg.symm), hc2, (HK1.out.mono (by simp)).step hk2 (by simp), .inl ⟨h2, by omega, rfl, rfl, rfl, rfl⟩⟩
  · go_enter Tryz.func165, Tryz.ntmps165
    go_wp2_with (go_at_call 93; refine (HG.out _ HW.out).mono ?_; rintro e w1 ⟨rfl, hr1, hk1⟩)
    go_ret2
    exact ⟨_, _, _, _, rfl, hr1, HX.out.kept hk1 (by simpa using hXB), hk1.mono (by simp), .inr (.inr ⟨h2, rfl, rfl⟩)⟩
end Go.Proofs.YtiganmmacmhndaaGreatDoor

namespace Go.Proofs.YtiganmmacmhndaaGreatDoor
open Go.RowKit

theorem bit_res (l : List Nat) (t : Nat) : (t < 8 * l.length ∧ nextN l t 1 = 0) ∨ (t < 8 * l.length ∧ nextN l t 1 = 1) ∨ 8 * l.length ≤ t := by
  have := bit_lt l t
  omega

/-- The state within Get of a run, behind i stretches. -/
structure GetS (w wr : World) (X B g : Nat) (l : List Nat) (t r room i : Nat) : Prop where
  coder : CoderAt wr X (ri r i)
  reader : ReaderAt wr B g l (t + i)
  tab : Tab wr
  keep : Kept [X, B] w wr
  sum : S r i ≤ room
  ones : ∀ a, a < i → nextN l (t + a) 1 = 1

/-- What run comes to. -/
def RunPost (w : World) (X B g : Nat) (l : List Nat) (t r room : Nat) (e : Ending) (w' : World) : Prop :=
  ∃ (Y E : Int) (t' r' : Nat) (Y2 : Int) (t2 r2 : Nat), e = .returned (.tuple #[.int .i64 Y, .int .i64 E]) ∧ ReaderAt w' B g l t' ∧ CoderAt w' X r' ∧ Kept [X, B] w w' ∧
      RunRes l t r room Y2 E t2 r2 ∧ (E = 0 → Y2 = Y ∧ t2 = t' ∧ r2 = r')

set_option maxHeartbeats 2000000 in
set_option maxRecDepth 1000000 in
theorem run_any (X B g : Nat) (l : List Nat) (t r : Nat) (room : Int) (w : World) (hx : CoderAt w X r) (hw : ReaderAt w B g l t) (hT : Tab w) (hX : X ≠ 0) (hB : B ≠ 0) (h0 : 1 ≤ room) (h1 : room ≤ 4096) :
    Calls Tryz.prog 145 #[.pointer (some ⟨X, 0, none⟩), .pointer (some ⟨B, 0, none⟩), .int .i64 room] w fun e w' => RunPost w X B g l t r room.toNat e w' := by
  have hr := hx.2
  have hXB : X ≠ B := by
    rintro rfl
    have h1 := hw.1
    rw [hx.1] at h1
    simp at h1
  have hXg : X ≠ g := by
    rintro rfl
    have h1 := hw.2.1
    rw [hx.1] at h1
    simp at h1
  have HS : Hid (GetS w w X B g l t r room.toNat 0) := ⟨by rw [show ri r 0 = r by unfold ri; omega]; exact hx, hw, hT, Kept.refl _ _, Nat.zero_le _, fun a ha => by omega⟩
  clear hx hw hT
  go_enter Tryz.func145, Tryz.ntmps145
  go_wp2_with fail
  go_loopw [8] (fun lf wr => ∃ i : Nat, lf = .int .i64 (room - (S r i : Int)) ∧ GetS w wr X B g l t r room.toNat i) (fun lf _ => (intOf lf).toNat)
  case atStart => exact ⟨0, by simp [S], HS.out⟩
  case round =>
    obtain ⟨i, rfl, hS⟩ := hrel
    obtain ⟨s, hs⟩ : ∃ s : Int, s = ((2 ^ J (ri r i) : Nat) : Int) := ⟨_, rfl⟩
    have Hs := Hid.mk hs
    have s0 : 1 ≤ s := by have := Nat.two_pow_pos (J (ri r i)); omega
    have s1 : s ≤ 4096 := by have := stretch_le (ri r i); omega
    have hge := S_ge r i
    have hsum := hS.sum
    have hti := hS.reader.2.2.2.1
    have HSi := Hid.mk hS
    clear hS hs
    by_cases hlt : 0 < room - (S r i : Int)
    · obtain ⟨Y, E, t', hg⟩ := getRes_ex l (t + i) 1
      have HG := Hid.mk (fun w hw => get_res B g l (t + i) 1 Y E t' w hw (by omega) (by omega) hg)
      rcases hg with ⟨h2, rfl, rfl, rfl⟩ | ⟨h2, rfl, rfl, rfl⟩
      · rcases Nat.lt_or_ge (nextN l (t + i) 1) 1 with hb | hb
        · have hb0 : nextN l (t + i) 1 = 0 := by omega
          rw [hb0] at HG
          go_wp2_with (go_at_call 93; refine (HG.out _ HSi.out.reader).mono ?_; rintro e w1 ⟨rfl, hr1, hk1⟩)
          refine (short_any X B g l (t + i + 1) (ri r i) (room - (S r i : Int)) _ (HSi.out.coder.kept hk1 (by simpa using hXB)) hr1 (HSi.out.tab.kept hk1 (by simpa using hB.symm))).mono ?_
          rintro e w2 ⟨Y, E, t', r', rfl, hr2, hc2, hk2, hres⟩
          have hK : Kept [X, B] w w2 := (HSi.out.keep.step hk1 (by simp)).trans hk2
          have HR2 := Hid.mk hr2
          have HC2 := Hid.mk hc2
          have HK := Hid.mk hK
          clear hr1 hk1 hr2 hc2 hk2 hK
          have hY : 0 ≤ Y ∧ Y ≤ 4096 := by
            rcases hres with ⟨_, h, rfl, _⟩ | ⟨_, _, rfl, _⟩ | ⟨_, rfl, _⟩ <;> omega
          obtain ⟨y0, y1⟩ := hY
          have Hres := Hid.mk hres
          clear hres
          go_wp2_with fail
          go_ret2
          rcases Hres.out with ⟨h3, h4, rfl, rfl, rfl, rfl⟩ | ⟨h3, h4, rfl, rfl⟩ | ⟨h3, rfl, rfl⟩
          · refine ⟨_, _, _, _, _, _, _, rfl, HR2.out, HC2.out, HK.out, ⟨i, HSi.out.ones, HSi.out.sum, by omega, .inr (.inr (.inl ⟨by omega, by omega, hb0, by omega, by omega, rfl, rfl, rfl, rfl⟩))⟩, fun _ => ⟨by omega, rfl, rfl⟩⟩
          · exact ⟨_, _, _, _, _, _, _, rfl, HR2.out, HC2.out, HK.out, ⟨i, HSi.out.ones, HSi.out.sum, by omega, .inr (.inr (.inr (.inr ⟨by omega, by omega, rfl, rfl, rfl, rfl, hb0, by omega, by omega⟩)))⟩, fun h => by cases h⟩
          · exact ⟨_, _, _, _, _, _, _, rfl, HR2.out, HC2.out, HK.out, ⟨i, HSi.out.ones, HSi.out.sum, by omega, .inr (.inr (.inr (.inl ⟨by omega, rfl, rfl, rfl, rfl, .inr ⟨by omega, hb0, by omega⟩⟩)))⟩, fun h => by cases h⟩
        · have hb1 : nextN l (t + i) 1 = 1 := by have := bit_lt l (t + i); omega
          rw [hb1] at HG
          by_cases hst : room - (S r i : Int) < s
          · go_wp2_with (first
              | (go_at_call 93; refine (HG.out _ HSi.out.reader).mono ?_; rintro e w1 ⟨rfl, hr1, hk1⟩; have HR1 := Hid.mk hr1; have HK1 := Hid.mk hk1; clear hr1 hk1)
              | (go_at_call 166; refine (stretch_any X (ri r i) s _ (HSi.out.coder.kept HK1.out (by simpa using hXB)) (HSi.out.tab.kept HK1.out (by simpa using hB.symm)) Hs.out).mono ?_; rintro e w2 ⟨rfl, rfl⟩))
            go_ret2
            refine ⟨_, _, _, _, _, _, _, rfl, HR1.out, HSi.out.coder.kept HK1.out (by simpa using hXB), HSi.out.keep.step HK1.out (by simp), ⟨i, HSi.out.ones, HSi.out.sum, by omega, .inr (.inl ⟨by omega, by omega, hb1, ?_, by omega, rfl, rfl, rfl⟩)⟩, fun _ => ⟨rfl, rfl, rfl⟩⟩
            have := Hs.out
            rw [S_succ]; omega
          · go_wp2_with (first
              | (go_at_call 93; refine (HG.out _ HSi.out.reader).mono ?_; rintro e w1 ⟨rfl, hr1, hk1⟩; have HR1 := Hid.mk hr1; have HK1 := Hid.mk hk1; clear hr1 hk1)
              | (go_at_call 166; refine (stretch_any X (ri r i) s _ (HSi.out.coder.kept HK1.out (by simpa using hXB)) (HSi.out.tab.kept HK1.out (by simpa using hB.symm)) Hs.out).mono ?_; rintro e w2 ⟨rfl, rfl⟩)
              | (go_at_call 167; refine (rise_any X (ri r i) _ (HSi.out.coder.kept HK1.out (by simpa using hXB))).mono ?_; rintro e w3 ⟨rfl, hc3, hk3⟩; have HC3 := Hid.mk hc3; have HK3 := Hid.mk hk3; clear hc3 hk3))
            go_roundw
            case rel =>
              refine ⟨i + 1, ?_, ?_⟩
              · have := Hs.out
                rw [S_succ]
                congr 1
                omega
              · refine ⟨?_, ?_, (HSi.out.tab.kept HK1.out (by simpa using hB.symm)).kept HK3.out (by simpa using hX.symm), (HSi.out.keep.step HK1.out (by simp)).step HK3.out (by simp), ?_, ?_⟩
                · have h := HC3.out
                  rw [show min (ri r i + 1) 22 = ri r (i + 1) by unfold ri; omega] at h
                  exact h
                · exact reader_kept HR1.out HK3.out (by simpa using hXB.symm) (by simpa using hXg.symm)
                · have := Hs.out; rw [S_succ]; omega
                · intro a ha
                  by_cases e : a = i
                  · subst e; exact hb1
                  · exact HSi.out.ones a (by omega)
            case measure => simp [intOf]; omega
      · go_wp2_with (go_at_call 93; refine (HG.out _ HSi.out.reader).mono ?_; rintro e w1 ⟨rfl, hr1, hk1⟩)
        go_ret2
        exact ⟨_, _, _, _, _, _, _, rfl, hr1, HSi.out.coder.kept hk1 (by simpa using hXB), HSi.out.keep.step hk1 (by simp), ⟨i, HSi.out.ones, HSi.out.sum, by omega, .inr (.inr (.inr (.inl ⟨by omega, rfl, rfl, rfl, rfl, .inl (by omega)⟩)))⟩, fun h => by cases h⟩
    · go_wp2_with fail
      go_ret2
      exact ⟨_, _, _, _, _, _, _, rfl, HSi.out.reader, HSi.out.coder, HSi.out.keep, ⟨i, HSi.out.ones, HSi.out.sum, by omega, .inl ⟨by omega, by omega, rfl, rfl, rfl⟩⟩, fun _ => ⟨rfl, rfl, rfl⟩⟩
end Go.Proofs.YtiganmmacmhndaaGreatDoor

namespace Go.Proofs.YtiganmmacmhndaaGreatDoor
open Go.RowKit

theorem runRes_err {l : List Nat} {t r room : Nat} {X E : Int} {t' r' : Nat} (h : RunRes l t r room X E t' r') (hE : E ≠ 0) : X = 0 ∧ t' = t ∧ r' = r := by
  obtain ⟨i, _, _, _, hc⟩ := h
  rcases hc with ⟨_, _, h, _⟩ | ⟨_, _, _, _, _, h, _⟩ | ⟨_, _, _, _, _, _, h, _⟩ | ⟨_, h1, h2, h3, _⟩ | ⟨_, _, h1, h2, h3, _⟩
  · exact absurd h hE
  · exact absurd h hE
  · exact absurd h hE
  · exact ⟨h1, h2, h3⟩
  · exact ⟨h1, h2, h3⟩

theorem two_new (w : World) (a b : Array Value) (s t : TypeId) : ((w.alloc (.cells a s)).alloc (.cells b t)).drew.heap[w.heap.size]? = some (.cells a s (0, 0)) ∧ ((w.alloc (.cells a s)).alloc (.cells b t)).drew.heap[w.heap.size + 1]? = some (.cells b t (0, 0)) := by
  refine ⟨?_, ?_⟩
  · show ((w.alloc (.cells a s)).alloc (.cells b t)).heap[w.heap.size]? = _
    rw [Below.heap_alloc _ _ _ (by simp), heap_alloc_new]
  · show ((w.alloc (.cells a s)).alloc (.cells b t)).heap[w.heap.size + 1]? = _
    have h := heap_alloc_new (w.alloc (.cells a s)) (.cells b t)
    simpa using h

/-- What Get of a run comes to. -/
def RGetPost (w : World) (X B g : Nat) (l : List Nat) (t r room : Nat) (e : Ending) (w' : World) : Prop :=
  ∃ (Y E : Int) (t' r' : Nat), e = .returned (.tuple #[.int .i64 Y, .int .i64 E]) ∧ ReaderAt w' B g l t' ∧ CoderAt w' X r' ∧ Kept [X, B] w w' ∧ RunRes l t r room Y E t' r'

set_option maxHeartbeats 2000000 in
set_option maxRecDepth 1000000 in
theorem rget_any (X B g : Nat) (l : List Nat) (t r : Nat) (room : Int) (w : World) (hx : CoderAt w X r) (hw : ReaderAt w B g l t) (hT : Tab w) (hB : B ≠ 0) (h0 : 1 ≤ room) (h1 : room ≤ 4096) :
    Calls Tryz.prog 118 #[.pointer (some ⟨X, 0, none⟩), .pointer (some ⟨B, 0, none⟩), .int .i64 room] w fun e w' => RGetPost w X B g l t r room.toNat e w' := by
  obtain ⟨c0, c1, fz⟩ := cells_two hw.1
  have f0 := fz 0
  have f1 := fz 1
  obtain ⟨x0, xf⟩ := cells_one hx.1
  have HW := Hid.mk hw
  have HX := Hid.mk hx
  have HT := Hid.mk hT
  have hBl := lt_of_block hw.1
  have hXl := lt_of_block hx.1
  clear hw fz hx hT
  go_enter Tryz.func118, Tryz.ntmps118
  go_wp2_with (go_at_call 144; refine (roomy_ok room _ h0 h1).mono ?_; rintro e w' ⟨rfl, rfl⟩)
  go_cut [8, 9] (fun s8 s9 wc => ∃ A C : Nat, s8 = .pointer (some ⟨A, 0, none⟩) ∧ s9 = .pointer (some ⟨C, 0, none⟩) ∧ wc.heap[A]? = some (.cells #[.slice (some ⟨g, 0, none⟩) l.length l.length, .int .i64 (t : Int)] 173 (0, 0)) ∧ wc.heap[C]? = some (.cells #[.int .i64 (r : Int)] 175 (0, 0)) ∧ Kept [] w' wc ∧ w'.heap.size ≤ A ∧ w'.heap.size ≤ C ∧ A ≠ C)
  case first =>
    go_region_with fail
    all_goals go_wp2
    all_goals go_meet
    all_goals first
      | exact ⟨w'.heap.size, w'.heap.size + 1, rfl, rfl, (two_new w' _ _ _ _).1, (two_new w' _ _ _ _).2, (((Kept.refl _ _).alloc _).alloc _).drew, by omega, by omega, by omega⟩
      | exact ⟨w'.heap.size + 1, w'.heap.size, rfl, rfl, (two_new w' _ _ _ _).2, (two_new w' _ _ _ _).1, (((Kept.refl _ _).alloc _).alloc _).drew, by omega, by omega, by omega⟩
  case rest =>
    obtain ⟨A, C, rfl, rfl, hA, hC, hK, hAs, hCs, hAC⟩ := hcut
    have hp := HT.out.pos
    have hRA : ReaderAt wc A g l t := ⟨hA, hK.heap HW.out.2.1 (by simp), HW.out.2.2⟩
    have hCC : CoderAt wc C r := ⟨hC, HX.out.2⟩
    have HRA := Hid.mk hRA
    have HCC := Hid.mk hCC
    have HK := Hid.mk hK
    clear hA hC hK hRA hCC c0 c1 f0 f1 x0 xf
    go_wp2_with fail
    refine (run_any C A g l t r room _ HCC.out HRA.out (HT.out.kept HK.out (by simp)) (by omega) (by omega) h0 h1).mono ?_
    rintro e w2 ⟨Y, E, t', r', Y2, t2, r2, rfl, hr2, hc2, hk2, hres, hE⟩
    have hK2 : Kept [] w' w2 := HK.out.step hk2 (by simp; omega)
    have hB2 := hK2.heap HW.out.1 (by simp)
    have hX2 := hK2.heap HX.out.1 (by simp)
    obtain ⟨a0, a1, _⟩ := cells_two hr2.1
    obtain ⟨b0, _⟩ := cells_one hc2.1
    obtain ⟨d0, d1, fz⟩ := cells_two hB2
    obtain ⟨e0, ef⟩ := cells_one hX2
    have g0 := fz 0
    have g1 := fz 1
    have hXB : X ≠ B := by
      rintro rfl
      rw [hX2] at hB2
      simp at hB2
    have hXg : X ≠ g := by
      rintro rfl
      have h1 := HW.out.2.1
      rw [HX.out.1] at h1
      simp at h1
    have hBg : B ≠ g := by
      rintro rfl
      have h1 := HW.out.2.1
      rw [HW.out.1] at h1
      simp at h1
    have hBX := hXB.symm
    have HR2 := Hid.mk hr2
    have HC2 := Hid.mk hc2
    have HK2 := Hid.mk hK2
    have HB2 := Hid.mk hB2
    have HX2 := Hid.mk hX2
    have HE := Hid.mk hE
    have Hres := Hid.mk hres
    have n1 : A ≠ B := by omega
    have n2 : C ≠ B := by omega
    have n3 : A ≠ X := by omega
    have n4 : C ≠ X := by omega
    clear hr2 hc2 hk2 hK2 hB2 hX2 fz hE hres
    by_cases hE0 : E = 0
    · subst hE0
      go_wp2_with fail
      go_ret2
      obtain ⟨rfl, rfl, rfl⟩ := HE.out (by simp)
      refine ⟨_, _, _, _, rfl, ⟨?_, ?_, HR2.out.2.2⟩, ⟨?_, HC2.out.2⟩, (((HK2.out.mono (l2 := [X, B]) (by simp)).setCell (by simp) _).setCell (by simp) _).setCell (by simp) _, Hres.out⟩
      · rw [Below.heap_setCell _ _ _ _ hBX, heap_setCell_at (heap_setCell_at HB2.out)]; simp
      · rw [Below.heap_setCell _ _ _ _ hXg.symm, Below.heap_setCell _ _ _ _ hBg.symm, Below.heap_setCell _ _ _ _ hBg.symm]
        exact HR2.out.2.1
      · rw [heap_setCell_at (by rw [Below.heap_setCell _ _ _ _ hXB, Below.heap_setCell _ _ _ _ hXB]; exact HX2.out)]; simp
    · go_wp2_with fail
      go_ret2
      obtain ⟨rfl, rfl, rfl⟩ := runRes_err Hres.out hE0
      exact ⟨_, _, _, _, rfl, reader_kept HW.out HK2.out (by simp) (by simp), HX.out.kept HK2.out (by simp), HK2.out.mono (by simp), Hres.out⟩
end Go.Proofs.YtiganmmacmhndaaGreatDoor

namespace Go.Proofs.YtiganmmacmhndaaGreatDoor
open Go.RowKit

/-- The number that has been laid down behind the first forms. -/
def AN (v n : Nat → Nat) : Nat → Nat
  | 0 => 0
  | i + 1 => AN v n i * 2 ^ n i + v i
/-- How many bits these are. -/
def AL (n : Nat → Nat) : Nat → Nat
  | 0 => 0
  | i + 1 => AL n i + n i

theorem AL_mono (n : Nat → Nat) (i j : Nat) (h : i ≤ j) : AL n i ≤ AL n j := by
  induction j with
  | zero => have : i = 0 := by omega
            subst this; exact Nat.le_refl _
  | succ j ih =>
    by_cases e : i = j + 1
    · subst e; exact Nat.le_refl _
    · have := ih (by omega)
      simp only [AL]; omega

theorem AL_le (n : Nat → Nat) (c k : Nat) (hn : ∀ i, i < k → n i ≤ c) : AL n k ≤ c * k := by
  induction k with
  | zero => simp [AL]
  | succ k ih =>
    have h1 := hn k (by omega)
    have h2 := ih (fun i hi => hn i (by omega))
    simp only [AL, Nat.mul_add, Nat.mul_one]
    generalize c * k = q at *
    omega

theorem AN_lt (v n : Nat → Nat) (k : Nat) (h : ∀ i, i < k → v i < 2 ^ n i) : AN v n k < 2 ^ AL n k := by
  induction k with
  | zero => simp [AN, AL]
  | succ k ih =>
    have h1 := ih (fun i hi => h i (by omega))
    have h2 := h k (by omega)
    simp only [AN, AL, Nat.pow_add]
    have h3 : (AN v n k + 1) * 2 ^ n k ≤ 2 ^ AL n k * 2 ^ n k := Nat.mul_le_mul_right _ h1
    rw [Nat.add_mul] at h3
    omega

theorem AN_div (v n : Nat → Nat) (i j : Nat) (hij : i ≤ j) (h : ∀ k, k < j → v k < 2 ^ n k) : AN v n j / 2 ^ (AL n j - AL n i) = AN v n i := by
  induction j with
  | zero =>
    have : i = 0 := by omega
    subst this; simp [AN]
  | succ j ih =>
    by_cases e : i = j + 1
    · subst e; simp
    · have h1 := ih (by omega) (fun k hk => h k (by omega))
      have h2 := h j (by omega)
      have hm := AL_mono n i j (by omega)
      have e2 : AL n (j + 1) - AL n i = n j + (AL n j - AL n i) := by simp only [AL]; omega
      rw [e2, Nat.pow_add, ← Nat.div_div_eq_div_mul]
      simp only [AN]
      rw [Nat.add_comm, Nat.add_mul_div_right _ _ (Nat.two_pow_pos _), Nat.div_eq_of_lt h2, Nat.zero_add, h1]

theorem num_padded (X len : Nat) (hX : X < 2 ^ len) : num (big ((len + 7) / 8) (X * 2 ^ (8 * ((len + 7) / 8) - len))) = X * 2 ^ (8 * ((len + 7) / 8) - len) := by
  rw [num_big, pow256, Nat.mod_eq_of_lt]
  have h1 : X * 2 ^ (8 * ((len + 7) / 8) - len) < 2 ^ len * 2 ^ (8 * ((len + 7) / 8) - len) := Nat.mul_lt_mul_of_pos_right hX (Nat.two_pow_pos _)
  rw [← Nat.pow_add] at h1
  rwa [show len + (8 * ((len + 7) / 8) - len) = 8 * ((len + 7) / 8) by omega] at h1

theorem next_back (v n : Nat → Nat) (T i : Nat) (hi : i < T) (h : ∀ k, k < T → v k < 2 ^ n k) :
    nextN (big ((AL n T + 7) / 8) (AN v n T * 2 ^ (8 * ((AL n T + 7) / 8) - AL n T))) (AL n i) (n i) = v i := by
  have hA := AL_mono n (i + 1) T (by omega)
  have hA' : AL n i + n i ≤ AL n T := hA
  rw [nextN, big_length, num_padded _ _ (AN_lt v n T h)]
  have e1 : 8 * ((AL n T + 7) / 8) - (AL n i + n i) = (8 * ((AL n T + 7) / 8) - AL n T) + (AL n T - AL n (i + 1)) := by
    simp only [AL]; omega
  rw [e1, Nat.pow_add, ← Nat.div_div_eq_div_mul, Nat.mul_div_cancel _ (Nat.two_pow_pos _), AN_div v n (i + 1) T (by omega) h]
  simp only [AN]
  rw [Nat.mul_add_mod_self_right, Nat.mod_eq_of_lt (h i hi)]

theorem next_rest (X len : Nat) (hX : X < 2 ^ len) : nextN (big ((len + 7) / 8) (X * 2 ^ (8 * ((len + 7) / 8) - len))) len (8 * ((len + 7) / 8) - len) = 0 := by
  rw [nextN, big_length, num_padded _ _ hX]
  have e1 : 8 * ((len + 7) / 8) - (len + (8 * ((len + 7) / 8) - len)) = 0 := by omega
  rw [e1]
  simp

/-- The width, parameter and value of a raw number. -/
def wd (W : Int) : Int := 1 + pick W 16
def kk (K : Int) : Int := pick K 16
def vv (V W : Int) : Int := pick V ((2 ^ (wd W).toNat : Nat) : Int)

theorem wd_lo (W : Int) : 1 ≤ wd W := by have := pick_lo W 16 (by decide); unfold wd; omega
theorem wd_hi (W : Int) : wd W ≤ 16 := by have := pick_hi W 16 (by decide); unfold wd; omega
theorem kk_lo (K : Int) : 0 ≤ kk K := pick_lo K 16 (by decide)
theorem kk_hi (K : Int) : kk K ≤ 15 := by have := pick_hi K 16 (by decide); unfold kk; omega
theorem vv_lo (V W : Int) : 0 ≤ vv V W := pick_lo V _ (by have := Nat.two_pow_pos (wd W).toNat; omega)
theorem vv_hi (V W : Int) : (vv V W).toNat < 2 ^ (wd W).toNat := by
  have h := pick_hi V ((2 ^ (wd W).toNat : Nat) : Int) (by have := Nat.two_pow_pos (wd W).toNat; omega)
  have h0 := vv_lo V W
  unfold vv at *
  omega

end Go.Proofs.YtiganmmacmhndaaGreatDoor

namespace Go.Proofs.YtiganmmacmhndaaGreatDoor
open Go.RowKit

set_option maxHeartbeats 1000000 in
theorem fold_pos (e : Int) (w : World) (h0 : 0 ≤ e) (h1 : e ≤ 1073741823) :
    Calls Tryz.prog 193 #[.int .i64 e] w fun r w' => r = .returned (.tuple #[.int .i64 (2 * e), .int .i64 0]) ∧ w' = w := by
  have t1 : decide (e < -1073741824) = false := by simp; omega
  go_enter Tryz.func193, Tryz.ntmps193
  go_wp2
  go_ret2
  exact ⟨rfl, rfl⟩

set_option maxHeartbeats 1000000 in
theorem fold_neg (e : Int) (w : World) (h0 : -1073741824 ≤ e) (h1 : e < 0) :
    Calls Tryz.prog 193 #[.int .i64 e] w fun r w' => r = .returned (.tuple #[.int .i64 (-2 * e - 1), .int .i64 0]) ∧ w' = w := by
  have t1 : decide (e < -1073741824) = false := by simp; omega
  go_enter Tryz.func193, Tryz.ntmps193
  go_wp2
  go_ret2
  exact ⟨rfl, rfl⟩

set_option maxHeartbeats 1000000 in
theorem unfold_even (v : Int) (w : World) (h0 : 0 ≤ v) (h1 : v ≤ 2147483647) (h2 : v % 2 = 0) :
    Calls Tryz.prog 123 #[.int .i64 v] w fun r w' => r = .returned (.tuple #[.int .i64 (v / 2), .int .i64 0]) ∧ w' = w := by
  have t1 : decide (v < 0) = false := by simp; omega
  go_enter Tryz.func123, Tryz.ntmps123
  go_wp2
  go_ret2
  exact ⟨rfl, rfl⟩

set_option maxHeartbeats 1000000 in
theorem unfold_odd (v : Int) (w : World) (h0 : 0 ≤ v) (h1 : v ≤ 2147483647) (h2 : v % 2 = 1) :
    Calls Tryz.prog 123 #[.int .i64 v] w fun r w' => r = .returned (.tuple #[.int .i64 (-(v / 2) - 1), .int .i64 0]) ∧ w' = w := by
  have t1 : decide (v < 0) = false := by simp; omega
  go_enter Tryz.func123, Tryz.ntmps123
  go_wp2
  go_ret2
  exact ⟨rfl, rfl⟩

theorem fold_to (e a : Int) (w : World) (h0 : -1073741824 ≤ e) (h1 : e ≤ 1073741823) (ha : (0 ≤ e ∧ a = 2 * e) ∨ (e < 0 ∧ a = -2 * e - 1)) :
    Calls Tryz.prog 193 #[.int .i64 e] w fun r w' => r = .returned (.tuple #[.int .i64 a, .int .i64 0]) ∧ w' = w := by
  rcases ha with ⟨h, rfl⟩ | ⟨h, rfl⟩
  · exact fold_pos e w h h1
  · exact fold_neg e w h0 h

theorem unfold_to (v n : Int) (w : World) (h0 : 0 ≤ v) (h1 : v ≤ 2147483647) (hn : (v % 2 = 0 ∧ n = v / 2) ∨ (v % 2 = 1 ∧ n = -(v / 2) - 1)) :
    Calls Tryz.prog 123 #[.int .i64 v] w fun r w' => r = .returned (.tuple #[.int .i64 n, .int .i64 0]) ∧ w' = w := by
  rcases hn with ⟨h, rfl⟩ | ⟨h, rfl⟩
  · exact unfold_even v w h0 h1 h
  · exact unfold_odd v w h0 h1 h

end Go.Proofs.YtiganmmacmhndaaGreatDoor

namespace Go.Proofs.YtiganmmacmhndaaGreatDoor
open Go.RowKit

/-- What is read is one. -/
theorem numRes_one {l : List Nat} {t k wide : Nat} {X E X2 E2 : Int} {t' t2 : Nat} (h : NumRes l t k wide X E t') (h2 : NumRes l t k wide X2 E2 t2) : X = X2 ∧ E = E2 ∧ t' = t2 := by
  rcases numRes_ok h with ⟨rfl, v, rfl, hv, rfl, hle, hb⟩ | ⟨hE, rfl⟩
  · obtain ⟨rfl, rfl, rfl⟩ := numRes_form h2 hv hle hb
    exact ⟨rfl, rfl, rfl⟩
  · rcases numRes_ok h2 with ⟨rfl, v, rfl, hv, rfl, hle, hb⟩ | ⟨hE2, rfl⟩
    · obtain ⟨rfl, rfl, e3⟩ := numRes_form h hv hle hb
      rcases hE with h | h <;> cases h
    · obtain ⟨rfl, _⟩ := numRes_err h (by rcases hE with h | h <;> rw [h] <;> decide)
      obtain ⟨rfl, _⟩ := numRes_err h2 (by rcases hE2 with h | h <;> rw [h] <;> decide)
      refine ⟨rfl, ?_, rfl⟩
      rcases h with ⟨_, _, _, _, _, _, _, h, _⟩ | ⟨_, _, _, _, h, _⟩ | ⟨_, _, h, hc⟩ | ⟨_, _, h, hc⟩
      · rw [h] at hE; rcases hE with h | h <;> cases h
      · rw [h] at hE; rcases hE with h | h <;> cases h
      · rcases h2 with ⟨_, _, _, _, _, _, _, g, _⟩ | ⟨_, _, _, _, g, _⟩ | ⟨_, _, g, _⟩ | ⟨_, _, g, gc⟩
        · rw [g] at hE2; rcases hE2 with h | h <;> cases h
        · rw [g] at hE2; rcases hE2 with h | h <;> cases h
        · rw [h, g]
        · exfalso
          rcases hc with ⟨u, hu, z, o, h3, h4⟩ | ⟨z, h3, h4⟩ | ⟨h3, z⟩
          · rcases gc with ⟨u2, hu2, z2, o2, g3, _⟩ | ⟨z2, g3, _⟩
            · obtain rfl := first_one z o z2 o2; omega
            · have := z2 u hu; omega
          · rcases gc with ⟨u2, hu2, z2, o2, g3, _⟩ | ⟨z2, g3, _⟩
            · have := z u2 hu2; omega
            · omega
          · rcases gc with ⟨u2, hu2, z2, o2, g3, _⟩ | ⟨z2, g3, _⟩
            · have := z u2 (by omega); omega
            · omega
      · rcases h2 with ⟨_, _, _, _, _, _, _, g, _⟩ | ⟨_, _, _, _, g, _⟩ | ⟨_, _, g, gc⟩ | ⟨_, _, g, _⟩
        · rw [g] at hE2; rcases hE2 with h | h <;> cases h
        · rw [g] at hE2; rcases hE2 with h | h <;> cases h
        · exfalso
          rcases gc with ⟨u, hu, z, o, h3, h4⟩ | ⟨z, h3, h4⟩ | ⟨h3, z⟩
          · rcases hc with ⟨u2, hu2, z2, o2, g3, _⟩ | ⟨z2, g3, _⟩
            · obtain rfl := first_one z o z2 o2; omega
            · have := z2 u hu; omega
          · rcases hc with ⟨u2, hu2, z2, o2, g3, _⟩ | ⟨z2, g3, _⟩
            · have := z u2 hu2; omega
            · omega
          · rcases hc with ⟨u2, hu2, z2, o2, g3, _⟩ | ⟨z2, g3, _⟩
            · have := z u2 (by omega); omega
            · omega
        · rw [h, g]

/-- There is always something that Get comes to. -/
theorem numRes_ex (l : List Nat) (t k wide : Nat) (ht : t ≤ 8 * l.length) : ∃ X E t', NumRes l t k wide X E t' := by
  have hz : ∃ u, u ≤ 24 ∧ t + u ≤ 8 * l.length ∧ (∀ i, i < u → nextN l (t + i) 1 = 0) ∧ (u = 24 ∨ t + u = 8 * l.length ∨ nextN l (t + u) 1 = 1) := by
    have go : ∀ n, n ≤ 24 → ∃ u, u ≤ n ∧ t + u ≤ 8 * l.length ∧ (∀ i, i < u → nextN l (t + i) 1 = 0) ∧ (u = n ∨ t + u = 8 * l.length ∨ nextN l (t + u) 1 = 1) := by
      intro n
      induction n with
      | zero => intro _; exact ⟨0, Nat.le_refl _, by omega, fun i hi => by omega, .inl rfl⟩
      | succ n ih =>
        intro hn
        obtain ⟨u, h1, h2, h3, h4⟩ := ih (by omega)
        rcases h4 with rfl | h4
        · by_cases he : t + u = 8 * l.length
          · exact ⟨u, by omega, h2, h3, .inr (.inl he)⟩
          · have hb := bit_lt l (t + u)
            by_cases h0 : nextN l (t + u) 1 = 0
            · refine ⟨u + 1, by omega, by omega, fun i hi => ?_, .inl rfl⟩
              by_cases e : i = u
              · subst e; exact h0
              · exact h3 i (by omega)
            · exact ⟨u, by omega, h2, h3, .inr (.inr (by omega))⟩
        · exact ⟨u, by omega, h2, h3, .inr h4⟩
    exact go 24 (Nat.le_refl _)
  obtain ⟨u, h1, h2, h3, h4⟩ := hz
  by_cases h24 : u = 24
  · subst h24
    by_cases hend : t + 24 + wide ≤ 8 * l.length
    · by_cases hf : nextN l (t + 24) wide / 2 ^ k < 24
      · exact ⟨_, _, _, .inr (.inr (.inr ⟨rfl, rfl, rfl, .inr ⟨h3, hend, hf⟩⟩))⟩
      · exact ⟨_, _, _, .inr (.inl ⟨h3, hend, by omega, rfl, rfl, rfl⟩)⟩
    · exact ⟨_, _, _, .inr (.inr (.inl ⟨rfl, rfl, rfl, .inr (.inl ⟨h3, h2, by omega⟩)⟩))⟩
  · rcases h4 with h4 | h4 | h4
    · exact absurd h4 h24
    · exact ⟨_, _, _, .inr (.inr (.inl ⟨rfl, rfl, rfl, .inr (.inr ⟨by omega, fun i hi => h3 i (by omega)⟩)⟩))⟩
    · by_cases he : t + u = 8 * l.length
      · exact ⟨_, _, _, .inr (.inr (.inl ⟨rfl, rfl, rfl, .inr (.inr ⟨by omega, fun i hi => h3 i (by omega)⟩)⟩))⟩
      · by_cases hend : t + u + 1 + k ≤ 8 * l.length
        · by_cases hf : u * 2 ^ k + nextN l (t + u + 1) k < 2 ^ wide
          · exact ⟨_, _, _, .inl ⟨u, by omega, h3, h4, hend, hf, rfl, rfl, rfl⟩⟩
          · exact ⟨_, _, _, .inr (.inr (.inr ⟨rfl, rfl, rfl, .inl ⟨u, by omega, h3, h4, hend, by omega⟩⟩))⟩
        · exact ⟨_, _, _, .inr (.inr (.inl ⟨rfl, rfl, rfl, .inl ⟨u, by omega, h3, h4, by omega, by omega⟩⟩))⟩

/-- What is read of a run is one. -/
theorem runRes_one {l : List Nat} {t r room : Nat} {X E X2 E2 : Int} {t' t2 r' r2 : Nat} (h : RunRes l t r room X E t' r') (h2 : RunRes l t r room X2 E2 t2 r2) : X = X2 ∧ E = E2 ∧ t' = t2 ∧ r' = r2 := by
  rcases runRes_ok h with ⟨rfl, n, rfl, hn, rfl, hle, rfl, hb⟩ | ⟨hE, rfl, rfl⟩
  · obtain ⟨rfl, rfl, rfl, rfl⟩ := runRes_form h2 hn hle hb
    exact ⟨rfl, rfl, rfl, rfl⟩
  · rcases runRes_ok h2 with ⟨rfl, n, rfl, hn, rfl, hle, rfl, hb⟩ | ⟨hE2, rfl, rfl⟩
    · obtain ⟨rfl, rfl, e3, e4⟩ := runRes_form h hn hle hb
      rcases hE with h | h <;> cases h
    · obtain ⟨rfl, _⟩ := runRes_err h (by rcases hE with h | h <;> rw [h] <;> decide)
      obtain ⟨rfl, _⟩ := runRes_err h2 (by rcases hE2 with h | h <;> rw [h] <;> decide)
      refine ⟨rfl, ?_, rfl, rfl⟩
      obtain ⟨i, ho, hS, hti, hc⟩ := h
      obtain ⟨j, go, gS, gti, gc⟩ := h2
      rcases hE with rfl | rfl
      · rcases hE2 with rfl | rfl
        · rfl
        · exfalso
          rcases hc with ⟨_, _, h, _⟩ | ⟨_, _, _, _, _, h, _⟩ | ⟨_, _, _, _, _, _, h, _⟩ | ⟨_, _, _, _, _, hc⟩ | ⟨_, _, _, _, _, h, _⟩
          · cases h
          · cases h
          · cases h
          · rcases gc with ⟨_, _, h, _⟩ | ⟨_, _, _, _, _, h, _⟩ | ⟨_, _, _, _, _, _, h, _⟩ | ⟨_, _, _, _, h, _⟩ | ⟨_, g1, _, _, _, _, g2, g3, g4⟩
            · cases h
            · cases h
            · cases h
            · cases h
            · rcases hc with hc | ⟨h1, h2, h3⟩
              · rcases Nat.lt_trichotomy i j with e | e | e
                · omega
                · omega
                · have := ho j e; omega
              · rcases Nat.lt_trichotomy i j with e | e | e
                · have := go i e; omega
                · subst e; omega
                · have := ho j e; omega
          · cases h
      · rcases hE2 with rfl | rfl
        · exfalso
          rcases gc with ⟨_, _, h, _⟩ | ⟨_, _, _, _, _, h, _⟩ | ⟨_, _, _, _, _, _, h, _⟩ | ⟨_, _, _, _, _, gc⟩ | ⟨_, _, _, _, _, h, _⟩
          · cases h
          · cases h
          · cases h
          · rcases hc with ⟨_, _, h, _⟩ | ⟨_, _, _, _, _, h, _⟩ | ⟨_, _, _, _, _, _, h, _⟩ | ⟨_, _, _, _, h, _⟩ | ⟨_, g1, _, _, _, _, g2, g3, g4⟩
            · cases h
            · cases h
            · cases h
            · cases h
            · rcases gc with gc | ⟨h1, h2, h3⟩
              · rcases Nat.lt_trichotomy i j with e | e | e
                · have := go i e; omega
                · omega
                · omega
              · rcases Nat.lt_trichotomy i j with e | e | e
                · have := go i e; omega
                · subst e; omega
                · have := ho j e; omega
          · cases h
        · rfl

/-- There is always something that Get of a run comes to. -/
theorem runRes_ex (l : List Nat) (t r room : Nat) (ht : t ≤ 8 * l.length) : ∃ X E t' r', RunRes l t r room X E t' r' := by
  have go : ∀ n, ∃ i, i ≤ n ∧ (∀ a, a < i → nextN l (t + a) 1 = 1) ∧ S r i ≤ room ∧ t + i ≤ 8 * l.length ∧ (i = n ∨ S r i = room ∨ t + i = 8 * l.length ∨ nextN l (t + i) 1 = 0 ∨ room < S r (i + 1)) := by
    intro n
    induction n with
    | zero => exact ⟨0, Nat.le_refl _, fun a ha => by omega, Nat.zero_le _, by omega, .inl rfl⟩
    | succ n ih =>
      obtain ⟨i, h1, h2, h3, h4, h5⟩ := ih
      rcases h5 with rfl | h5
      · by_cases e1 : S r i = room
        · exact ⟨i, by omega, h2, h3, h4, .inr (.inl e1)⟩
        · by_cases e2 : t + i = 8 * l.length
          · exact ⟨i, by omega, h2, h3, h4, .inr (.inr (.inl e2))⟩
          · have hb := bit_lt l (t + i)
            by_cases e3 : nextN l (t + i) 1 = 0
            · exact ⟨i, by omega, h2, h3, h4, .inr (.inr (.inr (.inl e3)))⟩
            · by_cases e4 : room < S r (i + 1)
              · exact ⟨i, by omega, h2, h3, h4, .inr (.inr (.inr (.inr e4)))⟩
              · refine ⟨i + 1, Nat.le_refl _, fun a ha => ?_, by omega, by omega, .inl rfl⟩
                by_cases e : a = i
                · subst e; omega
                · exact h2 a (by omega)
      · exact ⟨i, by omega, h2, h3, h4, .inr h5⟩
  obtain ⟨i, _, h2, h3, h4, h5⟩ := go (room + 1)
  by_cases e1 : S r i = room
  · exact ⟨_, _, _, _, i, h2, h3, h4, .inl ⟨e1, rfl, rfl, rfl, rfl⟩⟩
  · have e1' : S r i < room := by omega
    by_cases e2 : t + i = 8 * l.length
    · exact ⟨_, _, _, _, i, h2, h3, h4, .inr (.inr (.inr (.inl ⟨e1', rfl, rfl, rfl, rfl, .inl e2⟩)))⟩
    · have hb := bit_lt l (t + i)
      by_cases e3 : nextN l (t + i) 1 = 0
      · by_cases e5 : t + i + 1 + J (ri r i) ≤ 8 * l.length
        · by_cases e6 : S r i + nextN l (t + i + 1) (J (ri r i)) < room
          · exact ⟨_, _, _, _, i, h2, h3, h4, .inr (.inr (.inl ⟨e1', by omega, e3, e5, e6, rfl, rfl, rfl, rfl⟩))⟩
          · exact ⟨_, _, _, _, i, h2, h3, h4, .inr (.inr (.inr (.inr ⟨e1', by omega, rfl, rfl, rfl, rfl, e3, e5, by omega⟩)))⟩
        · exact ⟨_, _, _, _, i, h2, h3, h4, .inr (.inr (.inr (.inl ⟨e1', rfl, rfl, rfl, rfl, .inr ⟨by omega, e3, by omega⟩⟩)))⟩
      · have e3' : nextN l (t + i) 1 = 1 := by omega
        have e4 : room < S r (i + 1) := by
          rcases h5 with h5 | h5 | h5 | h5 | h5
          · have := S_ge r i; omega
          · exact absurd h5 e1
          · exact absurd h5 e2
          · exact absurd h5 e3
          · exact h5
        exact ⟨_, _, _, _, i, h2, h3, h4, .inr (.inl ⟨e1', by omega, e3', e4, rfl, rfl, rfl, rfl⟩)⟩
end Go.Proofs.YtiganmmacmhndaaGreatDoor
