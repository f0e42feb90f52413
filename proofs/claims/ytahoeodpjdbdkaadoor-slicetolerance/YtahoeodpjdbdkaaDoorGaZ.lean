import Derived.Test.YtahoeodpjdbdkaaDoorG8Z
namespace Go.Proofs.YtahoeodpjdbdkaaDoor
open Go.RowKit

theorem bit_res (l : List Nat) (t : Nat) : (t < 8 * l.length ∧ nextN l t 1 = 0) ∨ (t < 8 * l.length ∧ nextN l t 1 = 1) ∨ 8 * l.length ≤ t := by
  have := bit_lt l t
  omega

/-- The state within Get of a run, behind i stretches. -/
structure GetS (w wr : World) (X B g : Nat) (l : List Nat) (t r room i : Nat) : Prop where
  coder : CoderAt wr X (ri r i)
  reader : ReaderAt wr B g l (t + i)
  tab : Tab wr
  keep : Kept [X, B] w wr
  sum : S r i ≤ room
  ones : ∀ a, a < i → nextN l (t + a) 1 = 1

/-- What run comes to. -/
def RunPost (w : World) (X B g : Nat) (l : List Nat) (t r room : Nat) (e : Ending) (w' : World) : Prop :=
  ∃ (Y E : Int) (t' r' : Nat) (Y2 : Int) (t2 r2 : Nat), e = .returned (.tuple #[.int .i64 Y, .int .i64 E]) ∧ ReaderAt w' B g l t' ∧ CoderAt w' X r' ∧ Kept [X, B] w w' ∧
      RunRes l t r room Y2 E t2 r2 ∧ (E = 0 → Y2 = Y ∧ t2 = t' ∧ r2 = r')

set_option maxHeartbeats 2000000 in
set_option maxRecDepth 1000000 in
theorem run_any (X B g : Nat) (l : List Nat) (t r : Nat) (room : Int) (w : World) (hx : CoderAt w X r) (hw : ReaderAt w B g l t) (hT : Tab w) (hX : X ≠ 0) (hB : B ≠ 0) (h0 : 1 ≤ room) (h1 : room ≤ 4096) :
    Calls Tryd.prog 81 #[.pointer (some ⟨X, 0, none⟩), .pointer (some ⟨B, 0, none⟩), .int .i64 room] w fun e w' => RunPost w X B g l t r room.toNat e w' := by
  have hr := hx.2
  have hXB : X ≠ B := by
    rintro rfl
    have h1 := hw.1
    rw [hx.1] at h1
    simp at h1
  have hXg : X ≠ g := by
    rintro rfl
    have h1 := hw.2.1
    rw [hx.1] at h1
    simp at h1
  have HS : Hid (GetS w w X B g l t r room.toNat 0) := ⟨by rw [show ri r 0 = r by unfold ri; omega]; exact hx, hw, hT, Kept.refl _ _, Nat.zero_le _, fun a ha => by omega⟩
  clear hx hw hT
  go_enter Tryd.func81, Tryd.ntmps81
  go_wp2_with fail
  go_loopw [8] (fun lf wr => ∃ i : Nat, lf = .int .i64 (room - (S r i : Int)) ∧ GetS w wr X B g l t r room.toNat i) (fun lf _ => (intOf lf).toNat)
  case atStart => exact ⟨0, by simp [S], HS.out⟩
  case round =>
    obtain ⟨i, rfl, hS⟩ := hrel
    obtain ⟨s, hs⟩ : ∃ s : Int, s = ((2 ^ J (ri r i) : Nat) : Int) := ⟨_, rfl⟩
    have Hs := Hid.mk hs
    have s0 : 1 ≤ s := by have := Nat.two_pow_pos (J (ri r i)); omega
    have s1 : s ≤ 4096 := by have := stretch_le (ri r i); omega
    have hge := S_ge r i
    have hsum := hS.sum
    have hti := hS.reader.2.2.2.1
    have HSi := Hid.mk hS
    clear hS hs
    by_cases hlt : 0 < room - (S r i : Int)
    · obtain ⟨Y, E, t', hg⟩ := getRes_ex l (t + i) 1
      have HG := Hid.mk (fun w hw => get_res B g l (t + i) 1 Y E t' w hw (by omega) (by omega) hg)
      rcases hg with ⟨h2, rfl, rfl, rfl⟩ | ⟨h2, rfl, rfl, rfl⟩
      · rcases Nat.lt_or_ge (nextN l (t + i) 1) 1 with hb | hb
        · have hb0 : nextN l (t + i) 1 = 0 := by omega
          rw [hb0] at HG
          go_wp2_with (go_at_call 35; refine (HG.out _ HSi.out.reader).mono ?_; rintro e w1 ⟨rfl, hr1, hk1⟩)
          refine (short_any X B g l (t + i + 1) (ri r i) (room - (S r i : Int)) _ (HSi.out.coder.kept hk1 (by simpa using hXB)) hr1 (HSi.out.tab.kept hk1 (by simpa using hB.symm))).mono ?_
          rintro e w2 ⟨Y, E, t', r', rfl, hr2, hc2, hk2, hres⟩
          have hK : Kept [X, B] w w2 := (HSi.out.keep.step hk1 (by simp)).trans hk2
          have HR2 := Hid.mk hr2
          have HC2 := Hid.mk hc2
          have HK := Hid.mk hK
          clear hr1 hk1 hr2 hc2 hk2 hK
          have hY : 0 ≤ Y ∧ Y ≤ 4096 := by
            rcases hres with ⟨_, h, rfl, _⟩ | ⟨_, _, rfl, _⟩ | ⟨_, rfl, _⟩ <;> omega
          obtain ⟨y0, y1⟩ := hY
          have Hres := Hid.mk hres
          clear hres
          go_wp2_with fail
          go_ret2
          rcases Hres.out with ⟨h3, h4, rfl, rfl, rfl, rfl⟩ | ⟨h3, h4, rfl, rfl⟩ | ⟨h3, rfl, rfl⟩
          · refine ⟨_, _, _, _, _, _, _, rfl, HR2.out, HC2.out, HK.out, ⟨i, HSi.out.ones, HSi.out.sum, by omega, .inr (.inr (.inl ⟨by omega, by omega, hb0, by omega, by omega, rfl, rfl, rfl, rfl⟩))⟩, fun _ => ⟨by omega, rfl, rfl⟩⟩
          · exact ⟨_, _, _, _, _, _, _, rfl, HR2.out, HC2.out, HK.out, ⟨i, HSi.out.ones, HSi.out.sum, by omega, .inr (.inr (.inr (.inr ⟨by omega, by omega, rfl, rfl, rfl, rfl, hb0, by omega, by omega⟩)))⟩, fun h => by cases h⟩
          · exact ⟨_, _, _, _, _, _, _, rfl, HR2.out, HC2.out, HK.out, ⟨i, HSi.out.ones, HSi.out.sum, by omega, .inr (.inr (.inr (.inl ⟨by omega, rfl, rfl, rfl, rfl, .inr ⟨by omega, hb0, by omega⟩⟩)))⟩, fun h => by cases h⟩
        · have hb1 : nextN l (t + i) 1 = 1 := by have := bit_lt l (t + i); omega
          rw [hb1] at HG
          by_cases hst : room - (S r i : Int) < s
          · go_wp2_with (first
              | (go_at_call 35; refine (HG.out _ HSi.out.reader).mono ?_; rintro e w1 ⟨rfl, hr1, hk1⟩; have HR1 := Hid.mk hr1; have HK1 := Hid.mk hk1; clear hr1 hk1)
              | (go_at_call 85; refine (stretch_any X (ri r i) s _ (HSi.out.coder.kept HK1.out (by simpa using hXB)) (HSi.out.tab.kept HK1.out (by simpa using hB.symm)) Hs.out).mono ?_; rintro e w2 ⟨rfl, rfl⟩))
            go_ret2
            refine ⟨_, _, _, _, _, _, _, rfl, HR1.out, HSi.out.coder.kept HK1.out (by simpa using hXB), HSi.out.keep.step HK1.out (by simp), ⟨i, HSi.out.ones, HSi.out.sum, by omega, .inr (.inl ⟨by omega, by omega, hb1, ?_, by omega, rfl, rfl, rfl⟩)⟩, fun _ => ⟨rfl, rfl, rfl⟩⟩
            have := Hs.out
            rw [S_succ]; omega
          · go_wp2_with (first
              | (go_at_call 35; refine (HG.out _ HSi.out.reader).mono ?_; rintro e w1 ⟨rfl, hr1, hk1⟩; have HR1 := Hid.mk hr1; have HK1 := Hid.mk hk1; clear hr1 hk1)
              | (go_at_call 85; refine (stretch_any X (ri r i) s _ (HSi.out.coder.kept HK1.out (by simpa using hXB)) (HSi.out.tab.kept HK1.out (by simpa using hB.symm)) Hs.out).mono ?_; rintro e w2 ⟨rfl, rfl⟩)
              | (go_at_call 86; refine (rise_any X (ri r i) _ (HSi.out.coder.kept HK1.out (by simpa using hXB))).mono ?_; rintro e w3 ⟨rfl, hc3, hk3⟩; have HC3 := Hid.mk hc3; have HK3 := Hid.mk hk3; clear hc3 hk3))
            go_roundw
            case rel =>
              refine ⟨i + 1, ?_, ?_⟩
              · have := Hs.out
                rw [S_succ]
                congr 1
                omega
              · refine ⟨?_, ?_, (HSi.out.tab.kept HK1.out (by simpa using hB.symm)).kept HK3.out (by simpa using hX.symm), (HSi.out.keep.step HK1.out (by simp)).step HK3.out (by simp), ?_, ?_⟩
                · have h := HC3.out
                  rw [show min (ri r i + 1) 22 = ri r (i + 1) by unfold ri; omega] at h
                  exact h
                · exact reader_kept HR1.out HK3.out (by simpa using hXB.symm) (by simpa using hXg.symm)
                · have := Hs.out; rw [S_succ]; omega
                · intro a ha
                  by_cases e : a = i
                  · subst e; exact hb1
                  · exact HSi.out.ones a (by omega)
            case measure => simp [intOf]; omega
      · go_wp2_with (go_at_call 35; refine (HG.out _ HSi.out.reader).mono ?_; rintro e w1 ⟨rfl, hr1, hk1⟩)
        go_ret2
        exact ⟨_, _, _, _, _, _, _, rfl, hr1, HSi.out.coder.kept hk1 (by simpa using hXB), HSi.out.keep.step hk1 (by simp), ⟨i, HSi.out.ones, HSi.out.sum, by omega, .inr (.inr (.inr (.inl ⟨by omega, rfl, rfl, rfl, rfl, .inl (by omega)⟩)))⟩, fun h => by cases h⟩
    · go_wp2_with fail
      go_ret2
      exact ⟨_, _, _, _, _, _, _, rfl, HSi.out.reader, HSi.out.coder, HSi.out.keep, ⟨i, HSi.out.ones, HSi.out.sum, by omega, .inl ⟨by omega, by omega, rfl, rfl, rfl⟩⟩, fun _ => ⟨rfl, rfl, rfl⟩⟩
end Go.Proofs.YtahoeodpjdbdkaaDoor

namespace Go.Proofs.YtahoeodpjdbdkaaDoor
open Go.RowKit

theorem runRes_err {l : List Nat} {t r room : Nat} {X E : Int} {t' r' : Nat} (h : RunRes l t r room X E t' r') (hE : E ≠ 0) : X = 0 ∧ t' = t ∧ r' = r := by
  obtain ⟨i, _, _, _, hc⟩ := h
  rcases hc with ⟨_, _, h, _⟩ | ⟨_, _, _, _, _, h, _⟩ | ⟨_, _, _, _, _, _, h, _⟩ | ⟨_, h1, h2, h3, _⟩ | ⟨_, _, h1, h2, h3, _⟩
  · exact absurd h hE
  · exact absurd h hE
  · exact absurd h hE
  · exact ⟨h1, h2, h3⟩
  · exact ⟨h1, h2, h3⟩

theorem two_new (w : World) (a b : Array Value) (s t : TypeId) : ((w.alloc (.cells a s)).alloc (.cells b t)).drew.heap[w.heap.size]? = some (.cells a s (0, 0)) ∧ ((w.alloc (.cells a s)).alloc (.cells b t)).drew.heap[w.heap.size + 1]? = some (.cells b t (0, 0)) := by
  refine ⟨?_, ?_⟩
  · show ((w.alloc (.cells a s)).alloc (.cells b t)).heap[w.heap.size]? = _
    rw [Below.heap_alloc _ _ _ (by simp), heap_alloc_new]
  · show ((w.alloc (.cells a s)).alloc (.cells b t)).heap[w.heap.size + 1]? = _
    have h := heap_alloc_new (w.alloc (.cells a s)) (.cells b t)
    simpa using h

/-- What Get of a run comes to. -/
def RGetPost (w : World) (X B g : Nat) (l : List Nat) (t r room : Nat) (e : Ending) (w' : World) : Prop :=
  ∃ (Y E : Int) (t' r' : Nat), e = .returned (.tuple #[.int .i64 Y, .int .i64 E]) ∧ ReaderAt w' B g l t' ∧ CoderAt w' X r' ∧ Kept [X, B] w w' ∧ RunRes l t r room Y E t' r'

set_option maxHeartbeats 2000000 in
set_option maxRecDepth 1000000 in
theorem rget_any (X B g : Nat) (l : List Nat) (t r : Nat) (room : Int) (w : World) (hx : CoderAt w X r) (hw : ReaderAt w B g l t) (hT : Tab w) (hB : B ≠ 0) (h0 : 1 ≤ room) (h1 : room ≤ 4096) :
    Calls Tryd.prog 55 #[.pointer (some ⟨X, 0, none⟩), .pointer (some ⟨B, 0, none⟩), .int .i64 room] w fun e w' => RGetPost w X B g l t r room.toNat e w' := by
  obtain ⟨c0, c1, fz⟩ := cells_two hw.1
  have f0 := fz 0
  have f1 := fz 1
  obtain ⟨x0, xf⟩ := cells_one hx.1
  have HW := Hid.mk hw
  have HX := Hid.mk hx
  have HT := Hid.mk hT
  have hBl := lt_of_block hw.1
  have hXl := lt_of_block hx.1
  clear hw fz hx hT
  go_enter Tryd.func55, Tryd.ntmps55
  go_wp2_with (go_at_call 80; refine (roomy_ok room _ h0 h1).mono ?_; rintro e w' ⟨rfl, rfl⟩)
  go_cut [8, 9] (fun s8 s9 wc => ∃ A C : Nat, s8 = .pointer (some ⟨A, 0, none⟩) ∧ s9 = .pointer (some ⟨C, 0, none⟩) ∧ wc.heap[A]? = some (.cells #[.slice (some ⟨g, 0, none⟩) l.length l.length, .int .i64 (t : Int)] 90 (0, 0)) ∧ wc.heap[C]? = some (.cells #[.int .i64 (r : Int)] 92 (0, 0)) ∧ Kept [] w' wc ∧ w'.heap.size ≤ A ∧ w'.heap.size ≤ C ∧ A ≠ C)
  case first =>
    go_region_with fail
    all_goals go_wp2
    all_goals go_meet
    all_goals first
      | exact ⟨w'.heap.size, w'.heap.size + 1, rfl, rfl, (two_new w' _ _ _ _).1, (two_new w' _ _ _ _).2, (((Kept.refl _ _).alloc _).alloc _).drew, by omega, by omega, by omega⟩
      | exact ⟨w'.heap.size + 1, w'.heap.size, rfl, rfl, (two_new w' _ _ _ _).2, (two_new w' _ _ _ _).1, (((Kept.refl _ _).alloc _).alloc _).drew, by omega, by omega, by omega⟩
  case rest =>
    obtain ⟨A, C, rfl, rfl, hA, hC, hK, hAs, hCs, hAC⟩ := hcut
    have hp := HT.out.pos
    have hRA : ReaderAt wc A g l t := ⟨hA, hK.heap HW.out.2.1 (by simp), HW.out.2.2⟩
    have hCC : CoderAt wc C r := ⟨hC, HX.out.2⟩
    have HRA := Hid.mk hRA
    have HCC := Hid.mk hCC
    have HK := Hid.mk hK
    clear hA hC hK hRA hCC c0 c1 f0 f1 x0 xf
    go_wp2_with fail
    refine (run_any C A g l t r room _ HCC.out HRA.out (HT.out.kept HK.out (by simp)) (by omega) (by omega) h0 h1).mono ?_
    rintro e w2 ⟨Y, E, t', r', Y2, t2, r2, rfl, hr2, hc2, hk2, hres, hE⟩
    have hK2 : Kept [] w' w2 := HK.out.step hk2 (by simp; omega)
    have hB2 := hK2.heap HW.out.1 (by simp)
    have hX2 := hK2.heap HX.out.1 (by simp)
    obtain ⟨a0, a1, _⟩ := cells_two hr2.1
    obtain ⟨b0, _⟩ := cells_one hc2.1
    obtain ⟨d0, d1, fz⟩ := cells_two hB2
    obtain ⟨e0, ef⟩ := cells_one hX2
    have g0 := fz 0
    have g1 := fz 1
    have hXB : X ≠ B := by
      rintro rfl
      rw [hX2] at hB2
      simp at hB2
    have hXg : X ≠ g := by
      rintro rfl
      have h1 := HW.out.2.1
      rw [HX.out.1] at h1
      simp at h1
    have hBg : B ≠ g := by
      rintro rfl
      have h1 := HW.out.2.1
      rw [HW.out.1] at h1
      simp at h1
    have hBX := hXB.symm
    have HR2 := Hid.mk hr2
    have HC2 := Hid.mk hc2
    have HK2 := Hid.mk hK2
    have HB2 := Hid.mk hB2
    have HX2 := Hid.mk hX2
    have HE := Hid.mk hE
    have Hres := Hid.mk hres
    have n1 : A ≠ B := by omega
    have n2 : C ≠ B := by omega
    have n3 : A ≠ X := by omega
    have n4 : C ≠ X := by omega
    clear hr2 hc2 hk2 hK2 hB2 hX2 fz hE hres
    by_cases hE0 : E = 0
    · subst hE0
      go_wp2_with fail
      go_ret2
      obtain ⟨rfl, rfl, rfl⟩ := HE.out (by simp)
      refine ⟨_, _, _, _, rfl, ⟨?_, ?_, HR2.out.2.2⟩, ⟨?_, HC2.out.2⟩, (((HK2.out.mono (l2 := [X, B]) (by simp)).setCell (by simp) _).setCell (by simp) _).setCell (by simp) _, Hres.out⟩
      · rw [Below.heap_setCell _ _ _ _ hBX, heap_setCell_at (heap_setCell_at HB2.out)]; simp
      · rw [Below.heap_setCell _ _ _ _ hXg.symm, Below.heap_setCell _ _ _ _ hBg.symm, Below.heap_setCell _ _ _ _ hBg.symm]
        exact HR2.out.2.1
      · rw [heap_setCell_at (by rw [Below.heap_setCell _ _ _ _ hXB, Below.heap_setCell _ _ _ _ hXB]; exact HX2.out)]; simp
    · go_wp2_with fail
      go_ret2
      obtain ⟨rfl, rfl, rfl⟩ := runRes_err Hres.out hE0
      exact ⟨_, _, _, _, rfl, reader_kept HW.out HK2.out (by simp) (by simp), HX.out.kept HK2.out (by simp), HK2.out.mono (by simp), Hres.out⟩
end Go.Proofs.YtahoeodpjdbdkaaDoor
