import Derived.Test.YtoghkbajdljheaaY3
namespace Go.Proofs.Ytoghkbajdljheaa
open Go.RowKit

/-- What reads leaves of the World. -/
def St.read (s : St) (k : Nat) (l : List Nat) (B : Nat → Nat) (V : Nat → Value) (g : Nat → Nat) : St :=
  { s with B := B, V := V, g := g, l := upd s.l k l, t := upd s.t k 0, l2 := upd s.l2 k l, t2 := upd s.t2 k 0 }

theorem reads_ne {w : World} {ao : Option Addr} {l : List Nat} {g m : Nat} (h : Reads w ao l) (hm : l.length = m) (hg : w.heap.size ≤ g) : 0 < m → ∀ b off, ao = some ⟨b, off, none⟩ → b ≠ g := back_ne h hm hg

set_option maxHeartbeats 4000000 in
set_option maxRecDepth 1000000 in
theorem reads_any (W w : World) (A : Nat) (s : St) (m : Nat) (X : Nat → Rsc) (k : Nat) (kI : Int) (ao : Option Addr) (cap mm : Nat) (l : List Nat) (h : Stt W w A s m X) (hk : k < 2) (hkI : kI = (k : Int))
    (hr : ∀ w' s', Stt W w' A s' m X → Reads w' ao l) (hb : Byts l) (hm : l.length = mm) (hl : mm ≤ 10000000) :
    Calls Try.prog 12 #[.pointer (some ⟨A, 0, none⟩), .int .i64 kI, .slice ao mm cap] w fun e w' => e = .returned (.bool true) ∧ ∃ B V g, Stt W w' A (s.read k l B V g) m X := by
  have Hh := Hid.mk h
  have Hr := Hid.mk hr
  have Hm := Hid.mk hm
  have Hb := Hid.mk hb
  have hr0 := hr w s h
  have Hr0 := Hid.mk hr0
  have Hne := Hid.mk (reads_ne hr0 hm (Nat.le_refl w.heap.size))
  clear h hr hm hb hr0
  rcases two_of hk with rfl | rfl
  · obtain rfl : kI = 0 := hkI
    clear hk
    go_enter Try.func12, Try.ntmps12
    go_wp2_with fail
    refine (lent_any ao cap mm l _ Hr0.out Hm.out (by omega)).mono ?_
    rintro e w1 ⟨rfl, hc1, hk1⟩
    have HS1 := Hid.mk (Hh.out.push (r := obj w.heap.size _) hk1 hc1 (by simp [obj]))
    obtain ⟨x0, x1⟩ := HS1.out.cell 4 (by omega)
    generalize w.heap.size = C at *
    have HC1 := Hid.mk hc1
    clear hc1 hk1
    go_wp2_with fail
    go_cut [] (fun w2 => ∃ B g, Stt W w2 A { s with B := upd s.B 4 B, g := upd s.g 0 g, l := upd s.l 0 l, t := upd s.t 0 0 } (m + 1) (upd X m (obj C (.cells ((l ++ List.replicate 70 167).map byt).toArray 5 (0, 0)))))
    case first =>
      go_region_with (go_at_call 26; refine (newReader_any _ _ mm l _ ?_ Hb.out Hm.out (by omega)).mono ?_; exact row_front HC1.out; rintro e w2 ⟨B, g, rfl, hB, hg, hR, hk2⟩; have y0 := ((HS1.out.keep hk2.undrew).cell 4 (by omega)).1; have y1 := ((HS1.out.keep hk2.undrew).cell 4 (by omega)).2)
      all_goals go_wp2
      all_goals go_meet
      all_goals exact ⟨B, g, HS1.out.newR 0 (by omega) hk2.undrew hR hB hg⟩
    case rest =>
      obtain ⟨B, g, hS2⟩ := hcut
      have HS2 := Hid.mk hS2
      obtain ⟨x0, x1⟩ := hS2.cell 6 (by omega)
      clear hS2 HS1 HC1
      have Hrd2 := Hid.mk (Hr.out _ _ (HS2.out.pop.congrX (fun i hi => (upd_far X m i _ (by omega)).symm)))
      go_wp2_with fail
      go_cut [] (fun w3 => ∃ Y V, Stt W w3 A { s with B := upd (upd s.B 4 B) 6 Y, V := upd s.V 6 V, g := upd s.g 0 g, l := upd s.l 0 l, t := upd s.t 0 0, l2 := upd s.l2 0 l, t2 := upd s.t2 0 0 } (m + 1) (upd X m (obj C (.cells ((l ++ List.replicate 70 167).map byt).toArray 5 (0, 0)))))
      case first =>
        go_region_with (go_at_call 31; refine (refNewReader_any _ _ mm l _ ?_ Hb.out Hm.out (by omega)).mono ?_; exact Hrd2.out; rintro e w3 ⟨rfl, V, hY, hL, hk3⟩; have y0 := ((HS2.out.keep hk3.undrew).cell 6 (by omega)).1; have y1 := ((HS2.out.keep hk3.undrew).cell 6 (by omega)).2)
        all_goals go_wp2
        all_goals go_meet
        all_goals exact ⟨_, V, HS2.out.newY 0 (by omega) hk3.undrew hY (Nat.le_refl _) hL⟩
      case rest =>
        obtain ⟨Y, V, hS3⟩ := hcut
        have HS3 := Hid.mk hS3
        have Hrd3 := Hid.mk (Hr.out _ _ (HS3.out.pop.congrX (fun i hi => (upd_far X m i _ (by omega)).symm)))
        have hc3 := hS3.ex m (by omega)
        rw [upd_at] at hc3
        have HC3 := Hid.mk hc3
        clear hS3 hc3 HS2 Hrd2 x0 x1
        go_wp2_with fail
        refine (back_call C ao cap mm l _ Hrd3.out Hb.out Hm.out (by omega) HC3.out Hne.out).mono ?_
        rintro e w4 ⟨rfl, hc4, hk4⟩
        have HS4 := Hid.mk (HS3.out.setE m (by omega) (r := obj C _) hk4 (by simp [upd, obj]) hc4 (by simp [upd, obj]))
        rw [List.map_append] at hc4
        have HC4 := Hid.mk hc4
        clear hc4 hk4 HS3 HC3 Hrd3
        go_wp2_with fail
        refine (reread_any _ _ mm (l.map (· ^^^ 90)) _ (row_front HC4.out) (xor_byts l Hb.out) (by rw [List.length_map]; exact Hm.out) (by omega)).mono ?_
        rintro e w5 ⟨rfl, hk5⟩
        have HS5 := Hid.mk (HS4.out.keep hk5)
        obtain ⟨x0, _⟩ := HS5.out.cell 4 (by omega)
        clear hk5 HS4 HC4
        go_wp2
        go_ret
        refine ⟨rfl, _, _, _, (HS5.out.pop.congrX (X' := X) (fun i hi => ?_))⟩
        rw [upd_far _ _ _ _ (by omega), upd_far _ _ _ _ (by omega)]
  · obtain rfl : kI = 1 := hkI
    clear hk
    go_enter Try.func12, Try.ntmps12
    go_wp2_with fail
    refine (lent_any ao cap mm l _ Hr0.out Hm.out (by omega)).mono ?_
    rintro e w1 ⟨rfl, hc1, hk1⟩
    have HS1 := Hid.mk (Hh.out.push (r := obj w.heap.size _) hk1 hc1 (by simp [obj]))
    obtain ⟨x0, x1⟩ := HS1.out.cell 5 (by omega)
    generalize w.heap.size = C at *
    have HC1 := Hid.mk hc1
    clear hc1 hk1
    go_wp2_with fail
    go_cut [] (fun w2 => ∃ B g, Stt W w2 A { s with B := upd s.B 5 B, g := upd s.g 1 g, l := upd s.l 1 l, t := upd s.t 1 0 } (m + 1) (upd X m (obj C (.cells ((l ++ List.replicate 70 167).map byt).toArray 5 (0, 0)))))
    case first =>
      go_region_with (go_at_call 26; refine (newReader_any _ _ mm l _ ?_ Hb.out Hm.out (by omega)).mono ?_; exact row_front HC1.out; rintro e w2 ⟨B, g, rfl, hB, hg, hR, hk2⟩; have y0 := ((HS1.out.keep hk2.undrew).cell 5 (by omega)).1; have y1 := ((HS1.out.keep hk2.undrew).cell 5 (by omega)).2)
      all_goals go_wp2
      all_goals go_meet
      all_goals exact ⟨B, g, HS1.out.newR 1 (by omega) hk2.undrew hR hB hg⟩
    case rest =>
      obtain ⟨B, g, hS2⟩ := hcut
      have HS2 := Hid.mk hS2
      obtain ⟨x0, x1⟩ := hS2.cell 7 (by omega)
      clear hS2 HS1 HC1
      have Hrd2 := Hid.mk (Hr.out _ _ (HS2.out.pop.congrX (fun i hi => (upd_far X m i _ (by omega)).symm)))
      go_wp2_with fail
      go_cut [] (fun w3 => ∃ Y V, Stt W w3 A { s with B := upd (upd s.B 5 B) 7 Y, V := upd s.V 7 V, g := upd s.g 1 g, l := upd s.l 1 l, t := upd s.t 1 0, l2 := upd s.l2 1 l, t2 := upd s.t2 1 0 } (m + 1) (upd X m (obj C (.cells ((l ++ List.replicate 70 167).map byt).toArray 5 (0, 0)))))
      case first =>
        go_region_with (go_at_call 31; refine (refNewReader_any _ _ mm l _ ?_ Hb.out Hm.out (by omega)).mono ?_; exact Hrd2.out; rintro e w3 ⟨rfl, V, hY, hL, hk3⟩; have y0 := ((HS2.out.keep hk3.undrew).cell 7 (by omega)).1; have y1 := ((HS2.out.keep hk3.undrew).cell 7 (by omega)).2)
        all_goals go_wp2
        all_goals go_meet
        all_goals exact ⟨_, V, HS2.out.newY 1 (by omega) hk3.undrew hY (Nat.le_refl _) hL⟩
      case rest =>
        obtain ⟨Y, V, hS3⟩ := hcut
        have HS3 := Hid.mk hS3
        have Hrd3 := Hid.mk (Hr.out _ _ (HS3.out.pop.congrX (fun i hi => (upd_far X m i _ (by omega)).symm)))
        have hc3 := hS3.ex m (by omega)
        rw [upd_at] at hc3
        have HC3 := Hid.mk hc3
        clear hS3 hc3 HS2 Hrd2 x0 x1
        go_wp2_with fail
        refine (back_call C ao cap mm l _ Hrd3.out Hb.out Hm.out (by omega) HC3.out Hne.out).mono ?_
        rintro e w4 ⟨rfl, hc4, hk4⟩
        have HS4 := Hid.mk (HS3.out.setE m (by omega) (r := obj C _) hk4 (by simp [upd, obj]) hc4 (by simp [upd, obj]))
        rw [List.map_append] at hc4
        have HC4 := Hid.mk hc4
        clear hc4 hk4 HS3 HC3 Hrd3
        go_wp2_with fail
        refine (reread_any _ _ mm (l.map (· ^^^ 90)) _ (row_front HC4.out) (xor_byts l Hb.out) (by rw [List.length_map]; exact Hm.out) (by omega)).mono ?_
        rintro e w5 ⟨rfl, hk5⟩
        have HS5 := Hid.mk (HS4.out.keep hk5)
        obtain ⟨x0, _⟩ := HS5.out.cell 5 (by omega)
        clear hk5 HS4 HC4
        go_wp2
        go_ret
        refine ⟨rfl, _, _, _, (HS5.out.pop.congrX (X' := X) (fun i hi => ?_))⟩
        rw [upd_far _ _ _ _ (by omega), upd_far _ _ _ _ (by omega)]
end Go.Proofs.Ytoghkbajdljheaa
