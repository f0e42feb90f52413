import Derived.Test.YthhegomjipbdbaaGreatDoorG1Z
namespace Go.Proofs.YthhegomjipbdbaaGreatDoor
open Go.RowKit

/-- Bits and i ones behind them. -/
def ones (N i : Nat) : Nat := N * 2 ^ i + (2 ^ i - 1)
theorem ones_succ (N i : Nat) : ones N i * 2 + 1 = ones N (i + 1) := by
  unfold ones
  have := Nat.two_pow_pos i
  rw [Nat.pow_succ, ← Nat.mul_assoc]
  omega

theorem ones_mul (N i j low : Nat) : (ones N i * 2 + 0) * 2 ^ j + low = N * 2 ^ (i + 1 + j) + ((2 ^ i - 1) * 2 ^ (1 + j) + low) := by
  unfold ones
  rw [Nat.add_zero, Nat.mul_assoc, show (2 : Nat) * 2 ^ j = 2 ^ (1 + j) by rw [Nat.pow_add, Nat.pow_one], Nat.add_mul, Nat.mul_assoc, ← Nat.pow_add, Nat.add_assoc i 1 j, Nat.add_assoc]

/-- The state within Put of a run, behind i stretches. -/
structure PutS (w wr : World) (X B : Nat) (V V1 : Value) (N len r i : Nat) : Prop where
  coder : CoderAt wr X (ri r i)
  writer : WriterAt wr B V1 (ones N i) (len + i)
  tab : Tab wr
  keep : Kept (X :: B :: V.ownBlock.toList) w wr
  lies : Lies w V V1

theorem PutS.ne {w wr : World} {X B : Nat} {V V1 : Value} {N len r i : Nat} (h : PutS w wr X B V V1 N len r i) : X ≠ B ∧ V1.ownBlock ≠ some X ∧ V1.ownBlock ≠ some B := by
  refine ⟨?_, own_ne h.coder.1 (by decide) h.writer.2, own_ne h.writer.1 (by decide) h.writer.2⟩
  rintro rfl
  have h1 := h.coder.1
  rw [h.writer.1] at h1
  simp at h1

theorem keep_cons {w w1 w2 : World} {X B : Nat} {V V1 : Value} (k1 : Kept (X :: B :: V.ownBlock.toList) w w1) (l1 : Lies w V V1) (k2 : Kept (B :: V1.ownBlock.toList) w1 w2) : Kept (X :: B :: V.ownBlock.toList) w w2 := by
  refine k1.step k2 ?_
  intro x hx
  rcases List.mem_cons.1 hx with h | h
  · left; simp [h]
  · rcases l1.mem x h with h | h
    · left; simp only [List.mem_cons]; exact .inr (.inr h)
    · right; exact h

theorem no_zero {w : World} {B : Nat} {V V1 : Value} (hT : Tab w) (hB : B ≠ 0) (hV : V.ownBlock ≠ some 0) (l1 : Lies w V V1) : 0 ∉ B :: V1.ownBlock.toList := by
  intro h
  rcases List.mem_cons.1 h with h | h
  · exact hB h.symm
  · rcases l1.mem 0 h with h | h
    · exact hV (by simpa using h)
    · have := hT.pos; omega

/-- What a Put of bits leaves of the state. -/
theorem PutS.put {w wr w' : World} {X B : Nat} {V V1 V2 : Value} {N len r i N2 l2 : Nat} (h : PutS w wr X B V V1 N len r i) (hT : Tab w) (hB : B ≠ 0) (hV : V.ownBlock ≠ some 0) (hw : WriterAt w' B V2 N2 l2) (hk : Kept (B :: V1.ownBlock.toList) wr w') (hl : Lies wr V1 V2) :
    CoderAt w' X (ri r i) ∧ Tab w' ∧ Kept (X :: B :: V.ownBlock.toList) w w' ∧ Lies w V V2 ∧ X ≠ B ∧ V2.ownBlock ≠ some X := by
  obtain ⟨n1, n2, n3⟩ := h.ne
  have hc : CoderAt w' X (ri r i) := h.coder.kept hk (by simp; exact ⟨n1, n2⟩)
  exact ⟨hc, h.tab.kept hk (no_zero hT hB hV h.lies), keep_cons h.keep h.lies hk, h.lies.trans hl h.keep.size, n1, own_ne hc.1 (by decide) hw.2⟩

set_option maxHeartbeats 2000000 in
set_option maxRecDepth 1000000 in
theorem rput_any (X B : Nat) (V : Value) (N len r : Nat) (n room : Int) (w : World) (hx : CoderAt w X r) (hw : WriterAt w B V N len) (hT : Tab w) (hX : X ≠ 0) (hB : B ≠ 0) (hV : V.ownBlock ≠ some 0)
    (r0 : 1 ≤ room) (r1 : room ≤ 4096) (n0 : 0 ≤ n) (n1 : n ≤ room) (hl : len / 8 + 2000 ≤ 140737488355328) :
    Calls Tryz.prog 150 #[.pointer (some ⟨X, 0, none⟩), .pointer (some ⟨B, 0, none⟩), .int .i64 n, .int .i64 room] w fun e w' => e = .returned (.int .i64 0) ∧
      ∃ V', CoderAt w' X (rr r n.toNat room.toNat) ∧ WriterAt w' B V' (N * 2 ^ rw_ r n.toNat room.toNat + rf r n.toNat room.toNat) (len + rw_ r n.toNat room.toNat) ∧ Kept (X :: B :: V.ownBlock.toList) w w' ∧ Lies w V V' := by
  have hr := hx.2
  have ht : decide (n < 0) = false := by simp; omega
  have ht2 : decide (room < n) = false := by simp; omega
  have HS : Hid (PutS w w X B V V N len r 0) := ⟨by rw [show ri r 0 = r by unfold ri; omega]; exact hx, by simpa [ones] using hw, hT, Kept.refl _ _, Lies.refl _ _⟩
  have HT := Hid.mk hT
  clear hx hw hT
  go_enter Tryz.func150, Tryz.ntmps150
  go_wp2_with (go_at_call 172; refine (roomy_ok room _ r0 r1).mono ?_; rintro e w' ⟨rfl, rfl⟩)
  go_loopw [9] (fun lf wr => ∃ (i : Nat) (V1 : Value), S r i ≤ n.toNat ∧ lf = .int .i64 (n - (S r i : Int)) ∧ PutS w' wr X B V V1 N len r i) (fun lf _ => (intOf lf).toNat)
  case atStart => exact ⟨0, V, Nat.zero_le _, by simp [S], HS.out⟩
  case round =>
    obtain ⟨i, V1, hi, rfl, hS⟩ := hrel
    obtain ⟨s, hs⟩ : ∃ s : Int, s = ((2 ^ J (ri r i) : Nat) : Int) := ⟨_, rfl⟩
    have Hs := Hid.mk hs
    have s0 : 1 ≤ s := by have := Nat.two_pow_pos (J (ri r i)); omega
    have s1 : s ≤ 4096 := by have := stretch_le (ri r i); omega
    have hge := S_ge r i
    have HSi := Hid.mk hS
    clear hS hs
    by_cases hlt : s ≤ n - (S r i : Int)
    · go_wp2_with (go_at_call 173; refine (stretch_any X (ri r i) s _ HSi.out.coder HSi.out.tab Hs.out).mono ?_; rintro e w1 ⟨rfl, rfl⟩)
      refine (put_any B V1 _ _ 1 1 _ HSi.out.writer (by omega) (by omega) (by omega) (by decide) (by omega)).mono ?_
      rintro e w2 ⟨rfl, V2, hw2, hk2, hl2⟩
      obtain ⟨hc2, ht2, hk3, hl3, hne, hne2⟩ := HSi.out.put HT.out hB hV hw2 hk2 hl2
      have HW2 := Hid.mk hw2
      have HC2 := Hid.mk hc2
      have HT2 := Hid.mk ht2
      have HK3 := Hid.mk hk3
      have HL3 := Hid.mk hl3
      have Hne := Hid.mk hne
      have Hne2 := Hid.mk hne2
      clear hw2 hk2 hl2 hc2 ht2 hk3 hl3 hne hne2
      go_wp2_with (first
        | (go_at_call 173; refine (stretch_any X (ri r i) s _ HC2.out HT2.out Hs.out).mono ?_; rintro e w3 ⟨rfl, rfl⟩)
        | (go_at_call 174; refine (rise_any X (ri r i) _ HC2.out).mono ?_; rintro e w4 ⟨rfl, hc4, hk4⟩))
      have HC4 := Hid.mk hc4
      have HK4 := Hid.mk hk4
      clear hc4 hk4
      go_roundw
      case rel =>
        refine ⟨i + 1, V2, ?_, ?_, ?_⟩
        · have := Hs.out; rw [S_succ]; omega
        · have := Hs.out
          rw [S_succ]
          congr 1
          omega
        · refine ⟨?_, ?_, HT2.out.kept HK4.out (by simpa using hX.symm), HK3.out.step HK4.out (by simp), HL3.out⟩
          · have h := HC4.out
            rw [show min (ri r i + 1) 22 = ri r (i + 1) by unfold ri; omega] at h
            exact h
          · have h := HW2.out.kept HK4.out (by simpa using Hne.out.symm) (fun g hg => by simp; rintro rfl; exact Hne2.out hg)
            rw [show (1 : Int).toNat = 1 from rfl, Nat.pow_one, ones_succ, Nat.add_assoc] at h
            exact h
      case measure => simp [intOf]; omega
    · have hm : cnt r n.toNat = i := cnt_eq r _ i hi (by have := Hs.out; rw [S_succ]; omega)
      have hlow : (n - (S r i : Int)).toNat < 2 ^ ((J (ri r i) : Nat) : Int).toNat := by have := Hs.out; rw [Int.toNat_natCast]; omega
      have hj12 := J_le (ri r i)
      have Hlow := Hid.mk hlow
      have l0 : 0 ≤ n - (S r i : Int) := by omega
      have l1 : n - (S r i : Int) ≤ 4096 := by omega
      clear hlow
      by_cases hlt2 : n < room
      · go_wp2_with (go_at_call 173; refine (stretch_any X (ri r i) s _ HSi.out.coder HSi.out.tab Hs.out).mono ?_; rintro e w1 ⟨rfl, rfl⟩)
        refine (put_any B V1 _ _ 0 1 _ HSi.out.writer (by omega) (by omega) (by omega) (by decide) (by omega)).mono ?_
        rintro e w2 ⟨rfl, V2, hw2, hk2, hl2⟩
        obtain ⟨hc2, ht2, hk3, hl3, hne, hne2⟩ := HSi.out.put HT.out hB hV hw2 hk2 hl2
        obtain ⟨c0, f0⟩ := cells_one hc2.1
        have hr2 := hc2.2
        have hj2 := ht2 (ri r i) (by omega)
        have HW2 := Hid.mk hw2
        have HC2 := Hid.mk hc2
        have HT2 := Hid.mk ht2
        have HK3 := Hid.mk hk3
        have HL3 := Hid.mk hl3
        have Hne := Hid.mk hne
        have Hne2 := Hid.mk hne2
        clear hw2 hk2 hl2 hc2 ht2 hk3 hl3 hne hne2
        go_wp2_with fail
        refine (put_any B V2 _ _ (n - (S r i : Int)) (J (ri r i) : Int) _ HW2.out (by omega) (by omega) (by omega) Hlow.out (by omega)).mono ?_
        rintro e w3 ⟨rfl, V3, hw3, hk3', hl3'⟩
        have hc3 : CoderAt w3 X (ri r i) := HC2.out.kept hk3' (by simp; exact ⟨Hne.out, Hne2.out⟩)
        have hn3 := own_ne hc3.1 (by decide) hw3.2
        have HW3 := Hid.mk hw3
        have HC3 := Hid.mk hc3
        have HK := Hid.mk (keep_cons HK3.out HL3.out hk3')
        have HL := Hid.mk (HL3.out.trans hl3' HK3.out.size)
        have Hn3 := Hid.mk hn3
        clear hw3 hk3' hl3' hc3 hn3 c0 f0 hj2
        go_wp2_with (go_at_call 175; refine (fall_any X (ri r i) _ HC3.out).mono ?_; rintro e w4 ⟨rfl, hc4, hk4⟩)
        go_ret
        obtain ⟨e1, e2, e3⟩ := run_short (r := r) (n := n.toNat) (room := room.toNat) (by omega)
        rw [hm] at e1 e2 e3
        refine ⟨rfl, V3, by rw [e3]; exact hc4, ?_, HK.out.step hk4 (by simp), HL.out⟩
        have h := HW3.out.kept hk4 (by simpa using Hne.out.symm) (fun g hg => by simp; rintro rfl; exact Hn3.out hg)
        rw [show (1 : Int).toNat = 1 from rfl, Nat.pow_one, show (0 : Int).toNat = 0 from rfl, Int.toNat_natCast, ones_mul, show len + i + 1 + J (ri r i) = len + (i + 1 + J (ri r i)) by omega, show (n - (S r i : Int)).toNat = n.toNat - S r i by omega, ← e1, ← e2] at h
        exact h
      · obtain rfl : n = room := by omega
        by_cases hle : 0 < n - (S r i : Int)
        · go_wp2_with (go_at_call 173; refine (stretch_any X (ri r i) s _ HSi.out.coder HSi.out.tab Hs.out).mono ?_; rintro e w1 ⟨rfl, rfl⟩)
          refine (put_any B V1 _ _ 1 1 _ HSi.out.writer (by omega) (by omega) (by omega) (by decide) (by omega)).mono ?_
          rintro e w2 ⟨rfl, V2, hw2, hk2, hl2⟩
          obtain ⟨hc2, ht2, hk3, hl3, hne, hne2⟩ := HSi.out.put HT.out hB hV hw2 hk2 hl2
          have HW2 := Hid.mk hw2
          clear hw2
          go_wp2_with fail
          go_ret
          obtain ⟨e1, e2, e3⟩ := run_over (r := r) (room := n.toNat) (by rw [hm]; omega)
          rw [hm] at e1 e2 e3
          refine ⟨rfl, V2, by rw [e3]; exact hc2, ?_, hk3, hl3⟩
          have h := HW2.out
          rw [show (1 : Int).toNat = 1 from rfl, Nat.pow_one, ones_succ, Nat.add_assoc] at h
          rw [e1, e2]
          exact h
        · go_wp2_with (go_at_call 173; refine (stretch_any X (ri r i) s _ HSi.out.coder HSi.out.tab Hs.out).mono ?_; rintro e w1 ⟨rfl, rfl⟩)
          go_ret
          obtain ⟨e1, e2, e3⟩ := run_full (r := r) (room := n.toNat) (by rw [hm]; omega)
          rw [hm] at e1 e2 e3
          refine ⟨rfl, V1, by rw [e3]; exact HSi.out.coder, ?_, HSi.out.keep, HSi.out.lies⟩
          rw [e1, e2]
          exact HSi.out.writer
end Go.Proofs.YthhegomjipbdbaaGreatDoor

namespace Go.Proofs.YthhegomjipbdbaaGreatDoor
open Go.RowKit

theorem shr_nat (a : Nat) (k : Int) : (a : Int) / 2 ^ k.toNat = ((a / 2 ^ k.toNat : Nat) : Int) := by rw [pow_two_int, Int.natCast_ediv]
theorem shl_nat (a : Nat) (k : Int) : (a : Int) * 2 ^ k.toNat = ((a * 2 ^ k.toNat : Nat) : Int) := by rw [pow_two_int, Int.natCast_mul]

theorem pos_shr (x wide : Int) (h : ((2 ^ wide.toNat : Nat) : Int) ≤ x) : 0 < x / 2 ^ wide.toNat := by
  rw [pow_two_int]
  have hp : (0 : Int) < ((2 ^ wide.toNat : Nat) : Int) := by have := Nat.two_pow_pos wide.toNat; omega
  have := Int.le_ediv_of_mul_le hp (show 1 * ((2 ^ wide.toNat : Nat) : Int) ≤ x by omega)
  omega

theorem zeros_cases {l : List Nat} {t : Nat} {Z E : Int} {t' : Nat} (h : ZerosRes l t 24 Z E t') :
    (∃ u : Nat, u < 24 ∧ t + u < 8 * l.length ∧ (∀ i, i < u → nextN l (t + i) 1 = 0) ∧ nextN l (t + u) 1 = 1 ∧ Z = (u : Int) ∧ E = 0 ∧ t' = t + u + 1) ∨
    (t + 24 ≤ 8 * l.length ∧ (∀ i, i < 24 → nextN l (t + i) 1 = 0) ∧ Z = 24 ∧ E = 0 ∧ t' = t + 24) ∨
    (8 * l.length < t + 24 ∧ (∀ i, t + i < 8 * l.length → nextN l (t + i) 1 = 0) ∧ Z = 0 ∧ E = 13 ∧ t' = t) := h

theorem numRes_err {l : List Nat} {t k wide : Nat} {X E : Int} {t' : Nat} (h : NumRes l t k wide X E t') (hE : E ≠ 0) : X = 0 ∧ t' = t := by
  rcases h with ⟨_, _, _, _, _, _, _, h, _⟩ | ⟨_, _, _, _, h, _⟩ | ⟨h1, h2, _⟩ | ⟨h1, h2, _⟩
  · exact absurd h hE
  · exact absurd h hE
  · exact ⟨h1, h2⟩
  · exact ⟨h1, h2⟩

/-- What the copy of a reader is. -/
theorem reader_at {w : World} {B A g : Nat} {l : List Nat} {t : Nat} (h : ReaderAt w B g l t) (h2 : w.heap[A]? = some (.cells #[.slice (some ⟨g, 0, none⟩) l.length l.length, .int .i64 (t : Int)] 98765 (0, 0))) : ReaderAt w A g l t := ⟨h2, h.2⟩

end Go.Proofs.YthhegomjipbdbaaGreatDoor
