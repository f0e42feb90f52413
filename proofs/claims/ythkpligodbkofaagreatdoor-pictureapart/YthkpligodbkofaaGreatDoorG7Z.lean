import Derived.Test.YthkpligodbkofaaGreatDoorG2Z
namespace Go.Proofs.YthkpligodbkofaaGreatDoor
open Go.RowKit

/-- Bits and i ones behind them. -/
def ones (N i : Nat) : Nat := N * 2 ^ i + (2 ^ i - 1)
theorem ones_succ (N i : Nat) : ones N i * 2 + 1 = ones N (i + 1) := by
  unfold ones
  have := Nat.two_pow_pos i
  rw [Nat.pow_succ, ← Nat.mul_assoc]
  omega

theorem ones_mul (N i j low : Nat) : (ones N i * 2 + 0) * 2 ^ j + low = N * 2 ^ (i + 1 + j) + ((2 ^ i - 1) * 2 ^ (1 + j) + low) := by
  unfold ones
  rw [Nat.add_zero, Nat.mul_assoc, show (2 : Nat) * 2 ^ j = 2 ^ (1 + j) by rw [Nat.pow_add, Nat.pow_one], Nat.add_mul, Nat.mul_assoc, ← Nat.pow_add, Nat.add_assoc i 1 j, Nat.add_assoc]

/-- The state within Put of a run, behind i stretches. -/
structure PutS (w wr : World) (X B : Nat) (V V1 : Value) (N len r i : Nat) : Prop where
  coder : CoderAt wr X (ri r i)
  writer : WriterAt wr B V1 (ones N i) (len + i)
  tab : Tab wr
  keep : Kept (X :: B :: V.ownBlock.toList) w wr
  lies : Lies w V V1

theorem PutS.ne {w wr : World} {X B : Nat} {V V1 : Value} {N len r i : Nat} (h : PutS w wr X B V V1 N len r i) : X ≠ B ∧ V1.ownBlock ≠ some X ∧ V1.ownBlock ≠ some B := by
  refine ⟨?_, own_ne h.coder.1 (by decide) h.writer.2, own_ne h.writer.1 (by decide) h.writer.2⟩
  rintro rfl
  have h1 := h.coder.1
  rw [h.writer.1] at h1
  simp at h1

theorem keep_cons {w w1 w2 : World} {X B : Nat} {V V1 : Value} (k1 : Kept (X :: B :: V.ownBlock.toList) w w1) (l1 : Lies w V V1) (k2 : Kept (B :: V1.ownBlock.toList) w1 w2) : Kept (X :: B :: V.ownBlock.toList) w w2 := by
  refine k1.step k2 ?_
  intro x hx
  rcases List.mem_cons.1 hx with h | h
  · left; simp [h]
  · rcases l1.mem x h with h | h
    · left; simp only [List.mem_cons]; exact .inr (.inr h)
    · right; exact h

theorem no_zero {w : World} {B : Nat} {V V1 : Value} (hT : Tab w) (hB : B ≠ 0) (hV : V.ownBlock ≠ some 0) (l1 : Lies w V V1) : 0 ∉ B :: V1.ownBlock.toList := by
  intro h
  rcases List.mem_cons.1 h with h | h
  · exact hB h.symm
  · rcases l1.mem 0 h with h | h
    · exact hV (by simpa using h)
    · have := hT.pos; omega

/-- What a Put of bits leaves of the state. -/
theorem PutS.put {w wr w' : World} {X B : Nat} {V V1 V2 : Value} {N len r i N2 l2 : Nat} (h : PutS w wr X B V V1 N len r i) (hT : Tab w) (hB : B ≠ 0) (hV : V.ownBlock ≠ some 0) (hw : WriterAt w' B V2 N2 l2) (hk : Kept (B :: V1.ownBlock.toList) wr w') (hl : Lies wr V1 V2) :
    CoderAt w' X (ri r i) ∧ Tab w' ∧ Kept (X :: B :: V.ownBlock.toList) w w' ∧ Lies w V V2 ∧ X ≠ B ∧ V2.ownBlock ≠ some X := by
  obtain ⟨n1, n2, n3⟩ := h.ne
  have hc : CoderAt w' X (ri r i) := h.coder.kept hk (by simp; exact ⟨n1, n2⟩)
  exact ⟨hc, h.tab.kept hk (no_zero hT hB hV h.lies), keep_cons h.keep h.lies hk, h.lies.trans hl h.keep.size, n1, own_ne hc.1 (by decide) hw.2⟩

set_option maxHeartbeats 2000000 in
set_option maxRecDepth 1000000 in
theorem rput_any (X B : Nat) (V : Value) (N len r : Nat) (n room : Int) (w : World) (hx : CoderAt w X r) (hw : WriterAt w B V N len) (hT : Tab w) (hX : X ≠ 0) (hB : B ≠ 0) (hV : V.ownBlock ≠ some 0)
    (r0 : 1 ≤ room) (r1 : room ≤ 4096) (n0 : 0 ≤ n) (n1 : n ≤ room) (hl : len / 8 + 2000 ≤ 140737488355328) :
    Calls Tryz.prog 169 #[.pointer (some ⟨X, 0, none⟩), .pointer (some ⟨B, 0, none⟩), .int .i64 n, .int .i64 room] w fun e w' => e = .returned (.int .i64 0) ∧
      ∃ V', CoderAt w' X (rr r n.toNat room.toNat) ∧ WriterAt w' B V' (N * 2 ^ rw_ r n.toNat room.toNat + rf r n.toNat room.toNat) (len + rw_ r n.toNat room.toNat) ∧ Kept (X :: B :: V.ownBlock.toList) w w' ∧ Lies w V V' := by
  have hr := hx.2
  have ht : decide (n < 0) = false := by simp; omega
  have ht2 : decide (room < n) = false := by simp; omega
  have HS : Hid (PutS w w X B V V N len r 0) := ⟨by rw [show ri r 0 = r by unfold ri; omega]; exact hx, by simpa [ones] using hw, hT, Kept.refl _ _, Lies.refl _ _⟩
  have HT := Hid.mk hT
  clear hx hw hT
  go_enter Tryz.func169, Tryz.ntmps169
  go_wp2_with (go_at_call 205; refine (roomy_ok room _ r0 r1).mono ?_; rintro e w' ⟨rfl, rfl⟩)
  go_loopw [9] (fun lf wr => ∃ (i : Nat) (V1 : Value), S r i ≤ n.toNat ∧ lf = .int .i64 (n - (S r i : Int)) ∧ PutS w' wr X B V V1 N len r i) (fun lf _ => (intOf lf).toNat)
  case atStart => exact ⟨0, V, Nat.zero_le _, by simp [S], HS.out⟩
  case round =>
    obtain ⟨i, V1, hi, rfl, hS⟩ := hrel
    obtain ⟨s, hs⟩ : ∃ s : Int, s = ((2 ^ J (ri r i) : Nat) : Int) := ⟨_, rfl⟩
    have Hs := Hid.mk hs
    have s0 : 1 ≤ s := by have := Nat.two_pow_pos (J (ri r i)); omega
    have s1 : s ≤ 4096 := by have := stretch_le (ri r i); omega
    have hge := S_ge r i
    have HSi := Hid.mk hS
    clear hS hs
    by_cases hlt : s ≤ n - (S r i : Int)
    · go_wp2_with (go_at_call 206; refine (stretch_any X (ri r i) s _ HSi.out.coder HSi.out.tab Hs.out).mono ?_; rintro e w1 ⟨rfl, rfl⟩)
      refine (put_any B V1 _ _ 1 1 _ HSi.out.writer (by omega) (by omega) (by omega) (by decide) (by omega)).mono ?_
      rintro e w2 ⟨rfl, V2, hw2, hk2, hl2⟩
      obtain ⟨hc2, ht2, hk3, hl3, hne, hne2⟩ := HSi.out.put HT.out hB hV hw2 hk2 hl2
      have HW2 := Hid.mk hw2
      have HC2 := Hid.mk hc2
      have HT2 := Hid.mk ht2
      have HK3 := Hid.mk hk3
      have HL3 := Hid.mk hl3
      have Hne := Hid.mk hne
      have Hne2 := Hid.mk hne2
      clear hw2 hk2 hl2 hc2 ht2 hk3 hl3 hne hne2
      go_wp2_with (first
        | (go_at_call 206; refine (stretch_any X (ri r i) s _ HC2.out HT2.out Hs.out).mono ?_; rintro e w3 ⟨rfl, rfl⟩)
        | (go_at_call 207; refine (rise_any X (ri r i) _ HC2.out).mono ?_; rintro e w4 ⟨rfl, hc4, hk4⟩))
      have HC4 := Hid.mk hc4
      have HK4 := Hid.mk hk4
      clear hc4 hk4
      go_roundw
      case rel =>
        refine ⟨i + 1, V2, ?_, ?_, ?_⟩
        · have := Hs.out; rw [S_succ]; omega
        · have := Hs.out
          rw [S_succ]
          congr 1
          omega
        · refine ⟨?_, ?_, HT2.out.kept HK4.out (by simpa using hX.symm), HK3.out.step HK4.out (by simp), HL3.out⟩
          · have h := HC4.out
            rw [show min (ri r i + 1) 22 = ri r (i + 1) by unfold ri; omega] at h
            exact h
          · have h := HW2.out.kept HK4.out (by simpa using Hne.out.symm) (fun g hg => by simp; rintro rfl; exact Hne2.out hg)
            rw [show (1 : Int).toNat = 1 from rfl, Nat.pow_one, ones_succ, Nat.add_assoc] at h
            exact h
      case measure => simp [intOf]; omega
    · have hm : cnt r n.toNat = i := cnt_eq r _ i hi (by have := Hs.out; rw [S_succ]; omega)
      have hlow : (n - (S r i : Int)).toNat < 2 ^ ((J (ri r i) : Nat) : Int).toNat := by have := Hs.out; rw [Int.toNat_natCast]; omega
      have hj12 := J_le (ri r i)
      have Hlow := Hid.mk hlow
      have l0 : 0 ≤ n - (S r i : Int) := by omega
      have l1 : n - (S r i : Int) ≤ 4096 := by omega
      clear hlow
      by_cases hlt2 : n < room
      · go_wp2_with (go_at_call 206; refine (stretch_any X (ri r i) s _ HSi.out.coder HSi.out.tab Hs.out).mono ?_; rintro e w1 ⟨rfl, rfl⟩)
        refine (put_any B V1 _ _ 0 1 _ HSi.out.writer (by omega) (by omega) (by omega) (by decide) (by omega)).mono ?_
        rintro e w2 ⟨rfl, V2, hw2, hk2, hl2⟩
        obtain ⟨hc2, ht2, hk3, hl3, hne, hne2⟩ := HSi.out.put HT.out hB hV hw2 hk2 hl2
        obtain ⟨c0, f0⟩ := cells_one hc2.1
        have hr2 := hc2.2
        have hj2 := ht2 (ri r i) (by omega)
        have HW2 := Hid.mk hw2
        have HC2 := Hid.mk hc2
        have HT2 := Hid.mk ht2
        have HK3 := Hid.mk hk3
        have HL3 := Hid.mk hl3
        have Hne := Hid.mk hne
        have Hne2 := Hid.mk hne2
        clear hw2 hk2 hl2 hc2 ht2 hk3 hl3 hne hne2
        go_wp2_with fail
        refine (put_any B V2 _ _ (n - (S r i : Int)) (J (ri r i) : Int) _ HW2.out (by omega) (by omega) (by omega) Hlow.out (by omega)).mono ?_
        rintro e w3 ⟨rfl, V3, hw3, hk3', hl3'⟩
        have hc3 : CoderAt w3 X (ri r i) := HC2.out.kept hk3' (by simp; exact ⟨Hne.out, Hne2.out⟩)
        have hn3 := own_ne hc3.1 (by decide) hw3.2
        have HW3 := Hid.mk hw3
        have HC3 := Hid.mk hc3
        have HK := Hid.mk (keep_cons HK3.out HL3.out hk3')
        have HL := Hid.mk (HL3.out.trans hl3' HK3.out.size)
        have Hn3 := Hid.mk hn3
        clear hw3 hk3' hl3' hc3 hn3 c0 f0 hj2
        go_wp2_with (go_at_call 208; refine (fall_any X (ri r i) _ HC3.out).mono ?_; rintro e w4 ⟨rfl, hc4, hk4⟩)
        go_ret
        obtain ⟨e1, e2, e3⟩ := run_short (r := r) (n := n.toNat) (room := room.toNat) (by omega)
        rw [hm] at e1 e2 e3
        refine ⟨rfl, V3, by rw [e3]; exact hc4, ?_, HK.out.step hk4 (by simp), HL.out⟩
        have h := HW3.out.kept hk4 (by simpa using Hne.out.symm) (fun g hg => by simp; rintro rfl; exact Hn3.out hg)
        rw [show (1 : Int).toNat = 1 from rfl, Nat.pow_one, show (0 : Int).toNat = 0 from rfl, Int.toNat_natCast, ones_mul, show len + i + 1 + J (ri r i) = len + (i + 1 + J (ri r i)) by omega, show (n - (S r i : Int)).toNat = n.toNat - S r i by omega, ← e1, ← e2] at h
        exact h
      · obtain rfl : n = room := by omega
        by_cases hle : 0 < n - (S r i : Int)
        · go_wp2_with (go_at_call 206; refine (stretch_any X (ri r i) s _ HSi.out.coder HSi.out.tab Hs.out).mono ?_; rintro e w1 ⟨rfl, rfl⟩)
          refine (put_any B V1 _ _ 1 1 _ HSi.out.writer (by omega) (by omega) (by omega) (by decide) (by omega)).mono ?_
          rintro e w2 ⟨rfl, V2, hw2, hk2, hl2⟩
          obtain ⟨hc2, ht2, hk3, hl3, hne, hne2⟩ := HSi.out.put HT.out hB hV hw2 hk2 hl2
          have HW2 := Hid.mk hw2
          clear hw2
          go_wp2_with fail
          go_ret
          obtain ⟨e1, e2, e3⟩ := run_over (r := r) (room := n.toNat) (by rw [hm]; omega)
          rw [hm] at e1 e2 e3
          refine ⟨rfl, V2, by rw [e3]; exact hc2, ?_, hk3, hl3⟩
          have h := HW2.out
          rw [show (1 : Int).toNat = 1 from rfl, Nat.pow_one, ones_succ, Nat.add_assoc] at h
          rw [e1, e2]
          exact h
        · go_wp2_with (go_at_call 206; refine (stretch_any X (ri r i) s _ HSi.out.coder HSi.out.tab Hs.out).mono ?_; rintro e w1 ⟨rfl, rfl⟩)
          go_ret
          obtain ⟨e1, e2, e3⟩ := run_full (r := r) (room := n.toNat) (by rw [hm]; omega)
          rw [hm] at e1 e2 e3
          refine ⟨rfl, V1, by rw [e3]; exact HSi.out.coder, ?_, HSi.out.keep, HSi.out.lies⟩
          rw [e1, e2]
          exact HSi.out.writer
end Go.Proofs.YthkpligodbkofaaGreatDoor

namespace Go.Proofs.YthkpligodbkofaaGreatDoor
open Go.RowKit

theorem shr_nat (a : Nat) (k : Int) : (a : Int) / 2 ^ k.toNat = ((a / 2 ^ k.toNat : Nat) : Int) := by rw [pow_two_int, Int.natCast_ediv]
theorem shl_nat (a : Nat) (k : Int) : (a : Int) * 2 ^ k.toNat = ((a * 2 ^ k.toNat : Nat) : Int) := by rw [pow_two_int, Int.natCast_mul]

theorem pos_shr (x wide : Int) (h : ((2 ^ wide.toNat : Nat) : Int) ≤ x) : 0 < x / 2 ^ wide.toNat := by
  rw [pow_two_int]
  have hp : (0 : Int) < ((2 ^ wide.toNat : Nat) : Int) := by have := Nat.two_pow_pos wide.toNat; omega
  have := Int.le_ediv_of_mul_le hp (show 1 * ((2 ^ wide.toNat : Nat) : Int) ≤ x by omega)
  omega

theorem zeros_cases {l : List Nat} {t : Nat} {Z E : Int} {t' : Nat} (h : ZerosRes l t 24 Z E t') :
    (∃ u : Nat, u < 24 ∧ t + u < 8 * l.length ∧ (∀ i, i < u → nextN l (t + i) 1 = 0) ∧ nextN l (t + u) 1 = 1 ∧ Z = (u : Int) ∧ E = 0 ∧ t' = t + u + 1) ∨
    (t + 24 ≤ 8 * l.length ∧ (∀ i, i < 24 → nextN l (t + i) 1 = 0) ∧ Z = 24 ∧ E = 0 ∧ t' = t + 24) ∨
    (8 * l.length < t + 24 ∧ (∀ i, t + i < 8 * l.length → nextN l (t + i) 1 = 0) ∧ Z = 0 ∧ E = 13 ∧ t' = t) := h

theorem numRes_err {l : List Nat} {t k wide : Nat} {X E : Int} {t' : Nat} (h : NumRes l t k wide X E t') (hE : E ≠ 0) : X = 0 ∧ t' = t := by
  rcases h with ⟨_, _, _, _, _, _, _, h, _⟩ | ⟨_, _, _, _, h, _⟩ | ⟨h1, h2, _⟩ | ⟨h1, h2, _⟩
  · exact absurd h hE
  · exact absurd h hE
  · exact ⟨h1, h2⟩
  · exact ⟨h1, h2⟩

/-- What the copy of a reader is. -/
theorem reader_at {w : World} {B A g : Nat} {l : List Nat} {t : Nat} (h : ReaderAt w B g l t) (h2 : w.heap[A]? = some (.cells #[.slice (some ⟨g, 0, none⟩) l.length l.length, .int .i64 (t : Int)] 98765 (0, 0))) : ReaderAt w A g l t := ⟨h2, h.2⟩

end Go.Proofs.YthkpligodbkofaaGreatDoor

namespace Go.Proofs.YthkpligodbkofaaGreatDoor
open Go.RowKit

end Go.Proofs.YthkpligodbkofaaGreatDoor

namespace Go.Proofs.YthkpligodbkofaaGreatDoor
open Go.RowKit

theorem bit_res (l : List Nat) (t : Nat) : (t < 8 * l.length ∧ nextN l t 1 = 0) ∨ (t < 8 * l.length ∧ nextN l t 1 = 1) ∨ 8 * l.length ≤ t := by
  have := bit_lt l t
  omega

/-- The state within Get of a run, behind i stretches. -/
structure GetS (w wr : World) (X B g : Nat) (l : List Nat) (t r room i : Nat) : Prop where
  coder : CoderAt wr X (ri r i)
  reader : ReaderAt wr B g l (t + i)
  tab : Tab wr
  keep : Kept [X, B] w wr
  sum : S r i ≤ room
  ones : ∀ a, a < i → nextN l (t + a) 1 = 1

/-- What run comes to. -/
def RunPost (w : World) (X B g : Nat) (l : List Nat) (t r room : Nat) (e : Ending) (w' : World) : Prop :=
  ∃ (Y E : Int) (t' r' : Nat) (Y2 : Int) (t2 r2 : Nat), e = .returned (.tuple #[.int .i64 Y, .int .i64 E]) ∧ ReaderAt w' B g l t' ∧ CoderAt w' X r' ∧ Kept [X, B] w w' ∧
      RunRes l t r room Y2 E t2 r2 ∧ (E = 0 → Y2 = Y ∧ t2 = t' ∧ r2 = r')

end Go.Proofs.YthkpligodbkofaaGreatDoor

namespace Go.Proofs.YthkpligodbkofaaGreatDoor
open Go.RowKit

theorem runRes_err {l : List Nat} {t r room : Nat} {X E : Int} {t' r' : Nat} (h : RunRes l t r room X E t' r') (hE : E ≠ 0) : X = 0 ∧ t' = t ∧ r' = r := by
  obtain ⟨i, _, _, _, hc⟩ := h
  rcases hc with ⟨_, _, h, _⟩ | ⟨_, _, _, _, _, h, _⟩ | ⟨_, _, _, _, _, _, h, _⟩ | ⟨_, h1, h2, h3, _⟩ | ⟨_, _, h1, h2, h3, _⟩
  · exact absurd h hE
  · exact absurd h hE
  · exact absurd h hE
  · exact ⟨h1, h2, h3⟩
  · exact ⟨h1, h2, h3⟩

theorem two_new (w : World) (a b : Array Value) (s t : TypeId) : ((w.alloc (.cells a s)).alloc (.cells b t)).drew.heap[w.heap.size]? = some (.cells a s (0, 0)) ∧ ((w.alloc (.cells a s)).alloc (.cells b t)).drew.heap[w.heap.size + 1]? = some (.cells b t (0, 0)) := by
  refine ⟨?_, ?_⟩
  · show ((w.alloc (.cells a s)).alloc (.cells b t)).heap[w.heap.size]? = _
    rw [Below.heap_alloc _ _ _ (by simp), heap_alloc_new]
  · show ((w.alloc (.cells a s)).alloc (.cells b t)).heap[w.heap.size + 1]? = _
    have h := heap_alloc_new (w.alloc (.cells a s)) (.cells b t)
    simpa using h

/-- What Get of a run comes to. -/
def RGetPost (w : World) (X B g : Nat) (l : List Nat) (t r room : Nat) (e : Ending) (w' : World) : Prop :=
  ∃ (Y E : Int) (t' r' : Nat), e = .returned (.tuple #[.int .i64 Y, .int .i64 E]) ∧ ReaderAt w' B g l t' ∧ CoderAt w' X r' ∧ Kept [X, B] w w' ∧ RunRes l t r room Y E t' r'

end Go.Proofs.YthkpligodbkofaaGreatDoor

namespace Go.Proofs.YthkpligodbkofaaGreatDoor
open Go.RowKit

/-- The number that has been laid down behind the first forms. -/
def AN (v n : Nat → Nat) : Nat → Nat
  | 0 => 0
  | i + 1 => AN v n i * 2 ^ n i + v i
/-- How many bits these are. -/
def AL (n : Nat → Nat) : Nat → Nat
  | 0 => 0
  | i + 1 => AL n i + n i

theorem AL_mono (n : Nat → Nat) (i j : Nat) (h : i ≤ j) : AL n i ≤ AL n j := by
  induction j with
  | zero => have : i = 0 := by omega
            subst this; exact Nat.le_refl _
  | succ j ih =>
    by_cases e : i = j + 1
    · subst e; exact Nat.le_refl _
    · have := ih (by omega)
      simp only [AL]; omega

theorem AL_le (n : Nat → Nat) (c k : Nat) (hn : ∀ i, i < k → n i ≤ c) : AL n k ≤ c * k := by
  induction k with
  | zero => simp [AL]
  | succ k ih =>
    have h1 := hn k (by omega)
    have h2 := ih (fun i hi => hn i (by omega))
    simp only [AL, Nat.mul_add, Nat.mul_one]
    generalize c * k = q at *
    omega

theorem AN_lt (v n : Nat → Nat) (k : Nat) (h : ∀ i, i < k → v i < 2 ^ n i) : AN v n k < 2 ^ AL n k := by
  induction k with
  | zero => simp [AN, AL]
  | succ k ih =>
    have h1 := ih (fun i hi => h i (by omega))
    have h2 := h k (by omega)
    simp only [AN, AL, Nat.pow_add]
    have h3 : (AN v n k + 1) * 2 ^ n k ≤ 2 ^ AL n k * 2 ^ n k := Nat.mul_le_mul_right _ h1
    rw [Nat.add_mul] at h3
    omega

theorem AN_div (v n : Nat → Nat) (i j : Nat) (hij : i ≤ j) (h : ∀ k, k < j → v k < 2 ^ n k) : AN v n j / 2 ^ (AL n j - AL n i) = AN v n i := by
  induction j with
  | zero =>
    have : i = 0 := by omega
    subst this; simp [AN]
  | succ j ih =>
    by_cases e : i = j + 1
    · subst e; simp
    · have h1 := ih (by omega) (fun k hk => h k (by omega))
      have h2 := h j (by omega)
      have hm := AL_mono n i j (by omega)
      have e2 : AL n (j + 1) - AL n i = n j + (AL n j - AL n i) := by simp only [AL]; omega
      rw [e2, Nat.pow_add, ← Nat.div_div_eq_div_mul]
      simp only [AN]
      rw [Nat.add_comm, Nat.add_mul_div_right _ _ (Nat.two_pow_pos _), Nat.div_eq_of_lt h2, Nat.zero_add, h1]

theorem num_padded (X len : Nat) (hX : X < 2 ^ len) : num (big ((len + 7) / 8) (X * 2 ^ (8 * ((len + 7) / 8) - len))) = X * 2 ^ (8 * ((len + 7) / 8) - len) := by
  rw [num_big, pow256, Nat.mod_eq_of_lt]
  have h1 : X * 2 ^ (8 * ((len + 7) / 8) - len) < 2 ^ len * 2 ^ (8 * ((len + 7) / 8) - len) := Nat.mul_lt_mul_of_pos_right hX (Nat.two_pow_pos _)
  rw [← Nat.pow_add] at h1
  rwa [show len + (8 * ((len + 7) / 8) - len) = 8 * ((len + 7) / 8) by omega] at h1

theorem next_back (v n : Nat → Nat) (T i : Nat) (hi : i < T) (h : ∀ k, k < T → v k < 2 ^ n k) :
    nextN (big ((AL n T + 7) / 8) (AN v n T * 2 ^ (8 * ((AL n T + 7) / 8) - AL n T))) (AL n i) (n i) = v i := by
  have hA := AL_mono n (i + 1) T (by omega)
  have hA' : AL n i + n i ≤ AL n T := hA
  rw [nextN, big_length, num_padded _ _ (AN_lt v n T h)]
  have e1 : 8 * ((AL n T + 7) / 8) - (AL n i + n i) = (8 * ((AL n T + 7) / 8) - AL n T) + (AL n T - AL n (i + 1)) := by
    simp only [AL]; omega
  rw [e1, Nat.pow_add, ← Nat.div_div_eq_div_mul, Nat.mul_div_cancel _ (Nat.two_pow_pos _), AN_div v n (i + 1) T (by omega) h]
  simp only [AN]
  rw [Nat.mul_add_mod_self_right, Nat.mod_eq_of_lt (h i hi)]

theorem next_rest (X len : Nat) (hX : X < 2 ^ len) : nextN (big ((len + 7) / 8) (X * 2 ^ (8 * ((len + 7) / 8) - len))) len (8 * ((len + 7) / 8) - len) = 0 := by
  rw [nextN, big_length, num_padded _ _ hX]
  have e1 : 8 * ((len + 7) / 8) - (len + (8 * ((len + 7) / 8) - len)) = 0 := by omega
  rw [e1]
  simp

/-- The width, parameter and value of a raw number. -/
def wd (W : Int) : Int := 1 + pick W 16
def kk (K : Int) : Int := pick K 16
def vv (V W : Int) : Int := pick V ((2 ^ (wd W).toNat : Nat) : Int)

theorem wd_lo (W : Int) : 1 ≤ wd W := by have := pick_lo W 16 (by decide); unfold wd; omega
theorem wd_hi (W : Int) : wd W ≤ 16 := by have := pick_hi W 16 (by decide); unfold wd; omega
theorem kk_lo (K : Int) : 0 ≤ kk K := pick_lo K 16 (by decide)
theorem kk_hi (K : Int) : kk K ≤ 15 := by have := pick_hi K 16 (by decide); unfold kk; omega
theorem vv_lo (V W : Int) : 0 ≤ vv V W := pick_lo V _ (by have := Nat.two_pow_pos (wd W).toNat; omega)
theorem vv_hi (V W : Int) : (vv V W).toNat < 2 ^ (wd W).toNat := by
  have h := pick_hi V ((2 ^ (wd W).toNat : Nat) : Int) (by have := Nat.two_pow_pos (wd W).toNat; omega)
  have h0 := vv_lo V W
  unfold vv at *
  omega

end Go.Proofs.YthkpligodbkofaaGreatDoor

namespace Go.Proofs.YthkpligodbkofaaGreatDoor
open Go.RowKit

set_option maxHeartbeats 1000000 in
theorem fold_pos (e : Int) (w : World) (h0 : 0 ≤ e) (h1 : e ≤ 1073741823) :
    Calls Tryz.prog 171 #[.int .i64 e] w fun r w' => r = .returned (.tuple #[.int .i64 (2 * e), .int .i64 0]) ∧ w' = w := by
  have t1 : decide (e < -1073741824) = false := by simp; omega
  go_enter Tryz.func171, Tryz.ntmps171
  go_wp2
  go_ret2
  exact ⟨rfl, rfl⟩

set_option maxHeartbeats 1000000 in
theorem fold_neg (e : Int) (w : World) (h0 : -1073741824 ≤ e) (h1 : e < 0) :
    Calls Tryz.prog 171 #[.int .i64 e] w fun r w' => r = .returned (.tuple #[.int .i64 (-2 * e - 1), .int .i64 0]) ∧ w' = w := by
  have t1 : decide (e < -1073741824) = false := by simp; omega
  go_enter Tryz.func171, Tryz.ntmps171
  go_wp2
  go_ret2
  exact ⟨rfl, rfl⟩

theorem fold_to (e a : Int) (w : World) (h0 : -1073741824 ≤ e) (h1 : e ≤ 1073741823) (ha : (0 ≤ e ∧ a = 2 * e) ∨ (e < 0 ∧ a = -2 * e - 1)) :
    Calls Tryz.prog 171 #[.int .i64 e] w fun r w' => r = .returned (.tuple #[.int .i64 a, .int .i64 0]) ∧ w' = w := by
  rcases ha with ⟨h, rfl⟩ | ⟨h, rfl⟩
  · exact fold_pos e w h h1
  · exact fold_neg e w h0 h

end Go.Proofs.YthkpligodbkofaaGreatDoor

namespace Go.Proofs.YthkpligodbkofaaGreatDoor
open Go.RowKit

/-- What is read is one. -/
theorem numRes_one {l : List Nat} {t k wide : Nat} {X E X2 E2 : Int} {t' t2 : Nat} (h : NumRes l t k wide X E t') (h2 : NumRes l t k wide X2 E2 t2) : X = X2 ∧ E = E2 ∧ t' = t2 := by
  rcases numRes_ok h with ⟨rfl, v, rfl, hv, rfl, hle, hb⟩ | ⟨hE, rfl⟩
  · obtain ⟨rfl, rfl, rfl⟩ := numRes_form h2 hv hle hb
    exact ⟨rfl, rfl, rfl⟩
  · rcases numRes_ok h2 with ⟨rfl, v, rfl, hv, rfl, hle, hb⟩ | ⟨hE2, rfl⟩
    · obtain ⟨rfl, rfl, e3⟩ := numRes_form h hv hle hb
      rcases hE with h | h <;> cases h
    · obtain ⟨rfl, _⟩ := numRes_err h (by rcases hE with h | h <;> rw [h] <;> decide)
      obtain ⟨rfl, _⟩ := numRes_err h2 (by rcases hE2 with h | h <;> rw [h] <;> decide)
      refine ⟨rfl, ?_, rfl⟩
      rcases h with ⟨_, _, _, _, _, _, _, h, _⟩ | ⟨_, _, _, _, h, _⟩ | ⟨_, _, h, hc⟩ | ⟨_, _, h, hc⟩
      · rw [h] at hE; rcases hE with h | h <;> cases h
      · rw [h] at hE; rcases hE with h | h <;> cases h
      · rcases h2 with ⟨_, _, _, _, _, _, _, g, _⟩ | ⟨_, _, _, _, g, _⟩ | ⟨_, _, g, _⟩ | ⟨_, _, g, gc⟩
        · rw [g] at hE2; rcases hE2 with h | h <;> cases h
        · rw [g] at hE2; rcases hE2 with h | h <;> cases h
        · rw [h, g]
        · exfalso
          rcases hc with ⟨u, hu, z, o, h3, h4⟩ | ⟨z, h3, h4⟩ | ⟨h3, z⟩
          · rcases gc with ⟨u2, hu2, z2, o2, g3, _⟩ | ⟨z2, g3, _⟩
            · obtain rfl := first_one z o z2 o2; omega
            · have := z2 u hu; omega
          · rcases gc with ⟨u2, hu2, z2, o2, g3, _⟩ | ⟨z2, g3, _⟩
            · have := z u2 hu2; omega
            · omega
          · rcases gc with ⟨u2, hu2, z2, o2, g3, _⟩ | ⟨z2, g3, _⟩
            · have := z u2 (by omega); omega
            · omega
      · rcases h2 with ⟨_, _, _, _, _, _, _, g, _⟩ | ⟨_, _, _, _, g, _⟩ | ⟨_, _, g, gc⟩ | ⟨_, _, g, _⟩
        · rw [g] at hE2; rcases hE2 with h | h <;> cases h
        · rw [g] at hE2; rcases hE2 with h | h <;> cases h
        · exfalso
          rcases gc with ⟨u, hu, z, o, h3, h4⟩ | ⟨z, h3, h4⟩ | ⟨h3, z⟩
          · rcases hc with ⟨u2, hu2, z2, o2, g3, _⟩ | ⟨z2, g3, _⟩
            · obtain rfl := first_one z o z2 o2; omega
            · have := z2 u hu; omega
          · rcases hc with ⟨u2, hu2, z2, o2, g3, _⟩ | ⟨z2, g3, _⟩
            · have := z u2 hu2; omega
            · omega
          · rcases hc with ⟨u2, hu2, z2, o2, g3, _⟩ | ⟨z2, g3, _⟩
            · have := z u2 (by omega); omega
            · omega
        · rw [h, g]

/-- There is always something that Get comes to. -/
theorem numRes_ex (l : List Nat) (t k wide : Nat) (ht : t ≤ 8 * l.length) : ∃ X E t', NumRes l t k wide X E t' := by
  have hz : ∃ u, u ≤ 24 ∧ t + u ≤ 8 * l.length ∧ (∀ i, i < u → nextN l (t + i) 1 = 0) ∧ (u = 24 ∨ t + u = 8 * l.length ∨ nextN l (t + u) 1 = 1) := by
    have go : ∀ n, n ≤ 24 → ∃ u, u ≤ n ∧ t + u ≤ 8 * l.length ∧ (∀ i, i < u → nextN l (t + i) 1 = 0) ∧ (u = n ∨ t + u = 8 * l.length ∨ nextN l (t + u) 1 = 1) := by
      intro n
      induction n with
      | zero => intro _; exact ⟨0, Nat.le_refl _, by omega, fun i hi => by omega, .inl rfl⟩
      | succ n ih =>
        intro hn
        obtain ⟨u, h1, h2, h3, h4⟩ := ih (by omega)
        rcases h4 with rfl | h4
        · by_cases he : t + u = 8 * l.length
          · exact ⟨u, by omega, h2, h3, .inr (.inl he)⟩
          · have hb := bit_lt l (t + u)
            by_cases h0 : nextN l (t + u) 1 = 0
            · refine ⟨u + 1, by omega, by omega, fun i hi => ?_, .inl rfl⟩
              by_cases e : i = u
              · subst e; exact h0
              · exact h3 i (by omega)
            · exact ⟨u, by omega, h2, h3, .inr (.inr (by omega))⟩
        · exact ⟨u, by omega, h2, h3, .inr h4⟩
    exact go 24 (Nat.le_refl _)
  obtain ⟨u, h1, h2, h3, h4⟩ := hz
  by_cases h24 : u = 24
  · subst h24
    by_cases hend : t + 24 + wide ≤ 8 * l.length
    · by_cases hf : nextN l (t + 24) wide / 2 ^ k < 24
      · exact ⟨_, _, _, .inr (.inr (.inr ⟨rfl, rfl, rfl, .inr ⟨h3, hend, hf⟩⟩))⟩
      · exact ⟨_, _, _, .inr (.inl ⟨h3, hend, by omega, rfl, rfl, rfl⟩)⟩
    · exact ⟨_, _, _, .inr (.inr (.inl ⟨rfl, rfl, rfl, .inr (.inl ⟨h3, h2, by omega⟩)⟩))⟩
  · rcases h4 with h4 | h4 | h4
    · exact absurd h4 h24
    · exact ⟨_, _, _, .inr (.inr (.inl ⟨rfl, rfl, rfl, .inr (.inr ⟨by omega, fun i hi => h3 i (by omega)⟩)⟩))⟩
    · by_cases he : t + u = 8 * l.length
      · exact ⟨_, _, _, .inr (.inr (.inl ⟨rfl, rfl, rfl, .inr (.inr ⟨by omega, fun i hi => h3 i (by omega)⟩)⟩))⟩
      · by_cases hend : t + u + 1 + k ≤ 8 * l.length
        · by_cases hf : u * 2 ^ k + nextN l (t + u + 1) k < 2 ^ wide
          · exact ⟨_, _, _, .inl ⟨u, by omega, h3, h4, hend, hf, rfl, rfl, rfl⟩⟩
          · exact ⟨_, _, _, .inr (.inr (.inr ⟨rfl, rfl, rfl, .inl ⟨u, by omega, h3, h4, hend, by omega⟩⟩))⟩
        · exact ⟨_, _, _, .inr (.inr (.inl ⟨rfl, rfl, rfl, .inl ⟨u, by omega, h3, h4, by omega, by omega⟩⟩))⟩

/-- What is read of a run is one. -/
theorem runRes_one {l : List Nat} {t r room : Nat} {X E X2 E2 : Int} {t' t2 r' r2 : Nat} (h : RunRes l t r room X E t' r') (h2 : RunRes l t r room X2 E2 t2 r2) : X = X2 ∧ E = E2 ∧ t' = t2 ∧ r' = r2 := by
  rcases runRes_ok h with ⟨rfl, n, rfl, hn, rfl, hle, rfl, hb⟩ | ⟨hE, rfl, rfl⟩
  · obtain ⟨rfl, rfl, rfl, rfl⟩ := runRes_form h2 hn hle hb
    exact ⟨rfl, rfl, rfl, rfl⟩
  · rcases runRes_ok h2 with ⟨rfl, n, rfl, hn, rfl, hle, rfl, hb⟩ | ⟨hE2, rfl, rfl⟩
    · obtain ⟨rfl, rfl, e3, e4⟩ := runRes_form h hn hle hb
      rcases hE with h | h <;> cases h
    · obtain ⟨rfl, _⟩ := runRes_err h (by rcases hE with h | h <;> rw [h] <;> decide)
      obtain ⟨rfl, _⟩ := runRes_err h2 (by rcases hE2 with h | h <;> rw [h] <;> decide)
      refine ⟨rfl, ?_, rfl, rfl⟩
      obtain ⟨i, ho, hS, hti, hc⟩ := h
      obtain ⟨j, go, gS, gti, gc⟩ := h2
      rcases hE with rfl | rfl
      · rcases hE2 with rfl | rfl
        · rfl
        · exfalso
          rcases hc with ⟨_, _, h, _⟩ | ⟨_, _, _, _, _, h, _⟩ | ⟨_, _, _, _, _, _, h, _⟩ | ⟨_, _, _, _, _, hc⟩ | ⟨_, _, _, _, _, h, _⟩
          · cases h
          · cases h
          · cases h
          · rcases gc with ⟨_, _, h, _⟩ | ⟨_, _, _, _, _, h, _⟩ | ⟨_, _, _, _, _, _, h, _⟩ | ⟨_, _, _, _, h, _⟩ | ⟨_, g1, _, _, _, _, g2, g3, g4⟩
            · cases h
            · cases h
            · cases h
            · cases h
            · rcases hc with hc | ⟨h1, h2, h3⟩
              · rcases Nat.lt_trichotomy i j with e | e | e
                · omega
                · omega
                · have := ho j e; omega
              · rcases Nat.lt_trichotomy i j with e | e | e
                · have := go i e; omega
                · subst e; omega
                · have := ho j e; omega
          · cases h
      · rcases hE2 with rfl | rfl
        · exfalso
          rcases gc with ⟨_, _, h, _⟩ | ⟨_, _, _, _, _, h, _⟩ | ⟨_, _, _, _, _, _, h, _⟩ | ⟨_, _, _, _, _, gc⟩ | ⟨_, _, _, _, _, h, _⟩
          · cases h
          · cases h
          · cases h
          · rcases hc with ⟨_, _, h, _⟩ | ⟨_, _, _, _, _, h, _⟩ | ⟨_, _, _, _, _, _, h, _⟩ | ⟨_, _, _, _, h, _⟩ | ⟨_, g1, _, _, _, _, g2, g3, g4⟩
            · cases h
            · cases h
            · cases h
            · cases h
            · rcases gc with gc | ⟨h1, h2, h3⟩
              · rcases Nat.lt_trichotomy i j with e | e | e
                · have := go i e; omega
                · omega
                · omega
              · rcases Nat.lt_trichotomy i j with e | e | e
                · have := go i e; omega
                · subst e; omega
                · have := ho j e; omega
          · cases h
        · rfl

/-- There is always something that Get of a run comes to. -/
theorem runRes_ex (l : List Nat) (t r room : Nat) (ht : t ≤ 8 * l.length) : ∃ X E t' r', RunRes l t r room X E t' r' := by
  have go : ∀ n, ∃ i, i ≤ n ∧ (∀ a, a < i → nextN l (t + a) 1 = 1) ∧ S r i ≤ room ∧ t + i ≤ 8 * l.length ∧ (i = n ∨ S r i = room ∨ t + i = 8 * l.length ∨ nextN l (t + i) 1 = 0 ∨ room < S r (i + 1)) := by
    intro n
    induction n with
    | zero => exact ⟨0, Nat.le_refl _, fun a ha => by omega, Nat.zero_le _, by omega, .inl rfl⟩
    | succ n ih =>
      obtain ⟨i, h1, h2, h3, h4, h5⟩ := ih
      rcases h5 with rfl | h5
      · by_cases e1 : S r i = room
        · exact ⟨i, by omega, h2, h3, h4, .inr (.inl e1)⟩
        · by_cases e2 : t + i = 8 * l.length
          · exact ⟨i, by omega, h2, h3, h4, .inr (.inr (.inl e2))⟩
          · have hb := bit_lt l (t + i)
            by_cases e3 : nextN l (t + i) 1 = 0
            · exact ⟨i, by omega, h2, h3, h4, .inr (.inr (.inr (.inl e3)))⟩
            · by_cases e4 : room < S r (i + 1)
              · exact ⟨i, by omega, h2, h3, h4, .inr (.inr (.inr (.inr e4)))⟩
              · refine ⟨i + 1, Nat.le_refl _, fun a ha => ?_, by omega, by omega, .inl rfl⟩
                by_cases e : a = i
                · subst e; omega
                · exact h2 a (by omega)
      · exact ⟨i, by omega, h2, h3, h4, .inr h5⟩
  obtain ⟨i, _, h2, h3, h4, h5⟩ := go (room + 1)
  by_cases e1 : S r i = room
  · exact ⟨_, _, _, _, i, h2, h3, h4, .inl ⟨e1, rfl, rfl, rfl, rfl⟩⟩
  · have e1' : S r i < room := by omega
    by_cases e2 : t + i = 8 * l.length
    · exact ⟨_, _, _, _, i, h2, h3, h4, .inr (.inr (.inr (.inl ⟨e1', rfl, rfl, rfl, rfl, .inl e2⟩)))⟩
    · have hb := bit_lt l (t + i)
      by_cases e3 : nextN l (t + i) 1 = 0
      · by_cases e5 : t + i + 1 + J (ri r i) ≤ 8 * l.length
        · by_cases e6 : S r i + nextN l (t + i + 1) (J (ri r i)) < room
          · exact ⟨_, _, _, _, i, h2, h3, h4, .inr (.inr (.inl ⟨e1', by omega, e3, e5, e6, rfl, rfl, rfl, rfl⟩))⟩
          · exact ⟨_, _, _, _, i, h2, h3, h4, .inr (.inr (.inr (.inr ⟨e1', by omega, rfl, rfl, rfl, rfl, e3, e5, by omega⟩)))⟩
        · exact ⟨_, _, _, _, i, h2, h3, h4, .inr (.inr (.inr (.inl ⟨e1', rfl, rfl, rfl, rfl, .inr ⟨by omega, e3, by omega⟩⟩)))⟩
      · have e3' : nextN l (t + i) 1 = 1 := by omega
        have e4 : room < S r (i + 1) := by
          rcases h5 with h5 | h5 | h5 | h5 | h5
          · have := S_ge r i; omega
          · exact absurd h5 e1
          · exact absurd h5 e2
          · exact absurd h5 e3
          · exact h5
        exact ⟨_, _, _, _, i, h2, h3, h4, .inr (.inl ⟨e1', by omega, e3', e4, rfl, rfl, rfl, rfl⟩)⟩
end Go.Proofs.YthkpligodbkofaaGreatDoor
