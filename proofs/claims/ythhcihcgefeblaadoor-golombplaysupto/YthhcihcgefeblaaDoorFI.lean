import Derived.Test.YthhcihcgefeblaaDoorFH
import Derived.Test.YthhcihcgefeblaaDoorGc
import Derived.Lib.SlBytesConst
namespace Go.Proofs.YthhcihcgefeblaaDoor
open Go.RowKit

/-- A World in which nothing stands. -/
def wo0 : Wo := { c := fun _ => 0, B := fun _ _ => 0, V := fun _ _ => .slice none 0 0, N := fun _ _ => 0, len := fun _ _ => 0, g := fun _ => 0, l := fun _ _ => [], t := fun _ _ => 0, r := fun _ _ => 0, S := fun _ => .slice none 0 0, m := 0, X := fun _ => obj 0 (.cells #[] 0 (0, 0)) }
theorem alike0 : Alike wo0 := ⟨rfl, rfl, rfl, fun _ => rfl, fun _ => rfl, fun _ => rfl, fun _ => rfl, fun _ => rfl⟩
theorem small0 : Small wo0 0 := ⟨fun _ => Nat.zero_le _, fun _ => Nat.le_refl _, fun _ => Nat.zero_le _⟩

theorem At.start {W w : World} (hk : Kept [] W w) : At W (w.alloc (.cells #[.slice none 0 0, .slice none 0 0, .slice none 0 0, .slice none 0 0, .slice none 0 0, .slice none 0 0] 32)) w.heap.size wo0 := by
  have hD : ∀ j, wo0.D j → (j.1 = 6 ∧ j.2 < 6) ∨ j = (7, 0) := by
    rintro ⟨a, b⟩ (⟨_, h⟩ | ⟨h1, h2⟩ | ⟨h1, h2⟩ | ⟨_, h⟩)
    · exact absurd h (Nat.not_lt_zero _)
    · exact .inl ⟨h1, h2⟩
    · simp at h1 h2; subst h1; subst h2; exact .inr rfl
    · exact absurd h (Nat.not_lt_zero _)
  have hF : ∀ k, (wo0.R w.heap.size (6, k)).F = [] := fun k => rfl
  refine ⟨hk.alloc _, fun j hj => ?_, fun j hj => ?_, fun i j hi hj hne => ?_⟩
  · rcases hD j hj with ⟨h1, h2⟩ | rfl
    · obtain ⟨a, b⟩ := j
      simp at h1
      subst h1
      show World.ownsRow _ 0 (ety b) 1 (.slice none 0 0) 0 []
      exact World.ownsRow_nil _ _ _ _
    · exact heap_alloc_new w _
  · rcases hD j hj with ⟨h1, h2⟩ | rfl
    · obtain ⟨a, b⟩ := j
      simp at h1
      subst h1
      rw [hF]; simp
    · intro x hx
      have hx : x ∈ [w.heap.size] := hx
      simp at hx
      subst hx
      exact hk.size
  · rcases hD i hi with ⟨h1, h2⟩ | rfl
    · obtain ⟨a, b⟩ := i
      simp at h1
      subst h1
      rw [hF]; simp
    · rcases hD j hj with ⟨h1, h2⟩ | rfl
      · obtain ⟨a, b⟩ := j
        simp at h1
        subst h1
        rw [hF]; simp
      · exact absurd rfl hne

/-- The World while it is set up. -/
structure Set0 (W w : World) (A : Nat) (s : Wo) (n : Nat) : Prop where
  at_ : At W w A s
  al : Alike s
  sm : Small s 0
  c : ∀ k, s.c k ≤ n

theorem Set0.add {W w w' : World} {A : Nat} {s : Wo} {n p : Nat} (h : Set0 W w A s n) (hn : n ≤ 100) (hp : p = 0 ∨ p = 2 ∨ p = 4) {B0 B1 : Nat} {S0 S1 V0 V1 : Value} {g g1 : Nat} {l : List Nat} (hl : l.length ≤ 10000000) (h' : At W w' A ((s.add p B0 S0 V0 g l).add (p + 1) B1 S1 V1 g1 l)) :
    ∃ s', Set0 W w' A s' (n + 1) ∧ (∀ k, s.c k ≤ s'.c k) ∧ 0 < s'.c p := by
  have hs : ∀ k, s.c k < 100000000 := fun k => by have := h.c k; omega
  refine ⟨_, ⟨h', alike_add h.al p hp B0 B1 S0 S1 V0 V1 g g1 l, small_add (small_add h.sm hs p B0 S0 V0 g l hl) (fun k => ?_) (p + 1) B1 S1 V1 g1 l hl, fun k => ?_⟩, fun k => ?_, ?_⟩
  · have := h.c k; have := h.c p; simp only [Wo.add]; split <;> omega
  · have := h.c k; have := h.c p; have := h.c (p + 1)
    simp only [Wo.add]
    repeat' split
    all_goals (try subst_vars)
    all_goals omega
  · simp only [Wo.add]
    repeat' split
    all_goals (try subst_vars)
    all_goals omega
  · simp [Wo.add]

theorem reads_gol (w : World) (fr : Nat × Nat) : Reads (w.alloc (.cells #[.int .u8 103, .int .u8 111, .int .u8 108, .int .u8 111, .int .u8 109, .int .u8 98] 5 fr)) (some ⟨w.heap.size, 0, none⟩) [103, 111, 108, 111, 109, 98] := .inr ⟨_, 0, rfl, fun i hi => by
  have hh := heap_alloc_new w (.cells #[.int .u8 103, .int .u8 111, .int .u8 108, .int .u8 111, .int .u8 109, .int .u8 98] 5 fr)
  have hi : i < 6 := hi
  rw [cell_of_row _ _ _ _ _ _ hh]
  rcases (by omega : i = 0 ∨ i = 1 ∨ i = 2 ∨ i = 3 ∨ i = 4 ∨ i = 5) with rfl | rfl | rfl | rfl | rfl | rfl <;> rfl⟩

set_option maxHeartbeats 8000000 in
set_option maxRecDepth 1000000 in
theorem plays_any (sa : Option Addr) (N cap : Nat) (kd on a bb cc : Nat → Int) (T : Nat → ByteArray) (w : World) (hT : Tab w) (hN : N ≤ 150000)
    (hcl : 0 < N → ∃ b off, sa = some ⟨b, off, none⟩ ∧ ∀ i, i < N → w.cell? ⟨b, off + i * 6, none⟩ = some (.int .i64 (kd i)) ∧ w.cell? ⟨b, off + i * 6 + 1, none⟩ = some (.int .i64 (on i)) ∧ w.cell? ⟨b, off + i * 6 + 2, none⟩ = some (.int .i64 (a i)) ∧ w.cell? ⟨b, off + i * 6 + 3, none⟩ = some (.int .i64 (bb i)) ∧ w.cell? ⟨b, off + i * 6 + 4, none⟩ = some (.int .i64 (cc i)) ∧ w.cell? ⟨b, off + i * 6 + 5, none⟩ = some (.string (T i)))
    (ho : ∀ i, i < N → -9223372036854775808 ≤ on i ∧ on i ≤ 9223372036854775807) (hu : ∀ i, i < N → -9223372036854775808 ≤ a i ∧ a i ≤ 9223372036854775807) (hTs : ∀ i, i < N → (T i).size ≤ 10000000) :
    Calls Tryd.prog 3 #[.slice sa N cap] w fun e w' => e = .returned (.bool true) ∧ Kept [] w w' := by
  have HT := Hid.mk hT
  have Hcl := Hid.mk hcl
  have Ho := Hid.mk ho
  have Hu := Hid.mk hu
  have HTs := Hid.mk hTs
  clear hT hcl ho hu hTs
  go_enter Tryd.func3, Tryd.ntmps3
  go_wp2_with (go_at_call 9; refine (awake_any _ HT.out).mono ?_; rintro e w1 ⟨rfl, hk1⟩; have HA0 := Hid.mk (Set0.mk (At.start hk1) alike0 small0 (fun _ => Nat.le_refl 0)); clear hk1)
  generalize w1.alloc (.cells #[.slice none 0 0, .slice none 0 0, .slice none 0 0, .slice none 0 0, .slice none 0 0, .slice none 0 0] 32) = w2 at *
  generalize w1.heap.size = A at *
  refine (writer_any w _ A _ HA0.out.at_ (Nat.zero_le _) (Nat.zero_le _)).mono ?_
  rintro e w3 ⟨rfl, B0, S0, B1, S1, h3⟩
  obtain ⟨s1, h1, hc1, p1⟩ := HA0.out.add (by omega) (p := 0) (.inl rfl) (by simp) h3
  have HA1 := Hid.mk h1
  clear h3 h1 hc1 HA0
  go_wp2_with fail
  have hcv := Lib.run_convert_bytes_const (P := Tryd.prog) w3 34 5 #[.int .u8 103, .int .u8 111, .int .u8 108, .int .u8 111, .int .u8 109, .int .u8 98] 6 6 Tryd.underlying34 Tryd.underlying5
  rw [hcv]
  have HA2 := Hid.mk (HA1.out.at_.rdl ((Kept.refl _ _).alloc _) (reads_gol w3 (6, 7)) (fun g off e => by simp at e; omega))
  clear hcv
  go_wp2_with fail
  refine (reader_any w _ A _ _ 6 _ s1.m [103, 111, 108, 111, 109, 98] HA2.out (Nat.lt_succ_self _) (by simp [Wo.rd]) (by unfold Byts; decide) rfl (by omega) (HA1.out.sm.c 2) (HA1.out.sm.c 3)).mono ?_
  rintro e w4 ⟨rfl, C0, U0, g, C1, U1, V1, h4⟩
  obtain ⟨s2, h2, hc2, p2⟩ := (Set0.mk HA2.out (alike_rd HA1.out.al) (small_rd HA1.out.sm) HA1.out.c).add (by omega) (p := 2) (.inr (.inl rfl)) (by simp) h4
  have q0 := hc2 0
  have HA3 := Hid.mk h2
  clear h4 h2 hc2 HA1 HA2
  go_wp2_with fail
  refine (coder_any w _ A _ HA3.out.at_ (HA3.out.sm.c 4) (HA3.out.sm.c 5)).mono ?_
  rintro e w5 ⟨rfl, D0, X0, D1, X1, h5⟩
  obtain ⟨s3, h3, hc3, p3⟩ := HA3.out.add (by omega) (p := 4) (.inr (.inr rfl)) (by simp) h5
  have r0 := hc3 0
  have r2 := hc3 2
  have HA4 := Hid.mk h3
  clear h5 h3 hc3 HA3
  go_wp2_with fail
  refine (coder_any w _ A _ HA4.out.at_ (HA4.out.sm.c 4) (HA4.out.sm.c 5)).mono ?_
  rintro e w6 ⟨rfl, F0, Y0, F1, Y1, h6⟩
  obtain ⟨s4, h4, hc4, p4⟩ := HA4.out.add (by omega) (p := 4) (.inr (.inr rfl)) (by simp) h6
  have t0 := hc4 0
  have t2 := hc4 2
  have HA5 := Hid.mk h4
  clear h6 h4 hc4 HA4
  have c0 : Hid (0 < s4.c 0) := Hid.mk (by have e : (s1.rd (some ⟨w3.heap.size, 0, none⟩) [103, 111, 108, 111, 109, 98]).c 0 = s1.c 0 := rfl
                                           omega)
  have c2 : Hid (0 < s4.c 2) := Hid.mk (by omega)
  have c4 : Hid (0 < s4.c 4) := Hid.mk p4
  clear p1 p2 p3 p4 q0 r0 r2 t0 t2
  go_wp2
  go_loopw [9, 10, 11] (fun s9 s10 s11 wr => ∃ (i : Nat) (s : Wo), i ≤ N ∧ s9 = .int .i64 (i : Int) ∧ At w wr A s ∧ Alike s ∧ Small s (50 * i) ∧ 0 < s.c 0 ∧ 0 < s.c 2 ∧ 0 < s.c 4 ∧ ∀ k, s.c k ≤ 4 + i) (fun s9 _ _ _ => (N : Int).toNat - (intOf s9).toNat)
  case atStart => exact ⟨0, s4, Nat.zero_le _, rfl, HA5.out.at_, HA5.out.al, HA5.out.sm, c0.out, c2.out, c4.out, HA5.out.c⟩
  case round =>
    obtain ⟨i, s, hi, rfl, h7, ha, hs, z0, z2, z4, hc⟩ := hrel
    have H7 := Hid.mk h7
    have Ha := Hid.mk ha
    have Hs := Hid.mk hs
    have Hc := Hid.mk hc
    clear h7 ha hs hc HA5 c0 c2 c4
    by_cases hlt : i < N
    · obtain ⟨b, off, rfl, hcs⟩ := Hcl.out (by omega)
      obtain ⟨q0, q1, q2, q3, q4, q5⟩ := hcs i hlt
      have hblk := H7.out.old.block b (World.block_lt_of_cell? w _ q0) (by simp)
      have r0 := (World.cell?_of_block (a := ⟨b, off + i * 6, none⟩) hblk).trans q0
      have r1 := (World.cell?_of_block (a := ⟨b, off + i * 6 + 1, none⟩) hblk).trans q1
      have r2 := (World.cell?_of_block (a := ⟨b, off + i * 6 + 2, none⟩) hblk).trans q2
      have r3 := (World.cell?_of_block (a := ⟨b, off + i * 6 + 3, none⟩) hblk).trans q3
      have r4 := (World.cell?_of_block (a := ⟨b, off + i * 6 + 4, none⟩) hblk).trans q4
      have r5 := (World.cell?_of_block (a := ⟨b, off + i * 6 + 5, none⟩) hblk).trans q5
      have i1 : (i : Int) < (N : Int) := by omega
      have Hoi := Hid.mk (Ho.out i hlt)
      have Hui := Hid.mk (Hu.out i hlt)
      have HTi := Hid.mk (HTs.out i hlt)
      generalize kd i = kdi at *
      generalize on i = oni at *
      generalize a i = ai at *
      generalize bb i = bbi at *
      generalize cc i = cci at *
      generalize T i = Ti at *
      clear hcs q0 q1 q2 q3 q4 q5 hblk
      go_wp2_with fail
      refine (step_any w _ A s (50 * i) kdi oni ai bbi cci Ti H7.out Ha.out Hs.out HT.out (fun k => by have := Hc.out k; omega) (by omega) z0 z2 z4 Hoi.out.1 Hoi.out.2 Hui.out.1 Hui.out.2 HTi.out).mono ?_
      rintro e w8 ⟨rfl, s', h8, ha8, hs8, y0, y2, y4, hc8⟩
      have H8 := Hid.mk h8
      have Ha8 := Hid.mk ha8
      have Hs8 := Hid.mk hs8
      have Hc8 := Hid.mk hc8
      clear h8 ha8 hs8 hc8 r0 r1 r2 r3 r4 r5 H7 Ha Hs
      go_wp2_with fail
      refine (same_any w _ A s' (50 * i + 50) H8.out Ha8.out Hs8.out (by omega)).mono ?_
      rintro e w9 ⟨rfl, hk9⟩
      have H9 := Hid.mk (H8.out.keep hk9)
      clear hk9 H8
      go_wp2
      go_roundw
      case rel => exact ⟨i + 1, s', by omega, by go_num, H9.out, Ha8.out, by rw [show 50 * (i + 1) = 50 * i + 50 by omega]; exact Hs8.out, by omega, by omega, by omega, fun k => by have := Hc.out k; have := Hc8.out k; omega⟩
      case measure => simp [intOf]; omega
    · have i2 : ¬ (i : Int) < (N : Int) := by omega
      have HK := Hid.mk H7.out.old
      clear H7
      go_wp2
      go_ret
      exact ⟨rfl, HK.out⟩
end Go.Proofs.YthhcihcgefeblaaDoor
