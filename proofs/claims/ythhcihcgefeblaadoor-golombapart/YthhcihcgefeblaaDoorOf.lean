import Derived.Test.YthhcihcgefeblaaDoorBk
namespace Go.Proofs.YthhcihcgefeblaaDoor
open Go.RowKit

theorem wrap_wd (W : Int) : IntKind.i64.wrap (2 ^ (wd W).toNat) = ((2 ^ (wd W).toNat : Nat) : Int) := by
  have h16 := pow16 (wd W) (wd_hi W)
  rw [pow_two_int]
  generalize 2 ^ (wd W).toNat = q at *
  simp only [IntKind.wrap, IntKind.bits, IntKind.signed]
  simp
  omega

set_option maxHeartbeats 1000000 in
theorem of_any (V K W : Int) (w : World) (v0 : -9223372036854775808 ≤ V) (v1 : V ≤ 9223372036854775807) (k0 : -9223372036854775808 ≤ K) (k1 : K ≤ 9223372036854775807) (w0 : -9223372036854775808 ≤ W) (w1 : W ≤ 9223372036854775807) :
    Calls Tryd.prog 19 #[.agg #[.int .i64 V, .int .i64 K, .int .i64 W]] w fun e w' => e = .returned (.tuple #[.int .i64 (vv V W), .int .i64 (kk K), .int .i64 (wd W)]) ∧ Kept [] w w' := by
  have p0 := pick_lo W 16 (by decide)
  have p1 := pick_hi W 16 (by decide)
  have Hp := Hid.mk (fun w => pick_any W 16 w w0 w1 (by decide))
  obtain ⟨p, hp⟩ : ∃ p, p = pick W 16 := ⟨_, rfl⟩
  rw [← hp] at Hp p0 p1
  have hD : 0 < IntKind.i64.wrap (2 ^ (1 + p).toNat) := by
    have h := wrap_wd W
    rw [wd, ← hp] at h
    rw [h]
    have := Nat.two_pow_pos (1 + p).toNat
    omega
  have Hfin : Hid (pick V (IntKind.i64.wrap (2 ^ (1 + p).toNat)) = vv V W ∧ pick K 16 = kk K ∧ 1 + p = wd W) := by
    refine ⟨?_, rfl, by rw [hp]; rfl⟩
    have h := wrap_wd W
    rw [vv, ← h, wd, hp]
  clear hp
  go_enter Tryd.func19, Tryd.ntmps19
  go_wp2_with (go_at_call 15; refine (Hp.out _).mono ?_; rintro e w2 ⟨rfl, rfl⟩)
  refine wp_gen (fun W1 => W1.heap[w.heap.size]? = some (.cells #[.int .i64 V, .int .i64 K, .int .i64 W] 49 (0, 0)) ∧ Kept [] w W1) ⟨?_, ?_⟩ ?_
  · rw [heap_alloc_new]
  · exact (Kept.refl _ _).alloc _
  intro W1 ⟨hA, hK⟩
  obtain ⟨a0, a1, a2, _⟩ := cells_three hA
  have HK := Hid.mk hK
  clear hA hK
  generalize w.heap.size = A at *
  go_quiet ((go_at_call 15; refine Calls.quiet_of_same (pick_any _ _ _ ?_ ?_ ?_); assumption; assumption; first | assumption | decide))
  go_wp2
  go_ret3
  obtain ⟨e1, e2, e3⟩ := Hfin.out
  rw [e1, e2, e3]
  exact ⟨rfl, HK.out.drewN _⟩

/-- The room and the length of a raw run. -/
def rmm (R : Int) : Int := 1 + pick R 4096
def nn (N R : Int) : Int := pick N (rmm R + 1)
theorem rmm_lo (R : Int) : 1 ≤ rmm R := by have := pick_lo R 4096 (by decide); unfold rmm; omega
theorem rmm_hi (R : Int) : rmm R ≤ 4096 := by have := pick_hi R 4096 (by decide); unfold rmm; omega
theorem nn_lo (N R : Int) : 0 ≤ nn N R := pick_lo N _ (by have := rmm_lo R; omega)
theorem nn_hi (N R : Int) : nn N R ≤ rmm R := by
  have h := pick_hi N (rmm R + 1) (by have := rmm_lo R; omega)
  unfold nn
  omega

set_option maxHeartbeats 1000000 in
theorem run_of_any (N R : Int) (w : World) (n0 : -9223372036854775808 ≤ N) (n1 : N ≤ 9223372036854775807) (r0 : -9223372036854775808 ≤ R) (r1 : R ≤ 9223372036854775807) :
    Calls Tryd.prog 29 #[.agg #[.int .i64 N, .int .i64 R]] w fun e w' => e = .returned (.tuple #[.int .i64 (nn N R), .int .i64 (rmm R)]) ∧ Kept [] w w' := by
  have p0 := pick_lo R 4096 (by decide)
  have p1 := pick_hi R 4096 (by decide)
  have hD : 0 < 1 + pick R 4096 + 1 := by omega
  go_enter Tryd.func29, Tryd.ntmps29
  go_wp2_with (go_at_call 15; refine (pick_any _ _ _ ?_ ?_ ?_).mono ?_; assumption; assumption; (first | assumption | omega); rintro e w2 ⟨rfl, rfl⟩)
  go_ret2
  exact ⟨rfl, (Kept.refl _ _).alloc _⟩
end Go.Proofs.YthhcihcgefeblaaDoor
