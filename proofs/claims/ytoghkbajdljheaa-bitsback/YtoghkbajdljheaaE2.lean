import Derived.Test.YtoghkbajdljheaaE
namespace Go.Proofs.Ytoghkbajdljheaa
open Go.RowKit

set_option maxHeartbeats 1000000 in
set_option maxRecDepth 1000000 in
theorem back_zero (ao : Option Addr) (cap : Nat) (w : World) :
    Calls Try.prog 6 #[.slice ao 0 cap] w fun e w' => e = .returned (.bool true) ∧ Kept [] w w' := by
  go_enter Try.func6, Try.ntmps6
  go_wp2_with (first
    | (go_at_call 9; refine (alive_any _).mono ?_; rintro e w1 ⟨rfl, hk1⟩)
    | (go_at_call 10; refine (newWriter_any _).mono ?_; rintro e w2 ⟨rfl, rfl⟩))
  refine wp_loop_rounds 1 ?_
  rw [rounds_succ]
  go_wp2_with fail
  refine (bytes_any _ _ _ _ _ (newWriter_at w1) (by decide)).mono ?_
  rintro e w5 ⟨rfl, hr5, hk5⟩
  have hrd := heap_reads hr5
  have hK5 := (hk1.alloc (.cells #[.slice none 0 0, .int .u64 0, .int .i64 0] 76)).trans hk5
  have HK5 := Hid.mk hK5
  clear hk5 hK5 hr5 hk1
  go_wp2_with fail
  refine (newReader_any _ _ 0 [] _ (.inl rfl) (by simp [Byts]) rfl (by decide)).mono ?_
  rintro e w6 ⟨B, g, rfl, hB, hg, hR, hk6⟩
  have HR := Hid.mk hR
  have HK6 := Hid.mk (HK5.out.trans hk6)
  clear hR hk6 HK5 hrd hB hg
  go_wp2_with (go_at_call 27; refine (left_any _ _ _ _ _ HR.out).mono ?_; rintro e w7 ⟨rfl, q7, rfl⟩)
  refine wp_loop_rounds 1 ?_
  rw [rounds_succ]
  go_wp2_with (go_at_call 29; refine (rest_ok _ _ _ _ _ (reader_drewN HR.out _) (by simp) (by simp [nextN, num])).mono ?_; rintro e w8 ⟨rfl, q8, rfl⟩)
  go_ret
  exact ⟨rfl, HK6.out.drewN _⟩
end Go.Proofs.Ytoghkbajdljheaa
