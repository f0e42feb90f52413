import Derived.Test.YtpfpmnlklhjggaaC8
namespace Go.Proofs.Ytpfpmnlklhjggaa
open Go.RowKit

theorem not_xor (u v : BitVec 32) : ~~~ u ^^^ v = ~~~ (u ^^^ v) := by
  ext i hi
  simp

theorem not_ones (u : BitVec 32) : ~~~ u = ~~~ 0#32 ^^^ u := by
  rw [not_xor, BitVec.zero_xor]

theorem sm_more (l k : List Nat) : mr (sm l) k = sm (l ++ k) := by
  have h : sm (l ++ k) = ~~~ adv (~~~ 0#32) (l ++ k) := rfl
  rw [h, adv_append]
  unfold sm mr
  rw [BitVec.not_not]

theorem sm_join (l k : List Nat) (n : Nat) (hn : k.length = n) : jn (sm l) (sm k) n = sm (l ++ k) := by
  have h1 : sm (l ++ k) = ~~~ adv (~~~ 0#32) (l ++ k) := rfl
  have h2 : sm k = ~~~ adv (~~~ 0#32) k := rfl
  have h3 : sm l = ~~~ adv (~~~ 0#32) l := rfl
  rw [h1, h2, h3, adv_append, adv_state _ k, adv_state (adv (~~~ 0#32) l) k, jn, hn, not_ones (adv (~~~ 0#32) l), X_xor, not_xor]
  congr 1
  rw [BitVec.xor_comm (X (8 * n) (~~~ 0#32)) (adv 0#32 k), BitVec.xor_assoc, xor_twice, BitVec.xor_comm]

theorem sm_nil : nm (sm []) = 0 := by decide +kernel
theorem mr_nil (s : BitVec 32) : mr s [] = s := by unfold mr; rw [adv_nil, BitVec.not_not]

theorem join_at (a b : BitVec 32) (N : Int) (n : Nat) (w : World) (h : N = (n : Int)) (hn : n ≤ 9223372036854775807) :
    Calls Try.prog 13 #[.int .u32 (nm a), .int .u32 (nm b), .int .i64 N] w fun e w' => e = .returned (.tuple #[.int .u32 (nm (jn a b n)), .int .i64 0]) ∧ w' = w := by
  subst h; exact join_any a b n w hn

set_option maxHeartbeats 4000000 in
set_option maxRecDepth 1000000 in
theorem parts_any (ao bo co : Option Addr) (ca cb cc m n q : Nat) (l k p : List Nat) (w : World) (hr : Reads w ao l) (hs : Reads w bo k) (ht : Reads w co p) (bl : Byts l) (bk : Byts k) (bp : Byts p) (hm : l.length = m) (hn : k.length = n) (hq : p.length = q)
    (za : ao = none → ca = 0) (zb : bo = none → cb = 0) (zc : co = none → cc = 0) (hl : m + n + q ≤ 140737488355328) :
    Calls Try.prog 5 #[.slice ao m ca, .slice bo n cb, .slice co q cc] w fun e w' => e = .returned (.bool true) ∧ Kept [] w w' := by
  have hq1 : m ≤ 9223372036854775807 := by omega
  have hq2 : n ≤ 9223372036854775807 := by omega
  have hq3 : q ≤ 9223372036854775807 := by omega
  go_enter Try.func5, Try.ntmps5
  go_wp2_with (go_at_call 9; refine (shown_any _).mono ?_; rintro e w1 ⟨rfl, hk1⟩)
  have Hk := Hid.mk hk1
  replace hr := hr.keep hk1
  replace hs := hs.keep hk1
  replace ht := ht.keep hk1
  clear hk1
  have blk : Byts (l ++ k) := fun x hx => (List.mem_append.1 hx).elim (bl x) (bk x)
  have blkp : Byts (l ++ k ++ p) := fun x hx => (List.mem_append.1 hx).elim (blk x) (bp x)
  have hlk : (l ++ k).length = m + n := by rw [List.length_append, hm, hn]
  have hlkp : (l ++ k ++ p).length = m + n + q := by rw [List.length_append, hlk, hq]
  have hbig : m + n + q ≤ 9223372036854775807 := by omega
  go_wp2_with (go_at_call 15; refine (sum_any _ _ _ ?_ _ ?_ ?_ ?_ ?_).mono ?_; rotate_left; assumption; assumption; assumption; assumption; rintro e w2 ⟨rfl, hk2⟩; replace hr := hr.keep hk2; replace hs := hs.keep hk2; replace ht := ht.keep hk2; replace Hk := Hid.mk (Hk.out.trans hk2); clear hk2)
  refine (both_any _ _ _ _ _ _ l k _ hr hs hm hn za zb (by omega)).mono ?_
  rintro e w3 ⟨xo, cx, rfl, hx, zx, hk3⟩
  replace hs := hs.keep hk3
  replace ht := ht.keep hk3
  replace Hk := Hid.mk (Hk.out.trans hk3)
  clear hk3 hr
  go_wp2_with (go_at_call 16; refine (both_any _ _ _ _ _ _ (l ++ k) p _ hx ht hlk hq zx zc (by omega)).mono ?_; rintro e w4 ⟨yo, cy, rfl, hy, zy, hk4⟩)
  replace hs := hs.keep hk4
  replace ht := ht.keep hk4
  replace Hk := Hid.mk (Hk.out.trans hk4)
  clear hk4 hx zx zy
  refine (sum_any _ _ _ (l ++ k ++ p) _ hy blkp hlkp hbig).mono ?_
  rintro e w5 ⟨rfl, hk5⟩
  replace hs := hs.keep hk5
  replace ht := ht.keep hk5
  replace Hk := Hid.mk (Hk.out.trans hk5)
  clear hk5 hy
  have j1 := sm_join l k n hn
  have j2 := sm_join (l ++ k) p q hq
  have j3 := sm_join k p q hq
  have j4 := sm_join l (k ++ p) (n + q) (by rw [List.length_append, hn, hq])
  have m1 := sm_more l k
  have m2 := sm_more (l ++ k) p
  rw [← List.append_assoc] at j4
  obtain ⟨A, hA⟩ : ∃ A, A = sm l := ⟨_, rfl⟩
  obtain ⟨B, hB⟩ : ∃ B, B = sm k := ⟨_, rfl⟩
  obtain ⟨C, hC⟩ : ∃ C, C = sm p := ⟨_, rfl⟩
  obtain ⟨D, hD⟩ : ∃ D, D = sm (l ++ k) := ⟨_, rfl⟩
  obtain ⟨E, hE⟩ : ∃ E, E = sm (k ++ p) := ⟨_, rfl⟩
  obtain ⟨F, hF⟩ : ∃ F, F = sm (l ++ k ++ p) := ⟨_, rfl⟩
  rw [← hA, ← hB, ← hD] at j1
  rw [← hD, ← hC, ← hF] at j2
  rw [← hB, ← hC, ← hE] at j3
  rw [← hA, ← hE, ← hF] at j4
  rw [← hA, ← hD] at m1
  rw [← hD, ← hF] at m2
  rw [← hA, ← hB, ← hC, ← hF]
  have HN : Hid ((n : Int) + (q : Int) = ((n + q : Nat) : Int)) := Hid.mk (by omega)
  have hnq : n + q ≤ 9223372036854775807 := by omega
  clear hA hB hC hD hE hF blk blkp hlk hlkp
  go_wp2_with (first
    | (go_at_call 17; refine (more_any _ _ _ ?_ _ _ ?_ ?_ ?_ ?_).mono ?_; rotate_left; assumption; assumption; assumption; assumption; rintro e w6 ⟨rfl, hk6⟩; replace hs := hs.keep hk6; replace ht := ht.keep hk6; replace Hk := Hid.mk (Hk.out.trans hk6); clear hk6)
    | (go_at_call 13; refine (join_at _ _ _ ?_ _ ?_ ?_).mono ?_; rotate_left; (first | exact HN.out | rfl); assumption; rintro e w7 ⟨rfl, rfl⟩))
  have z0 := sm_nil
  have z1 := mr_nil A
  refine (sum_any none 0 0 [] _ (.inl rfl) (fun b hb => nomatch hb) rfl (by omega)).mono ?_
  rintro e w8 ⟨rfl, hk8⟩
  replace Hk := Hid.mk (Hk.out.trans hk8)
  clear hk8
  go_wp2_with (go_at_call 17; refine (more_any none 0 0 [] A _ (.inl rfl) (fun b hb => nomatch hb) rfl (by omega)).mono ?_; rintro e w9 ⟨rfl, hk9⟩)
  go_ret
  exact ⟨rfl, Hk.out.trans hk9⟩
end Go.Proofs.Ytpfpmnlklhjggaa
