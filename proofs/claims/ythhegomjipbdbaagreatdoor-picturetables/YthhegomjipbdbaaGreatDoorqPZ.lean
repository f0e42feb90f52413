import Derived.Test.YthhegomjipbdbaaGreatDoorpKZ
import Derived.Test.YthhegomjipbdbaaGreatDoorqE
import Derived.Test.YthhegomjipbdbaaGreatDoorwA
import Derived.Test.YthhegomjipbdbaaGreatDoorpYZ
import Derived.Laws.StructEq
namespace Go.Proofs.YthhegomjipbdbaaGreatDoor.Pc
open Go.RowKit

theorem nb_at (a b : List Nat) (k X s : Nat) (ha : a.length = s) (hX : X < 256 ^ k) : nb (a ++ (big k X ++ b)) s k = X := by
  subst ha
  unfold nb
  rw [List.drop_left, List.take_left' (big_length ..), num_big, Nat.mod_eq_of_lt hX]
theorem nb_fld (f1 f2 : List (Nat × Nat)) (X k s : Nat) (t : List Nat) (ha : (fds f1).length = s) (hX : X < 256 ^ k) : nb (fds (f1 ++ (X, k) :: f2) ++ t) s k = X := by
  rw [fds_app]
  show nb ((fds f1 ++ (big k X ++ fds f2)) ++ t) s k = X
  rw [List.append_assoc, List.append_assoc]
  exact nb_at _ _ _ _ _ ha hX
/-- What the bytes of a head say. -/
theorem hd_told (W H D sw sh : Nat) (A : Bool) (r : Nat → Nat) (N p ln : Nat) (t : List Nat) (hW : W < 65536) (hH : H < 65536) (hD : D < 256) (hsw : sw < 65536) (hsh : sh < 65536) (hr : ∀ i, i < 4 → r i < 256) (hN : N < 4294967296) (hp : p < 256) (hln : ln < 4294967296) :
    (nb (hdB W H D sw sh A r N p ln ++ t) 4 2 = W ∧ nb (hdB W H D sw sh A r N p ln ++ t) 6 2 = H ∧ nb (hdB W H D sw sh A r N p ln ++ t) 8 1 = D ∧ nb (hdB W H D sw sh A r N p ln ++ t) 9 1 = (if A then 1 else 0)) ∧
    (nb (hdB W H D sw sh A r N p ln ++ t) 10 2 = sw ∧ nb (hdB W H D sw sh A r N p ln ++ t) 12 2 = sh) ∧
    (nb (hdB W H D sw sh A r N p ln ++ t) 14 1 = r 0 ∧ nb (hdB W H D sw sh A r N p ln ++ t) 15 1 = r 1 ∧ nb (hdB W H D sw sh A r N p ln ++ t) 16 1 = r 2 ∧ nb (hdB W H D sw sh A r N p ln ++ t) 17 1 = r 3) ∧
    nb (hdB W H D sw sh A r N p ln ++ t) 18 4 = N ∧ nb (hdB W H D sw sh A r N p ln ++ t) 22 1 = p ∧ nb (hdB W H D sw sh A r N p ln ++ t) 24 4 = ln := by
  unfold hdB
  rw [List.append_assoc]
  generalize big 4 (s4 (fds (hdF W H D sw sh A r N p ln))) ++ t = u
  have r0 := hr 0 (by omega)
  have r1 := hr 1 (by omega)
  have r2 := hr 2 (by omega)
  have r3 := hr 3 (by omega)
  have hA : (if A then 1 else 0 : Nat) < 256 := by split <;> decide
  refine ⟨⟨?_, ?_, ?_, ?_⟩, ⟨?_, ?_⟩, ⟨?_, ?_, ?_, ?_⟩, ?_, ?_, ?_⟩
  · exact nb_fld [(1145854257, 4)] [(H, 2), (D, 1), (if A then 1 else 0, 1), (sw, 2), (sh, 2), (r 0, 1), (r 1, 1), (r 2, 1), (r 3, 1), (N, 4), (p, 1), (0, 1), (ln, 4)] W 2 4 u (by simp [fds, big_length]) hW
  · exact nb_fld [(1145854257, 4), (W, 2)] [(D, 1), (if A then 1 else 0, 1), (sw, 2), (sh, 2), (r 0, 1), (r 1, 1), (r 2, 1), (r 3, 1), (N, 4), (p, 1), (0, 1), (ln, 4)] H 2 6 u (by simp [fds, big_length]) hH
  · exact nb_fld [(1145854257, 4), (W, 2), (H, 2)] [(if A then 1 else 0, 1), (sw, 2), (sh, 2), (r 0, 1), (r 1, 1), (r 2, 1), (r 3, 1), (N, 4), (p, 1), (0, 1), (ln, 4)] D 1 8 u (by simp [fds, big_length]) hD
  · exact nb_fld [(1145854257, 4), (W, 2), (H, 2), (D, 1)] [(sw, 2), (sh, 2), (r 0, 1), (r 1, 1), (r 2, 1), (r 3, 1), (N, 4), (p, 1), (0, 1), (ln, 4)] (if A then 1 else 0) 1 9 u (by simp [fds, big_length]) hA
  · exact nb_fld [(1145854257, 4), (W, 2), (H, 2), (D, 1), (if A then 1 else 0, 1)] [(sh, 2), (r 0, 1), (r 1, 1), (r 2, 1), (r 3, 1), (N, 4), (p, 1), (0, 1), (ln, 4)] sw 2 10 u (by simp [fds, big_length]) hsw
  · exact nb_fld [(1145854257, 4), (W, 2), (H, 2), (D, 1), (if A then 1 else 0, 1), (sw, 2)] [(r 0, 1), (r 1, 1), (r 2, 1), (r 3, 1), (N, 4), (p, 1), (0, 1), (ln, 4)] sh 2 12 u (by simp [fds, big_length]) hsh
  · exact nb_fld [(1145854257, 4), (W, 2), (H, 2), (D, 1), (if A then 1 else 0, 1), (sw, 2), (sh, 2)] [(r 1, 1), (r 2, 1), (r 3, 1), (N, 4), (p, 1), (0, 1), (ln, 4)] (r 0) 1 14 u (by simp [fds, big_length]) r0
  · exact nb_fld [(1145854257, 4), (W, 2), (H, 2), (D, 1), (if A then 1 else 0, 1), (sw, 2), (sh, 2), (r 0, 1)] [(r 2, 1), (r 3, 1), (N, 4), (p, 1), (0, 1), (ln, 4)] (r 1) 1 15 u (by simp [fds, big_length]) r1
  · exact nb_fld [(1145854257, 4), (W, 2), (H, 2), (D, 1), (if A then 1 else 0, 1), (sw, 2), (sh, 2), (r 0, 1), (r 1, 1)] [(r 3, 1), (N, 4), (p, 1), (0, 1), (ln, 4)] (r 2) 1 16 u (by simp [fds, big_length]) r2
  · exact nb_fld [(1145854257, 4), (W, 2), (H, 2), (D, 1), (if A then 1 else 0, 1), (sw, 2), (sh, 2), (r 0, 1), (r 1, 1), (r 2, 1)] [(N, 4), (p, 1), (0, 1), (ln, 4)] (r 3) 1 17 u (by simp [fds, big_length]) r3
  · exact nb_fld [(1145854257, 4), (W, 2), (H, 2), (D, 1), (if A then 1 else 0, 1), (sw, 2), (sh, 2), (r 0, 1), (r 1, 1), (r 2, 1), (r 3, 1)] [(p, 1), (0, 1), (ln, 4)] N 4 18 u (by simp [fds, big_length]) hN
  · exact nb_fld [(1145854257, 4), (W, 2), (H, 2), (D, 1), (if A then 1 else 0, 1), (sw, 2), (sh, 2), (r 0, 1), (r 1, 1), (r 2, 1), (r 3, 1), (N, 4)] [(0, 1), (ln, 4)] p 1 22 u (by simp [fds, big_length]) hp
  · exact nb_fld [(1145854257, 4), (W, 2), (H, 2), (D, 1), (if A then 1 else 0, 1), (sw, 2), (sh, 2), (r 0, 1), (r 1, 1), (r 2, 1), (r 3, 1), (N, 4), (p, 1), (0, 1)] [] ln 4 24 u (by simp [fds, big_length]) hln

/-- Head of bytes that begin with a head that may be. -/
theorem head_of (W H D sw sh : Nat) (A : Bool) (r : Nat → Nat) (N p ln : Nat) (t : List Nat) (hW : W < 65536) (hH : H < 65536) (hD : D < 256) (hsw : sw < 65536) (hsh : sh < 65536) (hr : ∀ i, i < 4 → r i < 256) (hN : N < 4294967296) (hp : p < 256) (hln : ln < 4294967296)
    (hR : rgt (W : Int) (H : Int) (D : Int) A (sw : Int) (sh : Int) (fun i => (r i : Int)) (N : Int) (p : Int) (ln : Int) = true) (ht : Byts t)
    (g off cap m : Nat) (w : World) (hrd : Reads w (some ⟨g, off, none⟩) (hdB W H D sw sh A r N p ln ++ t)) (hm : 32 + t.length = m) (hc : m ≤ cap) (hcap : cap ≤ 9223372036854775807) :
    Calls Tryz.prog 23 #[.slice (some ⟨g, off, none⟩) m cap] w fun e w' => e = .returned (.tuple #[hvv (W : Int) (H : Int) (D : Int) A (sw : Int) (sh : Int) (fun i => (r i : Int)) (N : Int) (p : Int) (ln : Int), .int .i64 0]) ∧ Kept [] w w' := by
  obtain ⟨⟨a1, a2, a3, a4⟩, ⟨b1, b2⟩, ⟨c0, c1, c2, c3⟩, d1, d2, d3⟩ := hd_told W H D sw sh A r N p ln t hW hH hD hsw hsh hr hN hp hln
  have hAA : (!(((nb (hdB W H D sw sh A r N p ln ++ t) 9 1 : Nat) : Int) == 0)) = A := by rw [a4]; cases A <;> rfl
  have hby : Byts (hdB W H D sw sh A r N p ln ++ t) := fun b hb => by
    rcases List.mem_append.1 hb with h | h
    · unfold hdB at h
      rcases List.mem_append.1 h with h | h
      · exact fds_byts _ b h
      · exact big_lt _ _ b h
    · exact ht b h
  have hlen : (hdB W H D sw sh A r N p ln ++ t).length = m := by rw [List.length_append, hdB_len]; exact hm
  have hrt : rtl (hdB W H D sw sh A r N p ln ++ t) = true := by
    unfold rtl
    rw [a1, a2, a3, hAA, b1, b2, d1, d2, d3, ← hR]
    unfold rgt rmb
    simp only [Nat.add_zero, Nat.reduceAdd, c0, c1, c2, c3]
  have hth : thB (hdB W H D sw sh A r N p ln ++ t) = hdB W H D sw sh A r N p ln := by
    unfold thB
    rw [a1, a2, a3, hAA, b1, b2, d1, d2, d3]
    unfold hdB hdF
    simp only [Nat.add_zero, Nat.reduceAdd]
    have e0 := c0
    have e1 := c1
    have e2 := c2
    have e3 := c3
    unfold hdB hdF at e0 e1 e2 e3
    rw [e0, e1, e2, e3]
  have htk : (hdB W H D sw sh A r N p ln ++ t).take 32 = hdB W H D sw sh A r N p ln := List.take_left' (hdB_len ..)
  have hok1 : hok (hdB W H D sw sh A r N p ln ++ t) = true := by
    unfold hok
    rw [hrt, hth, htk]
    simp
  have h := head_yes g off cap m (hdB W H D sw sh A r N p ln ++ t) w hrd hby hlen hc hcap (by omega) hrt
  rw [if_pos hok1] at h
  have hv : tldv (hdB W H D sw sh A r N p ln ++ t) = hvv (W : Int) (H : Int) (D : Int) A (sw : Int) (sh : Int) (fun i => (r i : Int)) (N : Int) (p : Int) (ln : Int) := by
    unfold tldv hvv
    rw [a1, a2, a3, hAA, b1, b2, d1, d2, d3]
    simp only [Nat.add_zero, Nat.reduceAdd, c0, c1, c2, c3]
  rw [hv] at h
  exact h

set_option maxHeartbeats 8000000 in
set_option maxRecDepth 1000000 in
theorem tsize_ok (W H D : Int) (A : Bool) (sw sh : Int) (r : Nat → Int) (N p : Nat) (ln : Int) (w : World) (s0 : -9223372036854775808 ≤ sw) (s1 : sw ≤ 9223372036854775807) (hR : rgt W H D A sw sh r (N : Int) (p : Int) ln = true) (hN : N ≤ 70000) (hp : p ≤ 16) :
    Calls Tryz.prog 24 #[hvv W H D A sw sh r (N : Int) (p : Int) ln] w fun e w' => e = .returned (.int .i64 ((8 * N + 4 * p + 4 : Nat) : Int)) ∧ Kept [] w w' := by
  have C1 := Hid.mk (fun u => pright_any W H D A sw sh r (N : Int) (p : Int) ln u s0 s1)
  rw [hR] at C1
  have C2 := Hid.mk (fun u => ptz_any N p u (by omega) (by omega))
  obtain ⟨T, eT⟩ : ∃ T, 8 * N + 4 * p + 4 = T := ⟨_, rfl⟩
  rw [eT] at C2 ⊢
  obtain ⟨r0, er0⟩ : ∃ x, r 0 = x := ⟨_, rfl⟩
  obtain ⟨r1, er1⟩ : ∃ x, r 1 = x := ⟨_, rfl⟩
  obtain ⟨r2, er2⟩ : ∃ x, r 2 = x := ⟨_, rfl⟩
  obtain ⟨r3, er3⟩ : ∃ x, r 3 = x := ⟨_, rfl⟩
  have e9 : hvv W H D A sw sh r (N : Int) (p : Int) ln = .agg #[.int .i64 W, .int .i64 H, .int .i64 D, .bool A, .int .i64 sw, .int .i64 sh, .int .i64 r0, .int .i64 r1, .int .i64 r2, .int .i64 r3, .int .i64 (N : Int), .int .i64 (p : Int), .int .i64 ln] := by unfold hvv; rw [er0, er1, er2, er3]
  rw [e9] at C1 ⊢
  obtain ⟨w1, e1⟩ : ∃ w1, w.alloc (.cells #[.int .i64 W, .int .i64 H, .int .i64 D, .bool A, .int .i64 sw, .int .i64 sh, .int .i64 r0, .int .i64 r1, .int .i64 r2, .int .i64 r3, .int .i64 (N : Int), .int .i64 (p : Int), .int .i64 ln] 27 (0, 0)) = w1 := ⟨_, rfl⟩
  obtain ⟨B, eB⟩ : ∃ B, w.heap.size = B := ⟨_, rfl⟩
  have K1 : Hid (Kept [] w w1) := Hid.mk (by rw [← e1]; exact (Kept.refl [] w).alloc _)
  have HB1 := Hid.mk (show w1.heap[B]? = some (.cells #[.int .i64 W, .int .i64 H, .int .i64 D, .bool A, .int .i64 sw, .int .i64 sh, .int .i64 r0, .int .i64 r1, .int .i64 r2, .int .i64 r3, .int .i64 (N : Int), .int .i64 (p : Int), .int .i64 ln] 27 (0, 0)) by rw [← e1, ← eB]; exact heap_alloc_new _ _)
  obtain ⟨h0, h1, h2, h3, h4, h5, h6, h7, h8, h9, h10, h11, h12⟩ := cel13 HB1.out
  clear hR er0 er1 er2 er3 e9 eT s0 s1
  go_enter Tryz.func24, Tryz.ntmps24
  go_wp2_with (fail)
  clear e1 eB
  refine (C1.out _).mono ?_
  rintro e w2 ⟨rfl, k2⟩
  have K2 := Hid.mk k2
  clear h0 h1 h2 h3 h4 h5 h6 h7 h8 h9 h10 h11 h12
  obtain ⟨h0, h1, h2, h3, h4, h5, h6, h7, h8, h9, h10, h11, h12⟩ := cel13 (k2.heap HB1.out (by simp))
  clear k2
  go_wp2_with (fail)
  refine (C2.out _).mono ?_
  rintro e w3 ⟨rfl, hw⟩
  obtain rfl := hw.symm
  go_wp2
  go_ret
  exact ⟨rfl, K1.out.trans K2.out⟩
end Go.Proofs.YthhegomjipbdbaaGreatDoor.Pc

namespace Go.Proofs.YthhegomjipbdbaaGreatDoor.Pc
open Go.RowKit

theorem cl_lo {a b : Int} (h1 : 1 ≤ a) (h3 : 16 ≤ b) : 1 ≤ Tl.cl a b := by
  unfold Tl.cl
  exact Int.le_ediv_of_mul_le (by omega) (by omega)
theorem cl_hi {a b : Int} (h2 : a ≤ 4096) (h3 : 16 ≤ b) : Tl.cl a b ≤ 256 := by
  unfold Tl.cl
  have := Int.ediv_lt_of_lt_mul (a := a + b - 1) (b := 257) (c := b) (by omega) (by omega)
  omega
theorem rgt_num {W H D : Int} {A : Bool} {sw sh : Int} {r : Nat → Int} {N p ln : Int} (h : rgt W H D A sw sh r N p ln = true) : ∃ n q : Nat, N = (n : Int) ∧ p = (q : Int) ∧ n ≤ 70000 ∧ q ≤ 16 := by
  unfold rgt at h
  simp only [Bool.and_eq_true, decide_eq_true_eq] at h
  obtain ⟨⟨⟨⟨⟨h1, _⟩, h3⟩, h4⟩, _⟩, _⟩ := h
  obtain ⟨a, b⟩ := nwE_zero h1
  have l1 := cl_lo a.1.1 b.1.1
  have l2 := cl_lo a.2.1.1 b.2.2.1
  have u1 := cl_hi a.1.2 b.1.1
  have u2 := cl_hi a.2.1.2 b.2.2.1
  unfold pmb at h4
  simp only [decide_eq_true_eq] at h4
  obtain ⟨x, ex⟩ := Int.eq_ofNat_of_zero_le (by omega : 0 ≤ Tl.cl W sw)
  obtain ⟨y, ey⟩ := Int.eq_ofNat_of_zero_le (by omega : 0 ≤ Tl.cl H sh)
  obtain ⟨q, eq⟩ := Int.eq_ofNat_of_zero_le h4.1.1
  rw [ex] at u1 h3
  rw [ey] at u2 h3
  have hxy : x * y ≤ 256 * 256 := Nat.mul_le_mul (by omega) (by omega)
  exact ⟨x * y, q, by rw [h3]; simp, eq, by omega, by omega⟩

theorem Tryz.infoCn : (Tryz.prog.info? 45).map (·.size) = some 5 := by kernel_rfl
theorem rung_eq9 (a0 a1 a2 a3 : Int) (w : World) : (Op.equalIn 9999 25 (.agg #[.int .i64 a0, .int .i64 a1, .int .i64 a2, .int .i64 a3]) (.agg #[.int .i64 a0, .int .i64 a1, .int .i64 a2, .int .i64 a3])).run Tryz.prog w = .ok true w := by
  obtain ⟨i, hi⟩ := Option.isSome_iff_exists.1 Tryz.infoI3
  rw [run_equalIn_array w 9998 _ _ Tryz.underlying25 hi]
  have hp : ∀ (j : Nat) (x : Int), (#[.int .i64 a0, .int .i64 a1, .int .i64 a2, .int .i64 a3] : Array Value)[j]? = some (.int .i64 x) → (part 3 #[.int .i64 a0, .int .i64 a1, .int .i64 a2, .int .i64 a3] (j * Tryz.prog.cellsOf 3)).run Tryz.prog w = .ok (.int .i64 x) w := fun j x h => by
    rw [Tryz.cellsI, Nat.mul_one]
    simp [part, isAgg, run_underlying Tryz.underlying3, h]
  have he : ∀ x : Int, (Op.equalIn 9998 3 (.int .i64 x) (.int .i64 x)).run Tryz.prog w = .ok true w := fun x => by
    rw [run_equalIn_int w 9997 3 .i64 .i64 _ _ Tryz.underlying3]
    simp
  show (Op.eqItems 9998 3 (Tryz.prog.cellsOf 3) _ _ [0, 1, 2, 3]).run Tryz.prog w = _
  simp only [Op.eqItems, Sem.run_bind, hp 0 a0 rfl, hp 1 a1 rfl, hp 2 a2 rfl, hp 3 a3 rfl, he, Result.andThen_ok, Bool.not_true, Bool.false_eq_true, if_false]
  first | rfl | simp

set_option maxHeartbeats 4000000 in
set_option maxRecDepth 1000000 in
theorem pts_no (W H D : Int) (A : Bool) (sw sh : Int) (r : Nat → Int) (N p ln : Int) (w : World) (s0 : -9223372036854775808 ≤ sw) (s1 : sw ≤ 9223372036854775807) (hR : rgt W H D A sw sh r N p ln = false) :
    Calls Tryz.prog 24 #[hvv W H D A sw sh r N p ln] w fun e w' => e = .returned (.int .i64 0) ∧ Kept [] w w' := by
  have C1 := Hid.mk (fun u => pright_any W H D A sw sh r N p ln u s0 s1)
  rw [hR] at C1
  obtain ⟨r0, er0⟩ : ∃ x, r 0 = x := ⟨_, rfl⟩
  obtain ⟨r1, er1⟩ : ∃ x, r 1 = x := ⟨_, rfl⟩
  obtain ⟨r2, er2⟩ : ∃ x, r 2 = x := ⟨_, rfl⟩
  obtain ⟨r3, er3⟩ : ∃ x, r 3 = x := ⟨_, rfl⟩
  have e9 : hvv W H D A sw sh r N p ln = .agg #[.int .i64 W, .int .i64 H, .int .i64 D, .bool A, .int .i64 sw, .int .i64 sh, .int .i64 r0, .int .i64 r1, .int .i64 r2, .int .i64 r3, .int .i64 N, .int .i64 p, .int .i64 ln] := by unfold hvv; rw [er0, er1, er2, er3]
  rw [e9] at C1 ⊢
  obtain ⟨w1, e1⟩ : ∃ w1, w.alloc (.cells #[.int .i64 W, .int .i64 H, .int .i64 D, .bool A, .int .i64 sw, .int .i64 sh, .int .i64 r0, .int .i64 r1, .int .i64 r2, .int .i64 r3, .int .i64 N, .int .i64 p, .int .i64 ln] 27 (0, 0)) = w1 := ⟨_, rfl⟩
  obtain ⟨B, eB⟩ : ∃ B, w.heap.size = B := ⟨_, rfl⟩
  have K1 : Hid (Kept [] w w1) := Hid.mk (by rw [← e1]; exact (Kept.refl [] w).alloc _)
  have HB1 := Hid.mk (show w1.heap[B]? = some (.cells #[.int .i64 W, .int .i64 H, .int .i64 D, .bool A, .int .i64 sw, .int .i64 sh, .int .i64 r0, .int .i64 r1, .int .i64 r2, .int .i64 r3, .int .i64 N, .int .i64 p, .int .i64 ln] 27 (0, 0)) by rw [← e1, ← eB]; exact heap_alloc_new _ _)
  obtain ⟨h0, h1, h2, h3, h4, h5, h6, h7, h8, h9, h10, h11, h12⟩ := cel13 HB1.out
  clear hR er0 er1 er2 er3 e9 s0 s1
  go_enter Tryz.func24, Tryz.ntmps24
  go_wp2_with (fail)
  clear e1 eB
  refine (C1.out _).mono ?_
  rintro e w2 ⟨rfl, k2⟩
  have K2 := Hid.mk k2
  clear k2 h0 h1 h2 h3 h4 h5 h6 h7 h8 h9 h10 h11 h12
  go_wp2
  go_ret
  exact ⟨rfl, K1.out.trans K2.out⟩

set_option maxHeartbeats 4000000 in
set_option maxRecDepth 1000000 in
theorem rts_no (W H D : Int) (A : Bool) (sw sh : Int) (r : Nat → Int) (N p ln : Int) (w : World) (hR : rgt W H D A sw sh r N p ln = false) :
    Calls Tryz.prog 34 #[hvv W H D A sw sh r N p ln] w fun e w' => e = .returned (.int .i64 0) ∧ Kept [] w w' := by
  have C1 := Hid.mk (fun u => rRight_any W H D A sw sh r N p ln u)
  rw [hR] at C1
  obtain ⟨r0, er0⟩ : ∃ x, r 0 = x := ⟨_, rfl⟩
  obtain ⟨r1, er1⟩ : ∃ x, r 1 = x := ⟨_, rfl⟩
  obtain ⟨r2, er2⟩ : ∃ x, r 2 = x := ⟨_, rfl⟩
  obtain ⟨r3, er3⟩ : ∃ x, r 3 = x := ⟨_, rfl⟩
  have e9 : hvv W H D A sw sh r N p ln = .agg #[.int .i64 W, .int .i64 H, .int .i64 D, .bool A, .int .i64 sw, .int .i64 sh, .int .i64 r0, .int .i64 r1, .int .i64 r2, .int .i64 r3, .int .i64 N, .int .i64 p, .int .i64 ln] := by unfold hvv; rw [er0, er1, er2, er3]
  rw [e9] at C1 ⊢
  obtain ⟨w1, e1⟩ : ∃ w1, w.alloc (.cells #[.int .i64 W, .int .i64 H, .int .i64 D, .bool A, .int .i64 sw, .int .i64 sh, .int .i64 r0, .int .i64 r1, .int .i64 r2, .int .i64 r3, .int .i64 N, .int .i64 p, .int .i64 ln] 27 (0, 0)) = w1 := ⟨_, rfl⟩
  obtain ⟨B, eB⟩ : ∃ B, w.heap.size = B := ⟨_, rfl⟩
  have K1 : Hid (Kept [] w w1) := Hid.mk (by rw [← e1]; exact (Kept.refl [] w).alloc _)
  have HB1 := Hid.mk (show w1.heap[B]? = some (.cells #[.int .i64 W, .int .i64 H, .int .i64 D, .bool A, .int .i64 sw, .int .i64 sh, .int .i64 r0, .int .i64 r1, .int .i64 r2, .int .i64 r3, .int .i64 N, .int .i64 p, .int .i64 ln] 27 (0, 0)) by rw [← e1, ← eB]; exact heap_alloc_new _ _)
  obtain ⟨h0, h1, h2, h3, h4, h5, h6, h7, h8, h9, h10, h11, h12⟩ := cel13 HB1.out
  clear hR er0 er1 er2 er3 e9
  go_enter Tryz.func34, Tryz.ntmps34
  go_wp2_with (fail)
  clear e1 eB
  refine (C1.out _).mono ?_
  rintro e w2 ⟨rfl, k2⟩
  have K2 := Hid.mk k2
  clear k2 h0 h1 h2 h3 h4 h5 h6 h7 h8 h9 h10 h11 h12
  go_wp2
  go_ret
  exact ⟨rfl, K1.out.trans K2.out⟩

set_option maxHeartbeats 4000000 in
set_option maxRecDepth 1000000 in
theorem rts_yes (W H D : Int) (A : Bool) (sw sh : Int) (r : Nat → Int) (N p : Nat) (ln : Int) (w : World) (hR : rgt W H D A sw sh r (N : Int) (p : Int) ln = true) (hN : N ≤ 70000) (hp : p ≤ 16) :
    Calls Tryz.prog 34 #[hvv W H D A sw sh r (N : Int) (p : Int) ln] w fun e w' => e = .returned (.int .i64 ((8 * N + 4 * p + 4 : Nat) : Int)) ∧ Kept [] w w' := by
  have C1 := Hid.mk (fun u => rRight_any W H D A sw sh r (N : Int) (p : Int) ln u)
  rw [hR] at C1
  obtain ⟨a1, ea1⟩ : ∃ x, 8 * N = x := ⟨_, rfl⟩
  obtain ⟨a2, ea2⟩ : ∃ x, 4 * p = x := ⟨_, rfl⟩
  obtain ⟨a3, ea3⟩ : ∃ x, a1 + a2 = x := ⟨_, rfl⟩
  obtain ⟨T, eT⟩ : ∃ T, a3 + 4 = T := ⟨_, rfl⟩
  have q1 : 8 * (N : Int) = (a1 : Int) := by omega
  have q2 : 4 * (p : Int) = (a2 : Int) := by omega
  have q3 : (a1 : Int) + (a2 : Int) = (a3 : Int) := by omega
  have q4 : (a3 : Int) + 4 = (T : Int) := by omega
  have b1 : a1 ≤ 9000000000000000000 := by omega
  have b2 : a2 ≤ 9000000000000000000 := by omega
  have b3 : a3 ≤ 9000000000000000000 := by omega
  have b4 : T ≤ 9000000000000000000 := by omega
  rw [ea1, ea2, ea3, eT]
  have v1 : wrap64 (8 * (N : Int)) = (a1 : Int) := w64n q1 b1
  have v2 : wrap64 (4 * (p : Int)) = (a2 : Int) := w64n q2 b2
  have v3 : wrap64 ((a1 : Int) + (a2 : Int)) = (a3 : Int) := w64n q3 b3
  have v4 : wrap64 ((a3 : Int) + 4) = (T : Int) := w64n q4 b4
  have v5 : IntKind.i64.wrap (8 * (N : Int)) = (a1 : Int) := win q1 b1
  have v6 : IntKind.i64.wrap (4 * (p : Int)) = (a2 : Int) := win q2 b2
  have v7 : IntKind.i64.wrap ((a1 : Int) + (a2 : Int)) = (a3 : Int) := win q3 b3
  have v8 : IntKind.i64.wrap ((a3 : Int) + 4) = (T : Int) := win q4 b4
  obtain ⟨r0, er0⟩ : ∃ x, r 0 = x := ⟨_, rfl⟩
  obtain ⟨r1, er1⟩ : ∃ x, r 1 = x := ⟨_, rfl⟩
  obtain ⟨r2, er2⟩ : ∃ x, r 2 = x := ⟨_, rfl⟩
  obtain ⟨r3, er3⟩ : ∃ x, r 3 = x := ⟨_, rfl⟩
  have e9 : hvv W H D A sw sh r (N : Int) (p : Int) ln = .agg #[.int .i64 W, .int .i64 H, .int .i64 D, .bool A, .int .i64 sw, .int .i64 sh, .int .i64 r0, .int .i64 r1, .int .i64 r2, .int .i64 r3, .int .i64 (N : Int), .int .i64 (p : Int), .int .i64 ln] := by unfold hvv; rw [er0, er1, er2, er3]
  rw [e9] at C1 ⊢
  obtain ⟨w1, e1⟩ : ∃ w1, w.alloc (.cells #[.int .i64 W, .int .i64 H, .int .i64 D, .bool A, .int .i64 sw, .int .i64 sh, .int .i64 r0, .int .i64 r1, .int .i64 r2, .int .i64 r3, .int .i64 (N : Int), .int .i64 (p : Int), .int .i64 ln] 27 (0, 0)) = w1 := ⟨_, rfl⟩
  obtain ⟨B, eB⟩ : ∃ B, w.heap.size = B := ⟨_, rfl⟩
  have K1 : Hid (Kept [] w w1) := Hid.mk (by rw [← e1]; exact (Kept.refl [] w).alloc _)
  have HB1 := Hid.mk (show w1.heap[B]? = some (.cells #[.int .i64 W, .int .i64 H, .int .i64 D, .bool A, .int .i64 sw, .int .i64 sh, .int .i64 r0, .int .i64 r1, .int .i64 r2, .int .i64 r3, .int .i64 (N : Int), .int .i64 (p : Int), .int .i64 ln] 27 (0, 0)) by rw [← e1, ← eB]; exact heap_alloc_new _ _)
  obtain ⟨h0, h1, h2, h3, h4, h5, h6, h7, h8, h9, h10, h11, h12⟩ := cel13 HB1.out
  clear hR er0 er1 er2 er3 e9 ea1 ea2 ea3 eT q1 q2 q3 q4 b1 b2 b3 b4 hN hp
  go_enter Tryz.func34, Tryz.ntmps34
  go_wp2_with (fail)
  clear e1 eB
  refine (C1.out _).mono ?_
  rintro e w2 ⟨rfl, k2⟩
  have K2 := Hid.mk k2
  clear h0 h1 h2 h3 h4 h5 h6 h7 h8 h9 h10 h11 h12
  obtain ⟨h0, h1, h2, h3, h4, h5, h6, h7, h8, h9, h10, h11, h12⟩ := cel13 (k2.heap HB1.out (by simp))
  clear k2
  go_wp2
  go_ret
  exact ⟨rfl, K1.out.trans K2.out⟩

/-- TableSize of any head, both sides: one number. -/
theorem ts_both (W H D : Int) (A : Bool) (sw sh : Int) (r : Nat → Int) (N p ln : Int) (s0 : -9223372036854775808 ≤ sw) (s1 : sw ≤ 9223372036854775807) :
    ∃ T : Int, (∀ w, Calls Tryz.prog 24 #[hvv W H D A sw sh r N p ln] w fun e w' => e = .returned (.int .i64 T) ∧ Kept [] w w') ∧ (∀ w, Calls Tryz.prog 34 #[hvv W H D A sw sh r N p ln] w fun e w' => e = .returned (.int .i64 T) ∧ Kept [] w w') := by
  cases hR : rgt W H D A sw sh r N p ln with
  | false => exact ⟨0, fun w => pts_no W H D A sw sh r N p ln w s0 s1 hR, fun w => rts_no W H D A sw sh r N p ln w hR⟩
  | true =>
    obtain ⟨n, q, rfl, rfl, hn, hq⟩ := rgt_num hR
    exact ⟨_, fun w => tsize_ok W H D A sw sh r n q ln w s0 s1 hR hn hq, fun w => rts_yes W H D A sw sh r n q ln w hR hn hq⟩

end Go.Proofs.YthhegomjipbdbaaGreatDoor.Pc

namespace Go.Proofs.YthhegomjipbdbaaGreatDoor.Pc
open Go.RowKit

theorem byts_app {a b : List Nat} (ha : Byts a) (hb : Byts b) : Byts (a ++ b) := fun x hx => by
  rcases List.mem_append.1 hx with h | h
  · exact ha x h
  · exact hb x h
theorem tbB_byts (L R : List (List Nat)) : Byts (tbB L R) := by
  unfold tbB tbA
  exact byts_app (byts_app (fds_byts _) (fds_byts _)) (big_lt _ _)
theorem flat_byts {L : List (List Nat)} (h : ∀ i, i < L.length → Byts (L.getD i [])) : Byts L.flatten := fun x hx => by
  obtain ⟨l, hl, hx⟩ := List.mem_flatten.1 hx
  obtain ⟨i, hi, e⟩ := List.mem_iff_getElem.1 hl
  have := h i hi x
  rw [List.getD_eq_getElem?_getD, List.getElem?_eq_getElem hi, e] at this
  exact this hx
theorem psv_byts {W H D : Int} {A : Bool} {m : Nat} {ln : Nat → Nat} {F : Nat → Nat → Nat} {sw sh c r : Int} (hv : Tl.Vld W H D A m ln F) (g : Tl.Gd W H sw sh c r) {N : Nat} (hN : (N : Int) ≤ c * r) {rr : Nat → Int} (hr : ∀ q, q < 4 → 0 ≤ rr q ∧ rr q ≤ 63) {X : Nat → Nat → Nat × Nat} (hX : Cod W H D sw sh c N m F rr X) : Byts (psv N m X).flatten :=
  flat_byts (fun i hi => by
    rw [psv_len] at hi
    rw [psv_at hi]
    exact (pay_le hv g hN hr hX hi).2)

theorem shp16 : Tl.Shp 16 16 10 false := ⟨⟨by decide, by decide⟩, ⟨by decide, by decide⟩, .inl rfl, by decide⟩
theorem vld16 : Tl.Vld 16 16 10 false 3 (Tl.pz 16 16) (fun _ _ => 0) :=
  ⟨shp16, rfl, fun i _ => by
    unfold Tl.pz
    refine Int.toNat_of_nonneg ?_
    unfold Tl.wp
    split <;> decide, fun _ _ _ _ => Nat.zero_le _⟩
theorem cfg16 : Cfg 16 16 10 false 16 16 1 (fun _ _ => 0) 0 ((0 : Nat) : Int) := ⟨shp16, by decide, by decide, by decide, by decide⟩

/-- The document's first example, coded. -/
theorem enc_shown (po lo : Option Addr) (w : World) (hP : Plc w po 3 (Tl.pz 16 16) (fun _ _ => 0)) (hL : Ldr w lo 1 (fun _ _ => 0)) (hT : Tab w) :
    Calls Tryz.prog 22 #[Tl.frv 16 16 10 false po 3 3, cfv 16 16 lo 1 1 0 0] w fun e w' => ∃ g c ln t, e = .returned (.tuple #[.agg #[.slice (some ⟨g, 0, none⟩) ln c, .int .i64 0, .int .i64 0, .int .i64 0, .int .i64 0, .int .i64 0], .int .i64 0]) ∧
      Reads w' (some ⟨g, 0, none⟩) (hdB 16 16 10 16 16 false (fun _ => 0) 1 0 ln ++ t) ∧ Byts t ∧ 32 + t.length = ln ∧ ln ≤ c ∧ c ≤ 9223372036854775807 ∧ 44 ≤ ln ∧ ln ≤ 134217727 ∧ Kept [] w w' := by
  have hv := vld16
  have hc := cfg16
  have hN : (1 : Nat) = (Tl.cl 16 16 * Tl.cl 16 16).toNat := by decide
  have hN1 : ((1 : Nat) : Int) ≤ Tl.cl 16 16 * Tl.cl 16 16 := by decide
  obtain ⟨X, hX⟩ := cod_ex hv hc.gd hN1 (fun _ => 0)
  have hE : jbE 16 16 10 false 3 (Tl.pz 16 16) (fun _ _ => 0) 16 16 1 (fun _ _ => 0) 0 0 = 0 := by
    unfold jbE
    rw [if_pos (Tl.vE_zero.2 hv)]
    exact cfE_zero.2 hc
  have hb := rcl_bd (X := fun _ => X) hv hc hN (fun _ _ => hX) (i := 0) (by decide)
  have ht := rcl_top (X := fun _ => X) hv hc hN (fun _ _ => hX) (i := 0) (by decide)
  refine (Encode_any 16 16 10 false po 3 3 (Tl.pz 16 16) (fun _ _ => 0) 16 16 lo 1 1 (fun _ _ => 0) 0 0 0 1 _ _ _ w hP.pl (by decide) (fun i hi => ?_) hL (by decide) (by decide) (by decide) (fun _ => ⟨rfl, by decide⟩)
    (fun _ u P ku hG => jw_ok 16 16 10 false po 3 3 (Tl.pz 16 16) (fun _ _ => 0) 16 16 lo 1 1 (fun _ _ => 0) 0 0 1 (fun _ => X) w hv hc hN (fun _ _ => hX) hP hT u P ku hG)).mono ?_
  · have h9 : (Tl.pz 16 16 i : Int) = Tl.wp 16 (i : Int) * 16 := hv.len i hi
    have h8 : Tl.wp 16 (i : Int) ≤ 16 := by unfold Tl.wp; split <;> decide
    omega
  rintro e w' (⟨_, h⟩ | ⟨h, _⟩)
  · rcases h with ⟨i, hi, hle, _, bo, c, rfl, ho, hk⟩ | ⟨hall, _⟩
    · obtain rfl : i = 0 := by omega
      obtain ⟨L9, eL⟩ : ∃ x, rcl (lnf (psv 1 3 X)) 1 0 = x := ⟨_, rfl⟩
      rw [eL] at hb ht
      simp only [eL] at ho ⊢
      rcases ho.2 with ⟨_, h0⟩ | ⟨g, cap, cur, h1, _, _, h4, h5, _⟩
      · omega
      cases h1
      have hml : maxLen ≤ 9223372036854775807 := by unfold maxLen; decide
      have hrd := reads_row ho
      have hpl := psv_len 1 3 X
      have hlen := recB_len 16 16 10 16 16 false (fun _ => 0) 0 (psv 1 3 X)
      rw [hpl, eL] at hlen
      refine ⟨g, c, L9, tbB (psv 1 3 X) (parR (psv 1 3 X) 0) ++ ((psv 1 3 X).flatten ++ (parR (psv 1 3 X) 0).flatten), rfl, ?_, ?_, ?_, h4, by omega, hb.1, ht, hk⟩
      · have e9 : recB 16 16 10 16 16 false (fun _ => 0) 0 (psv 1 3 X) (parR (psv 1 3 X) 0) = hdB 16 16 10 16 16 false (fun _ => 0) 1 0 L9 ++ (tbB (psv 1 3 X) (parR (psv 1 3 X) 0) ++ ((psv 1 3 X).flatten ++ (parR (psv 1 3 X) 0).flatten)) := by
          unfold recB
          rw [hpl, eL]
        rw [← e9]
        exact hrd
      · refine byts_app (tbB_byts _ _) (byts_app (psv_byts hv hc.gd hN1 (fun _ _ => ⟨by decide, by decide⟩) hX) ?_)
        intro x hx
        simp [parR] at hx
      · unfold recB at hlen
        rw [List.length_append, hdB_len] at hlen
        exact hlen
    · exfalso
      have h9 := hall 0 (by decide)
      rw [if_pos rfl] at h9
      dsimp only at h9
      omega
  · exact absurd hE h
end Go.Proofs.YthhegomjipbdbaaGreatDoor.Pc

namespace Go.Proofs.YthhegomjipbdbaaGreatDoor.Pc
open Go.RowKit

theorem rgt16 {ln : Nat} (h0 : 44 ≤ ln) (h1 : ln ≤ 134217727) : rgt 16 16 10 false 16 16 (fun _ => 0) ((1 : Nat) : Int) ((0 : Nat) : Int) (ln : Int) = true := by
  unfold rgt
  have a1 : decide (Tl.nwE 16 16 10 16 16 false = 0) = true := by decide
  have a2 : rmb (fun _ => 0) false = true := by decide
  have a3 : decide (((1 : Nat) : Int) = Tl.cl 16 16 * Tl.cl 16 16) = true := by decide
  have a4 : pmb ((0 : Nat) : Int) ((1 : Nat) : Int) = true := by decide
  rw [a1, a2, a3, a4]
  simp only [Bool.true_and, Bool.and_eq_true, decide_eq_true_eq]
  omega
theorem head_shown (ln : Nat) (t : List Nat) (ht : Byts t) (g c : Nat) (w : World) (hrd : Reads w (some ⟨g, 0, none⟩) (hdB 16 16 10 16 16 false (fun _ => 0) 1 0 ln ++ t)) (hm : 32 + t.length = ln) (hc : ln ≤ c) (hcap : c ≤ 9223372036854775807) (h0 : 44 ≤ ln) (h1 : ln ≤ 134217727) :
    Calls Tryz.prog 23 #[.slice (some ⟨g, 0, none⟩) ln c] w fun e w' => e = .returned (.tuple #[.agg #[.int .i64 16, .int .i64 16, .int .i64 10, .bool false, .int .i64 16, .int .i64 16, .int .i64 0, .int .i64 0, .int .i64 0, .int .i64 0, .int .i64 1, .int .i64 0, .int .i64 (ln : Int)], .int .i64 0]) ∧ Kept [] w w' :=
  head_of 16 16 10 16 16 false (fun _ => 0) 1 0 ln t (by decide) (by decide) (by decide) (by decide) (by decide) (fun _ _ => by decide) (by decide) (by decide) (by omega) (rgt16 h0 h1) ht g 0 c ln w hrd hm hc hcap
theorem tsize_shown (ln : Nat) (w : World) (h0 : 44 ≤ ln) (h1 : ln ≤ 134217727) :
    Calls Tryz.prog 24 #[.agg #[.int .i64 16, .int .i64 16, .int .i64 10, .bool false, .int .i64 16, .int .i64 16, .int .i64 0, .int .i64 0, .int .i64 0, .int .i64 0, .int .i64 1, .int .i64 0, .int .i64 (ln : Int)]] w fun e w' => e = .returned (.int .i64 12) ∧ Kept [] w w' :=
  tsize_ok 16 16 10 false 16 16 (fun _ => 0) 1 0 (ln : Int) w (by decide) (by decide) (rgt16 h0 h1) (by decide) (by decide)
theorem bnd16 : bnd 16 16 10 16 16 false 0 = 696 := by decide
theorem mk_plc {w0 w : World} {G n : Nat} {bs ln : Nat → Nat} {F : Nat → Nat → Nat} (h : Tl.Mk w0 w G n n bs ln F) : Plc w (some ⟨G, 0, none⟩) n ln F :=
  .inr ⟨G, 0, rfl, fun i hi => ⟨_, _, by rw [Nat.zero_add]; exact h.cell hi (Nat.le_refl _), Nat.le_refl _, (h.row i hi).rd⟩⟩

set_option maxHeartbeats 8000000 in
set_option maxRecDepth 1000000 in
theorem pshown_any (w : World) (hT : Tab w) : Calls Tryz.prog 5 #[] w fun e w' => e = .returned (.bool true) ∧ Kept [] w w' := by
  obtain ⟨B, eB⟩ : ∃ B, w.heap.size = B := ⟨_, rfl⟩
  obtain ⟨w1, e1⟩ : ∃ w1, w.alloc (.cells #[.int .i64 16, .int .i64 16, .int .i64 10, .bool false] 23 (0, 0)) = w1 := ⟨_, rfl⟩
  obtain ⟨w2, e2⟩ : ∃ w2, w1.alloc (.cells #[.int .i64 0, .int .i64 0, .int .i64 0, .int .i64 0] 25 (0, 0)) = w2 := ⟨_, rfl⟩
  obtain ⟨w3, e3⟩ : ∃ w3, w2.alloc (.cells #[.int .i64 16, .int .i64 16, .slice (some ⟨B + 1, 0, none⟩) 1 1, .int .i64 0, .int .i64 0] 45 (0, 0)) = w3 := ⟨_, rfl⟩
  have z1 : w1.heap.size = B + 1 := by rw [← e1, ← eB]; exact Array.size_push _
  have z2 : w2.heap.size = B + 1 + 1 := by rw [← z1, ← e2]; exact Array.size_push _
  have k1 : Kept [] w w1 := by rw [← e1]; exact (Kept.refl [] w).alloc _
  have k2 : Kept [] w1 w2 := by rw [← e2]; exact (Kept.refl [] w1).alloc _
  have k3 : Kept [] w2 w3 := by rw [← e3]; exact (Kept.refl [] w2).alloc _
  have HS := Hid.mk ((k2.trans k3).heap (show w1.heap[B]? = some (.cells #[.int .i64 16, .int .i64 16, .int .i64 10, .bool false] 23 (0, 0)) by rw [← e1, ← eB]; exact heap_alloc_new _ _) (by simp))
  have HR := Hid.mk (k3.heap (show w2.heap[B + 1]? = some (.cells #[.int .i64 0, .int .i64 0, .int .i64 0, .int .i64 0] 25 (0, 0)) by rw [← e2, ← z1]; exact heap_alloc_new _ _) (by simp))
  have HC := Hid.mk (show w3.heap[B + 1 + 1]? = some (.cells #[.int .i64 16, .int .i64 16, .slice (some ⟨B + 1, 0, none⟩) 1 1, .int .i64 0, .int .i64 0] 45 (0, 0)) by rw [← e3, ← z2]; exact heap_alloc_new _ _)
  have K3 := Hid.mk ((k1.trans k2).trans k3)
  have HL : Hid (Ldr w3 (some ⟨B + 1, 0, none⟩) 1 (fun _ _ => 0)) := Hid.mk (.inr ⟨B + 1, 0, rfl, fun i hi j hj => by
    obtain ⟨a0, a1, a2, a3⟩ := cel4 HR.out
    obtain rfl : i = 0 := by omega
    rcases (show j = 0 ∨ j = 1 ∨ j = 2 ∨ j = 3 by omega) with rfl | rfl | rfl | rfl <;> assumption⟩)
  have HT := Hid.mk (fun u (ku : Kept [] w3 u) => (hT.kept K3.out (by simp)).kept ku (by simp))
  have C1 := pBound_ok 16 16 10 false 16 16 (some ⟨B + 1, 0, none⟩) 1 1 (fun _ _ => 0) 0 0 w3 HL.out (by decide) (by decide) (by decide) cfg16
  rw [bnd16] at C1
  have C1 := Hid.mk C1
  have C2 : Hid (∀ u, Calls Tryz.prog 21 #[Tl.shv 16 16 10 false] u fun e w' => ∃ gp bs, e = .returned (.tuple #[Tl.frv 16 16 10 false (some ⟨gp, 0, none⟩) 3 3, .int .i64 0]) ∧ Tl.Mk u w' gp 3 3 bs (Tl.pz 16 16) (fun _ _ => 0)) := Hid.mk (fun u => (Tl.new_any 16 16 10 false u).mono fun e w' h => h.1 (Tl.shE_ok shp16))
  obtain ⟨s0, s1, s2, s3⟩ := cel4 HS.out
  obtain ⟨q0, q1, q2, q3, q4⟩ := cel5 HC.out
  clear k1 k2 k3 hT z1 z2
  subst e3 e2 e1 eB
  go_enter Tryz.func5, Tryz.ntmps5
  go_wp2_with (fail)
  generalize ((w.alloc (.cells #[.int .i64 16, .int .i64 16, .int .i64 10, .bool false] 23 (0, 0))).alloc (.cells #[.int .i64 0, .int .i64 0, .int .i64 0, .int .i64 0] 25 (0, 0))).alloc (.cells #[.int .i64 16, .int .i64 16, .slice (some ⟨w.heap.size + 1, 0, none⟩) 1 1, .int .i64 0, .int .i64 0] 45 (0, 0)) = w3 at *
  generalize w.heap.size = B at *
  refine C1.out.mono ?_
  rintro e w4 ⟨rfl, k4⟩
  have K4 := Hid.mk k4
  clear s0 s1 s2 s3 q0 q1 q2 q3 q4 k4 C1
  obtain ⟨s0, s1, s2, s3⟩ := cel4 (K4.out.heap HS.out (by simp))
  go_wp2_with (fail)
  refine (C2.out _).mono ?_
  rintro e w5 ⟨gp, bs, rfl, hM⟩
  have K5 := Hid.mk (K4.out.trans hM.kept)
  have HM := Hid.mk hM
  clear s0 s1 s2 s3 hM C2
  obtain ⟨w6, e6⟩ : ∃ w6, w5.alloc (.cells #[.int .i64 16, .int .i64 16, .int .i64 10, .bool false, .slice (some ⟨gp, 0, none⟩) 3 3] 42 (0, 0)) = w6 := ⟨_, rfl⟩
  obtain ⟨Bf, eBf⟩ : ∃ B, w5.heap.size = B := ⟨_, rfl⟩
  have k6 : Kept [] w5 w6 := by rw [← e6]; exact (Kept.refl [] w5).alloc _
  have HF := show w6.heap[Bf]? = some (.cells #[.int .i64 16, .int .i64 16, .int .i64 10, .bool false, .slice (some ⟨gp, 0, none⟩) 3 3] 42 (0, 0)) by rw [← e6, ← eBf]; exact heap_alloc_new _ _
  have K6 := Hid.mk (K5.out.trans k6)
  obtain ⟨f0, f1, f2, f3, f4⟩ := cel5 HF
  obtain ⟨q0, q1, q2, q3, q4⟩ := cel5 (K6.out.heap HC.out (by simp))
  have C3 := Hid.mk (enc_shown (some ⟨gp, 0, none⟩) (some ⟨B + 1, 0, none⟩) w6 (mk_plc (HM.out.keep k6)) (HL.out.keep K6.out) (HT.out _ K6.out))
  clear HF k6
  subst e6 eBf
  go_wp2_with (fail)
  generalize w5.alloc (.cells #[.int .i64 16, .int .i64 16, .int .i64 10, .bool false, .slice (some ⟨gp, 0, none⟩) 3 3] 42 (0, 0)) = w6 at *
  generalize w5.heap.size = Bf at *
  refine C3.out.mono ?_
  rintro e w7 ⟨g7, c7, ln, t, rfl, hrd, ht, hm, hlc, hcc, h44, h27, k7⟩
  have K7 := Hid.mk (K6.out.trans k7)
  clear f0 f1 f2 f3 f4 q0 q1 q2 q3 q4 C3
  obtain ⟨w8, e8⟩ : ∃ x, w7.alloc (.cells #[.slice (some ⟨g7, 0, none⟩) ln c7, .int .i64 0, .int .i64 0, .int .i64 0, .int .i64 0, .int .i64 0] 59 (0, 0)) = x := ⟨_, rfl⟩
  obtain ⟨Bc, eBc⟩ : ∃ B, w7.heap.size = B := ⟨_, rfl⟩
  have k8 : Kept [] w7 w8 := by rw [← e8]; exact (Kept.refl [] w7).alloc _
  have HD := Hid.mk (show w8.heap[Bc]? = some (.cells #[.slice (some ⟨g7, 0, none⟩) ln c7, .int .i64 0, .int .i64 0, .int .i64 0, .int .i64 0, .int .i64 0] 59 (0, 0)) by rw [← e8, ← eBc]; exact heap_alloc_new _ _)
  have d0 := cellAt (i := 0) HD.out rfl
  have K8 := Hid.mk (K7.out.trans k8)
  have C4 := Hid.mk (head_shown ln t ht g7 c7 w8 (hrd.keep k8) hm hlc hcc h44 h27)
  have C5 := Hid.mk (fun u => tsize_shown ln u h44 h27)
  have HLN := Hid.mk h27
  clear k7 k8 hrd ht hm hlc hcc h44 h27
  subst e8 eBc
  go_wp2_with (fail)
  generalize w7.alloc (.cells #[.slice (some ⟨g7, 0, none⟩) ln c7, .int .i64 0, .int .i64 0, .int .i64 0, .int .i64 0, .int .i64 0] 59 (0, 0)) = w8 at *
  generalize w7.heap.size = Bc at *
  refine C4.out.mono ?_
  rintro e w9 ⟨rfl, k9⟩
  have K9 := Hid.mk (K8.out.trans k9)
  obtain ⟨wA, eA⟩ : ∃ x, w9.alloc (.cells #[.int .i64 16, .int .i64 16, .int .i64 10, .bool false, .int .i64 16, .int .i64 16, .int .i64 0, .int .i64 0, .int .i64 0, .int .i64 0, .int .i64 1, .int .i64 0, .int .i64 (ln : Int)] 27 (0, 0)) = x := ⟨_, rfl⟩
  obtain ⟨Bh, eBh⟩ : ∃ B, w9.heap.size = B := ⟨_, rfl⟩
  have kA : Kept [] w9 wA := by rw [← eA]; exact (Kept.refl [] w9).alloc _
  have HH := show wA.heap[Bh]? = some (.cells #[.int .i64 16, .int .i64 16, .int .i64 10, .bool false, .int .i64 16, .int .i64 16, .int .i64 0, .int .i64 0, .int .i64 0, .int .i64 0, .int .i64 1, .int .i64 0, .int .i64 (ln : Int)] 27 (0, 0)) by rw [← eA, ← eBh]; exact heap_alloc_new _ _
  obtain ⟨y0, y1, y2, y3, y4, y5, y6, y7, y8, y9, y10, y11, y12⟩ := cel13 HH
  have x0 := cellAt (i := 0) ((k9.trans kA).heap HD.out (by simp)) rfl
  have KA := Hid.mk (K9.out.trans kA)
  clear d0 C4 HH k9 kA
  subst eA eBh
  go_wp2_with (fail)
  generalize w9.alloc (.cells #[.int .i64 16, .int .i64 16, .int .i64 10, .bool false, .int .i64 16, .int .i64 16, .int .i64 0, .int .i64 0, .int .i64 0, .int .i64 0, .int .i64 1, .int .i64 0, .int .i64 (ln : Int)] 27 (0, 0)) = wA at *
  generalize w9.heap.size = Bh at *
  refine (C5.out _).mono ?_
  rintro e wB ⟨rfl, kB⟩
  clear y0 y1 y2 y3 y4 y5 y6 y7 y8 y9 y10 y11 y12 x0
  go_wp2
  go_ret
  exact ⟨rfl, (K3.out.trans KA.out).trans kB⟩
end Go.Proofs.YthhegomjipbdbaaGreatDoor.Pc
