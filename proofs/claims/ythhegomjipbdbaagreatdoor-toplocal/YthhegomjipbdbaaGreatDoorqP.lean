import Derived.Test.YthhegomjipbdbaaGreatDoorpKZ
namespace Go.Proofs.YthhegomjipbdbaaGreatDoor.Pc
open Go.RowKit

theorem nb_at (a b : List Nat) (k X s : Nat) (ha : a.length = s) (hX : X < 256 ^ k) : nb (a ++ (big k X ++ b)) s k = X := by
  subst ha
  unfold nb
  rw [List.drop_left, List.take_left' (big_length ..), num_big, Nat.mod_eq_of_lt hX]
theorem nb_fld (f1 f2 : List (Nat × Nat)) (X k s : Nat) (t : List Nat) (ha : (fds f1).length = s) (hX : X < 256 ^ k) : nb (fds (f1 ++ (X, k) :: f2) ++ t) s k = X := by
  rw [fds_app]
  show nb ((fds f1 ++ (big k X ++ fds f2)) ++ t) s k = X
  rw [List.append_assoc, List.append_assoc]
  exact nb_at _ _ _ _ _ ha hX
/-- What the bytes of a head say. -/
theorem hd_told (W H D sw sh : Nat) (A : Bool) (r : Nat → Nat) (N p ln : Nat) (t : List Nat) (hW : W < 65536) (hH : H < 65536) (hD : D < 256) (hsw : sw < 65536) (hsh : sh < 65536) (hr : ∀ i, i < 4 → r i < 256) (hN : N < 4294967296) (hp : p < 256) (hln : ln < 4294967296) :
    (nb (hdB W H D sw sh A r N p ln ++ t) 4 2 = W ∧ nb (hdB W H D sw sh A r N p ln ++ t) 6 2 = H ∧ nb (hdB W H D sw sh A r N p ln ++ t) 8 1 = D ∧ nb (hdB W H D sw sh A r N p ln ++ t) 9 1 = (if A then 1 else 0)) ∧
    (nb (hdB W H D sw sh A r N p ln ++ t) 10 2 = sw ∧ nb (hdB W H D sw sh A r N p ln ++ t) 12 2 = sh) ∧
    (nb (hdB W H D sw sh A r N p ln ++ t) 14 1 = r 0 ∧ nb (hdB W H D sw sh A r N p ln ++ t) 15 1 = r 1 ∧ nb (hdB W H D sw sh A r N p ln ++ t) 16 1 = r 2 ∧ nb (hdB W H D sw sh A r N p ln ++ t) 17 1 = r 3) ∧
    nb (hdB W H D sw sh A r N p ln ++ t) 18 4 = N ∧ nb (hdB W H D sw sh A r N p ln ++ t) 22 1 = p ∧ nb (hdB W H D sw sh A r N p ln ++ t) 24 4 = ln := by
  unfold hdB
  rw [List.append_assoc]
  generalize big 4 (s4 (fds (hdF W H D sw sh A r N p ln))) ++ t = u
  have r0 := hr 0 (by omega)
  have r1 := hr 1 (by omega)
  have r2 := hr 2 (by omega)
  have r3 := hr 3 (by omega)
  have hA : (if A then 1 else 0 : Nat) < 256 := by split <;> decide
  refine ⟨⟨?_, ?_, ?_, ?_⟩, ⟨?_, ?_⟩, ⟨?_, ?_, ?_, ?_⟩, ?_, ?_, ?_⟩
  · exact nb_fld [(1145854257, 4)] [(H, 2), (D, 1), (if A then 1 else 0, 1), (sw, 2), (sh, 2), (r 0, 1), (r 1, 1), (r 2, 1), (r 3, 1), (N, 4), (p, 1), (0, 1), (ln, 4)] W 2 4 u (by simp [fds, big_length]) hW
  · exact nb_fld [(1145854257, 4), (W, 2)] [(D, 1), (if A then 1 else 0, 1), (sw, 2), (sh, 2), (r 0, 1), (r 1, 1), (r 2, 1), (r 3, 1), (N, 4), (p, 1), (0, 1), (ln, 4)] H 2 6 u (by simp [fds, big_length]) hH
  · exact nb_fld [(1145854257, 4), (W, 2), (H, 2)] [(if A then 1 else 0, 1), (sw, 2), (sh, 2), (r 0, 1), (r 1, 1), (r 2, 1), (r 3, 1), (N, 4), (p, 1), (0, 1), (ln, 4)] D 1 8 u (by simp [fds, big_length]) hD
  · exact nb_fld [(1145854257, 4), (W, 2), (H, 2), (D, 1)] [(sw, 2), (sh, 2), (r 0, 1), (r 1, 1), (r 2, 1), (r 3, 1), (N, 4), (p, 1), (0, 1), (ln, 4)] (if A then 1 else 0) 1 9 u (by simp [fds, big_length]) hA
  · exact nb_fld [(1145854257, 4), (W, 2), (H, 2), (D, 1), (if A then 1 else 0, 1)] [(sh, 2), (r 0, 1), (r 1, 1), (r 2, 1), (r 3, 1), (N, 4), (p, 1), (0, 1), (ln, 4)] sw 2 10 u (by simp [fds, big_length]) hsw
  · exact nb_fld [(1145854257, 4), (W, 2), (H, 2), (D, 1), (if A then 1 else 0, 1), (sw, 2)] [(r 0, 1), (r 1, 1), (r 2, 1), (r 3, 1), (N, 4), (p, 1), (0, 1), (ln, 4)] sh 2 12 u (by simp [fds, big_length]) hsh
  · exact nb_fld [(1145854257, 4), (W, 2), (H, 2), (D, 1), (if A then 1 else 0, 1), (sw, 2), (sh, 2)] [(r 1, 1), (r 2, 1), (r 3, 1), (N, 4), (p, 1), (0, 1), (ln, 4)] (r 0) 1 14 u (by simp [fds, big_length]) r0
  · exact nb_fld [(1145854257, 4), (W, 2), (H, 2), (D, 1), (if A then 1 else 0, 1), (sw, 2), (sh, 2), (r 0, 1)] [(r 2, 1), (r 3, 1), (N, 4), (p, 1), (0, 1), (ln, 4)] (r 1) 1 15 u (by simp [fds, big_length]) r1
  · exact nb_fld [(1145854257, 4), (W, 2), (H, 2), (D, 1), (if A then 1 else 0, 1), (sw, 2), (sh, 2), (r 0, 1), (r 1, 1)] [(r 3, 1), (N, 4), (p, 1), (0, 1), (ln, 4)] (r 2) 1 16 u (by simp [fds, big_length]) r2
  · exact nb_fld [(1145854257, 4), (W, 2), (H, 2), (D, 1), (if A then 1 else 0, 1), (sw, 2), (sh, 2), (r 0, 1), (r 1, 1), (r 2, 1)] [(N, 4), (p, 1), (0, 1), (ln, 4)] (r 3) 1 17 u (by simp [fds, big_length]) r3
  · exact nb_fld [(1145854257, 4), (W, 2), (H, 2), (D, 1), (if A then 1 else 0, 1), (sw, 2), (sh, 2), (r 0, 1), (r 1, 1), (r 2, 1), (r 3, 1)] [(p, 1), (0, 1), (ln, 4)] N 4 18 u (by simp [fds, big_length]) hN
  · exact nb_fld [(1145854257, 4), (W, 2), (H, 2), (D, 1), (if A then 1 else 0, 1), (sw, 2), (sh, 2), (r 0, 1), (r 1, 1), (r 2, 1), (r 3, 1), (N, 4)] [(0, 1), (ln, 4)] p 1 22 u (by simp [fds, big_length]) hp
  · exact nb_fld [(1145854257, 4), (W, 2), (H, 2), (D, 1), (if A then 1 else 0, 1), (sw, 2), (sh, 2), (r 0, 1), (r 1, 1), (r 2, 1), (r 3, 1), (N, 4), (p, 1), (0, 1)] [] ln 4 24 u (by simp [fds, big_length]) hln

/-- Head of bytes that begin with a head that may be. -/
theorem head_of (W H D sw sh : Nat) (A : Bool) (r : Nat → Nat) (N p ln : Nat) (t : List Nat) (hW : W < 65536) (hH : H < 65536) (hD : D < 256) (hsw : sw < 65536) (hsh : sh < 65536) (hr : ∀ i, i < 4 → r i < 256) (hN : N < 4294967296) (hp : p < 256) (hln : ln < 4294967296)
    (hR : rgt (W : Int) (H : Int) (D : Int) A (sw : Int) (sh : Int) (fun i => (r i : Int)) (N : Int) (p : Int) (ln : Int) = true) (ht : Byts t)
    (g off cap m : Nat) (w : World) (hrd : Reads w (some ⟨g, off, none⟩) (hdB W H D sw sh A r N p ln ++ t)) (hm : 32 + t.length = m) (hc : m ≤ cap) (hcap : cap ≤ 9223372036854775807) :
    Calls Tryz.prog 23 #[.slice (some ⟨g, off, none⟩) m cap] w fun e w' => e = .returned (.tuple #[hvv (W : Int) (H : Int) (D : Int) A (sw : Int) (sh : Int) (fun i => (r i : Int)) (N : Int) (p : Int) (ln : Int), .int .i64 0]) ∧ Kept [] w w' := by
  obtain ⟨⟨a1, a2, a3, a4⟩, ⟨b1, b2⟩, ⟨c0, c1, c2, c3⟩, d1, d2, d3⟩ := hd_told W H D sw sh A r N p ln t hW hH hD hsw hsh hr hN hp hln
  have hAA : (!(((nb (hdB W H D sw sh A r N p ln ++ t) 9 1 : Nat) : Int) == 0)) = A := by rw [a4]; cases A <;> rfl
  have hby : Byts (hdB W H D sw sh A r N p ln ++ t) := fun b hb => by
    rcases List.mem_append.1 hb with h | h
    · unfold hdB at h
      rcases List.mem_append.1 h with h | h
      · exact fds_byts _ b h
      · exact big_lt _ _ b h
    · exact ht b h
  have hlen : (hdB W H D sw sh A r N p ln ++ t).length = m := by rw [List.length_append, hdB_len]; exact hm
  have hrt : rtl (hdB W H D sw sh A r N p ln ++ t) = true := by
    unfold rtl
    rw [a1, a2, a3, hAA, b1, b2, d1, d2, d3, ← hR]
    unfold rgt rmb
    simp only [Nat.add_zero, Nat.reduceAdd, c0, c1, c2, c3]
  have hth : thB (hdB W H D sw sh A r N p ln ++ t) = hdB W H D sw sh A r N p ln := by
    unfold thB
    rw [a1, a2, a3, hAA, b1, b2, d1, d2, d3]
    unfold hdB hdF
    simp only [Nat.add_zero, Nat.reduceAdd]
    have e0 := c0
    have e1 := c1
    have e2 := c2
    have e3 := c3
    unfold hdB hdF at e0 e1 e2 e3
    rw [e0, e1, e2, e3]
  have htk : (hdB W H D sw sh A r N p ln ++ t).take 32 = hdB W H D sw sh A r N p ln := List.take_left' (hdB_len ..)
  have hok1 : hok (hdB W H D sw sh A r N p ln ++ t) = true := by
    unfold hok
    rw [hrt, hth, htk]
    simp
  have h := head_yes g off cap m (hdB W H D sw sh A r N p ln ++ t) w hrd hby hlen hc hcap (by omega) hrt
  rw [if_pos hok1] at h
  have hv : tldv (hdB W H D sw sh A r N p ln ++ t) = hvv (W : Int) (H : Int) (D : Int) A (sw : Int) (sh : Int) (fun i => (r i : Int)) (N : Int) (p : Int) (ln : Int) := by
    unfold tldv hvv
    rw [a1, a2, a3, hAA, b1, b2, d1, d2, d3]
    simp only [Nat.add_zero, Nat.reduceAdd, c0, c1, c2, c3]
  rw [hv] at h
  exact h

set_option maxHeartbeats 8000000 in
set_option maxRecDepth 1000000 in
theorem tsize_ok (W H D : Int) (A : Bool) (sw sh : Int) (r : Nat → Int) (N p : Nat) (ln : Int) (w : World) (s0 : -9223372036854775808 ≤ sw) (s1 : sw ≤ 9223372036854775807) (hR : rgt W H D A sw sh r (N : Int) (p : Int) ln = true) (hN : N ≤ 70000) (hp : p ≤ 16) :
    Calls Tryz.prog 24 #[hvv W H D A sw sh r (N : Int) (p : Int) ln] w fun e w' => e = .returned (.int .i64 ((8 * N + 4 * p + 4 : Nat) : Int)) ∧ Kept [] w w' := by
  have C1 := Hid.mk (fun u => pright_any W H D A sw sh r (N : Int) (p : Int) ln u s0 s1)
  rw [hR] at C1
  have C2 := Hid.mk (fun u => ptz_any N p u (by omega) (by omega))
  obtain ⟨T, eT⟩ : ∃ T, 8 * N + 4 * p + 4 = T := ⟨_, rfl⟩
  rw [eT] at C2 ⊢
  obtain ⟨r0, er0⟩ : ∃ x, r 0 = x := ⟨_, rfl⟩
  obtain ⟨r1, er1⟩ : ∃ x, r 1 = x := ⟨_, rfl⟩
  obtain ⟨r2, er2⟩ : ∃ x, r 2 = x := ⟨_, rfl⟩
  obtain ⟨r3, er3⟩ : ∃ x, r 3 = x := ⟨_, rfl⟩
  have e9 : hvv W H D A sw sh r (N : Int) (p : Int) ln = .agg #[.int .i64 W, .int .i64 H, .int .i64 D, .bool A, .int .i64 sw, .int .i64 sh, .int .i64 r0, .int .i64 r1, .int .i64 r2, .int .i64 r3, .int .i64 (N : Int), .int .i64 (p : Int), .int .i64 ln] := by unfold hvv; rw [er0, er1, er2, er3]
  rw [e9] at C1 ⊢
  obtain ⟨w1, e1⟩ : ∃ w1, w.alloc (.cells #[.int .i64 W, .int .i64 H, .int .i64 D, .bool A, .int .i64 sw, .int .i64 sh, .int .i64 r0, .int .i64 r1, .int .i64 r2, .int .i64 r3, .int .i64 (N : Int), .int .i64 (p : Int), .int .i64 ln] 27 (0, 0)) = w1 := ⟨_, rfl⟩
  obtain ⟨B, eB⟩ : ∃ B, w.heap.size = B := ⟨_, rfl⟩
  have K1 : Hid (Kept [] w w1) := Hid.mk (by rw [← e1]; exact (Kept.refl [] w).alloc _)
  have HB1 := Hid.mk (show w1.heap[B]? = some (.cells #[.int .i64 W, .int .i64 H, .int .i64 D, .bool A, .int .i64 sw, .int .i64 sh, .int .i64 r0, .int .i64 r1, .int .i64 r2, .int .i64 r3, .int .i64 (N : Int), .int .i64 (p : Int), .int .i64 ln] 27 (0, 0)) by rw [← e1, ← eB]; exact heap_alloc_new _ _)
  obtain ⟨h0, h1, h2, h3, h4, h5, h6, h7, h8, h9, h10, h11, h12⟩ := cel13 HB1.out
  clear hR er0 er1 er2 er3 e9 eT s0 s1
  go_enter Tryz.func24, Tryz.ntmps24
  go_wp2_with (fail)
  clear e1 eB
  refine (C1.out _).mono ?_
  rintro e w2 ⟨rfl, k2⟩
  have K2 := Hid.mk k2
  clear h0 h1 h2 h3 h4 h5 h6 h7 h8 h9 h10 h11 h12
  obtain ⟨h0, h1, h2, h3, h4, h5, h6, h7, h8, h9, h10, h11, h12⟩ := cel13 (k2.heap HB1.out (by simp))
  clear k2
  go_wp2_with (fail)
  refine (C2.out _).mono ?_
  rintro e w3 ⟨rfl, hw⟩
  obtain rfl := hw.symm
  go_wp2
  go_ret
  exact ⟨rfl, K1.out.trans K2.out⟩
end Go.Proofs.YthhegomjipbdbaaGreatDoor.Pc
