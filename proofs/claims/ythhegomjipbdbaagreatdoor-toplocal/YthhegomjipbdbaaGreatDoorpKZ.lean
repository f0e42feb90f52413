import Derived.Test.YthhegomjipbdbaaGreatDoorpHZ
import Derived.Test.YthhegomjipbdbaaGreatDoorcC6Z
import Derived.Test.YthhegomjipbdbaaGreatDoorqJZ
import Derived.Test.YthhegomjipbdbaaGreatDoorpJ
namespace Go.Proofs.YthhegomjipbdbaaGreatDoor.Pc
open Go.RowKit

/-- The sum of bytes, as a number. -/
def s4 (l : List Nat) : Nat := (Cr.sm l).toNat
theorem s4_lt (l : List Nat) : s4 l < 4294967296 := (Cr.sm l).isLt
theorem Tryz.infoF : (Tryz.prog.info? 75).map (·.size) = some 2 := by kernel_rfl

set_option maxHeartbeats 4000000 in
set_option maxRecDepth 1000000 in
theorem sumOf_any (ao : Option Addr) (cap m : Nat) (l : List Nat) (w : World) (hr : Reads w ao l) (hb : Byts l) (hm : l.length = m) (hl : m ≤ 9223372036854775807) :
    Calls Tryz.prog 27 #[.slice ao m cap] w fun e w' => e = .returned (.agg #[.int .i64 (s4 l : Int), .int .i64 4]) ∧ Kept [] w w' := by
  obtain ⟨w1, e1⟩ : ∃ w1, w.alloc (.cells #[.int .i64 0, .int .i64 0] 75 (0, 0)) = w1 := ⟨_, rfl⟩
  have k1 : Kept [] w w1 := by rw [← e1]; exact (Kept.refl [] w).alloc _
  have b1 : w1.heap[w.heap.size]? = some (.cells #[.int .i64 0, .int .i64 0] 75 (0, 0)) := by rw [← e1]; exact heap_alloc_new _ _
  have C1 := Hid.mk (Cr.sum_any ao cap m l w1 (hr.keep k1) hb hm hl)
  have HB := Hid.mk b1
  have K1 := Hid.mk k1
  have hx : Cr.nm (Cr.sm l) = (s4 l : Int) := rfl
  rw [hx] at C1
  have hlt := s4_lt l
  obtain ⟨x, ex⟩ : ∃ x, s4 l = x := ⟨_, rfl⟩
  rw [ex] at C1 hlt
  have EX := Hid.mk ex
  have hw : IntKind.i64.wrap (x : Int) = (x : Int) := Tl.wrap_i (by omega) (by omega)
  clear hr hb hm hl hx k1 b1 ex hlt
  go_enter Tryz.func27, Tryz.ntmps27
  go_wp2_with (fail)
  clear e1
  refine C1.out.mono ?_
  rintro e w2 ⟨rfl, K2⟩
  have h2 := K2.heap HB.out (by simp)
  have S9 := setAll_row [.int .i64 (x : Int), .int .i64 4] 0 w2 [] _ h2 rfl rfl
  simp only [setAll] at S9
  have S9 := Hid.mk S9
  have z0 := cellAt (i := 0) h2 rfl
  have z1 := cellAt (i := 1) h2 rfl
  have zz := row_fz h2
  have K2 := Hid.mk K2
  clear h2
  go_wp2
  refine bodyPost_ret (v := .agg #[.int .i64 (x : Int), .int .i64 4]) ?_ rfl ⟨by rw [EX.out], ?_⟩
  · exact results_cell_row rfl _ _ w.heap.size 75 _ (0, 0) _ rfl S9.out.1 Tryz.underlying75 rfl Tryz.infoF
  · exact (K1.out.trans K2.out).step S9.out.2 (fun x hx => by simp at hx; subst hx; exact .inr (Nat.le_refl _))
/-- Fields as values. -/
def fvs : List (Nat × Nat) → List Value
  | [] => []
  | p :: t => .int .i64 (p.1 : Int) :: .int .i64 (p.2 : Int) :: fvs t
theorem fvs_at (fs : List (Nat × Nat)) : ∀ i, i < fs.length → (fvs fs)[i * 2]? = some (.int .i64 ((fs.getD i (0, 0)).1 : Int)) ∧ (fvs fs)[i * 2 + 1]? = some (.int .i64 ((fs.getD i (0, 0)).2 : Int)) := by
  induction fs with
  | nil => intro i hi; simp at hi
  | cons p t ih =>
    intro i hi
    cases i with
    | zero => exact ⟨rfl, rfl⟩
    | succ i =>
      have h := ih i (by simpa using hi)
      rw [show (i + 1) * 2 = i * 2 + 2 by omega]
      exact h
theorem Fds.of {w : World} {g t : Nat} {fs : List (Nat × Nat)} (h : w.heap[g]? = some (.cells (fvs fs).toArray t (0, 0))) : Fds w (some ⟨g, 0, none⟩) fs :=
  ⟨g, 0, rfl, fun i hi => by
    obtain ⟨a, b⟩ := fvs_at fs i hi
    rw [Nat.zero_add]
    exact ⟨cellAt h (by rw [List.getElem?_toArray]; exact a), cellAt h (by rw [List.getElem?_toArray]; exact b)⟩⟩
/-- A head's fields. -/
def hdF (W H D sw sh : Nat) (A : Bool) (r : Nat → Nat) (N p ln : Nat) : List (Nat × Nat) :=
  [(1145854257, 4), (W, 2), (H, 2), (D, 1), (if A then 1 else 0, 1), (sw, 2), (sh, 2), (r 0, 1), (r 1, 1), (r 2, 1), (r 3, 1), (N, 4), (p, 1), (0, 1), (ln, 4)]
/-- A head's bytes. -/
def hdB (W H D sw sh : Nat) (A : Bool) (r : Nat → Nat) (N p ln : Nat) : List Nat :=
  fds (hdF W H D sw sh A r N p ln) ++ big 4 (s4 (fds (hdF W H D sw sh A r N p ln)))
theorem hdF_len (W H D sw sh : Nat) (A : Bool) (r : Nat → Nat) (N p ln : Nat) : (fds (hdF W H D sw sh A r N p ln)).length = 28 := by
  simp [hdF, fds, big_length]
theorem hdB_len (W H D sw sh : Nat) (A : Bool) (r : Nat → Nat) (N p ln : Nat) : (hdB W H D sw sh A r N p ln).length = 32 := by
  unfold hdB; rw [List.length_append, hdF_len, big_length]
theorem fds_byts (fs : List (Nat × Nat)) : Byts (fds fs) := by
  induction fs with
  | nil => intro b hb; simp [fds] at hb
  | cons p t ih =>
    intro b hb
    simp only [fds, List.mem_append] at hb
    rcases hb with h | h
    · exact big_lt _ _ b h
    · exact ih b h

set_option maxHeartbeats 8000000 in
set_option maxRecDepth 1000000 in
theorem headBytes_any (W H D sw sh : Nat) (A : Bool) (r : Nat → Nat) (N p ln : Nat) (w : World) (hW : W < 65536) (hH : H < 65536) (hD : D < 256) (hsw : sw < 65536) (hsh : sh < 65536) (hr : ∀ i, i < 4 → r i < 256) (hN : N < 4294967296) (hp : p < 256) (hln : ln < 4294967296) :
    Calls Tryz.prog 54 #[.agg #[.int .i64 (W : Int), .int .i64 (H : Int), .int .i64 (D : Int), .bool A, .int .i64 (sw : Int), .int .i64 (sh : Int), .int .i64 (r 0 : Int), .int .i64 (r 1 : Int), .int .i64 (r 2 : Int), .int .i64 (r 3 : Int), .int .i64 (N : Int), .int .i64 (p : Int), .int .i64 (ln : Int)]] w fun e w' => ∃ V, e = .returned V ∧ w'.ownsRow w.heap.size 5 1 V 32 ((hdB W H D sw sh A r N p ln).map byt) ∧ Kept [] w w' := by
  obtain ⟨w1, e1⟩ : ∃ w1, w.alloc (.cells #[.int .i64 (W : Int), .int .i64 (H : Int), .int .i64 (D : Int), .bool A, .int .i64 (sw : Int), .int .i64 (sh : Int), .int .i64 (r 0 : Int), .int .i64 (r 1 : Int), .int .i64 (r 2 : Int), .int .i64 (r 3 : Int), .int .i64 (N : Int), .int .i64 (p : Int), .int .i64 (ln : Int)] 27 (0, 0)) = w1 := ⟨_, rfl⟩
  have k1 : Kept [] w w1 := by rw [← e1]; exact (Kept.refl [] w).alloc _
  obtain ⟨h0, h1, h2, h3, h4, h5, h6, h7, h8, h9, h10, h11, h12⟩ := cel13 (show w1.heap[w.heap.size]? = _ by rw [← e1]; exact heap_alloc_new _ _)
  have K1 := Hid.mk k1
  have hfit : Fit8 (hdF W H D sw sh A r N p ln) := by
    have r0 := hr 0 (by omega)
    have r1 := hr 1 (by omega)
    have r2 := hr 2 (by omega)
    have r3 := hr 3 (by omega)
    intro i hi
    have hi : i < 15 := hi
    rcases (show i = 0 ∨ i = 1 ∨ i = 2 ∨ i = 3 ∨ i = 4 ∨ i = 5 ∨ i = 6 ∨ i = 7 ∨ i = 8 ∨ i = 9 ∨ i = 10 ∨ i = 11 ∨ i = 12 ∨ i = 13 ∨ i = 14 by omega) with rfl | rfl | rfl | rfl | rfl | rfl | rfl | rfl | rfl | rfl | rfl | rfl | rfl | rfl | rfl
    all_goals (simp only [hdF, List.getD_cons_zero, List.getD_cons_succ])
    all_goals (refine ⟨by decide, by decide, ?_⟩)
    all_goals (try split)
    all_goals (first | (show _ < 65536; omega) | (show _ < 256; omega) | (show _ < 4294967296; omega) | decide)
  have HFIT := Hid.mk hfit
  obtain ⟨fl, efl⟩ : ∃ fl, fds (hdF W H D sw sh A r N p ln) = fl := ⟨_, rfl⟩
  have HLEN : Hid (fl.length = 28) := Hid.mk (by rw [← efl]; exact hdF_len ..)
  have HBY : Hid (Byts fl) := Hid.mk (by rw [← efl]; exact fds_byts _)
  have HHD : Hid (hdB W H D sw sh A r N p ln = fl ++ big 4 (s4 fl)) := Hid.mk (by unfold hdB; rw [efl])
  have C1 : Hid (∀ w2, Kept [] w1 w2 → w2.heap[w1.heap.size]? = some (.cells (fvs (hdF W H D sw sh A r N p ln)).toArray 75 (0, 0)) → Calls Tryz.prog 71 #[.slice none 0 0, .slice (some ⟨w1.heap.size, 0, none⟩) 15 15] w2 fun e w' => ∃ V', e = .returned V' ∧ w'.ownsRow w1.heap.size 5 1 V' 28 (fl.map byt) ∧ Kept [] w2 w') := Hid.mk (fun w2 k2 h2 => by
    refine (lay_any w1.heap.size (.slice none 0 0) 0 [] (some ⟨w1.heap.size, 0, none⟩) 15 15 (hdF W H D sw sh A r N p ln) w2 ⟨rfl, .inl ⟨rfl, rfl⟩⟩ k2.size (Fds.of h2) rfl HFIT.out (by decide) (by decide) (by intro g off e h; cases h)).mono ?_
    rintro e w' ⟨V', rfl, ho, k, _⟩
    rw [efl, HLEN.out] at ho
    exact ⟨V', rfl, by simpa using ho, by simpa [Value.ownBlock] using k⟩)
  clear hfit hW hH hD hsw hsh hr hN hp hln efl
  go_enter Tryz.func54, Tryz.ntmps54
  obtain ⟨al, eal⟩ : ∃ al : Int, ((if A then 1 else 0 : Nat) : Int) = al := ⟨_, rfl⟩
  have C1' := C1.out
  have C1 : Hid (∀ w2, Kept [] w1 w2 → w2.heap[w1.heap.size]? = some (.cells #[.int .i64 1145854257, .int .i64 4, .int .i64 (W : Int), .int .i64 2, .int .i64 (H : Int), .int .i64 2, .int .i64 (D : Int), .int .i64 1, .int .i64 al, .int .i64 1, .int .i64 (sw : Int), .int .i64 2, .int .i64 (sh : Int), .int .i64 2, .int .i64 (r 0 : Int), .int .i64 1, .int .i64 (r 1 : Int), .int .i64 1, .int .i64 (r 2 : Int), .int .i64 1, .int .i64 (r 3 : Int), .int .i64 1, .int .i64 (N : Int), .int .i64 4, .int .i64 (p : Int), .int .i64 1, .int .i64 0, .int .i64 1, .int .i64 (ln : Int), .int .i64 4] 75 (0, 0)) → Calls Tryz.prog 71 #[.slice none 0 0, .slice (some ⟨w1.heap.size, 0, none⟩) 15 15] w2 fun e w' => ∃ V', e = .returned V' ∧ w'.ownsRow w1.heap.size 5 1 V' 28 (fl.map byt) ∧ Kept [] w2 w') := Hid.mk (fun w2 k2 h2 => C1' w2 k2 (by rw [h2, ← eal]; rfl))
  clear C1'
  have EAL := Hid.mk eal
  clear eal
  go_upto_if 7 with (fail)
  go_cut [3] (fun s wc => s = .int .i64 al ∧ wc = w1)
  case first =>
    cases A
    · go_wp2
      go_meet
      exact ⟨by rw [← EAL.out]; rfl, rfl⟩
    · go_wp2
      go_meet
      exact ⟨by rw [← EAL.out]; rfl, rfl⟩
  case rest =>
    obtain ⟨rfl, hwc⟩ := hcut
    obtain rfl := hwc.symm
    obtain ⟨w2, e2⟩ : ∃ w2, w1.alloc (.cells #[.int .i64 1145854257, .int .i64 4, .int .i64 (W : Int), .int .i64 2, .int .i64 (H : Int), .int .i64 2, .int .i64 (D : Int), .int .i64 1, .int .i64 al, .int .i64 1, .int .i64 (sw : Int), .int .i64 2, .int .i64 (sh : Int), .int .i64 2, .int .i64 (r 0 : Int), .int .i64 1, .int .i64 (r 1 : Int), .int .i64 1, .int .i64 (r 2 : Int), .int .i64 1, .int .i64 (r 3 : Int), .int .i64 1, .int .i64 (N : Int), .int .i64 4, .int .i64 (p : Int), .int .i64 1, .int .i64 0, .int .i64 1, .int .i64 (ln : Int), .int .i64 4] 75 (0, 0)) = w2 := ⟨_, rfl⟩
    have k2 : Kept [] w1 w2 := by rw [← e2]; exact (Kept.refl [] w1).alloc _
    have C2 := Hid.mk (C1.out w2 k2 (by rw [← e2]; exact heap_alloc_new _ _))
    have K2 := Hid.mk (K1.out.trans k2)
    have HZ1 := Hid.mk (K1.out.size)
    have HZ2 := Hid.mk (k2.size)
    clear k2 e1
    go_wp2_with (fail)
    clear e2 h0 h1 h2 h3 h4 h5 h6 h7 h8 h9 h10 h11 h12
    refine C2.out.mono ?_
    rintro e w3 ⟨V3, rfl, ho3, k3⟩
    obtain ⟨b3, c3, rfl⟩ := row_form ho3
    have HO3 := Hid.mk ho3
    have K3 := Hid.mk (K2.out.trans k3)
    have HZ3 : Hid (w1.heap.size ≤ w3.heap.size) := Hid.mk (Nat.le_trans HZ2.out k3.size)
    have C3 := Hid.mk (sumOf_any b3 c3 28 fl w3 (reads_row ho3) HBY.out HLEN.out (by decide))
    have HS4 := s4_lt fl
    obtain ⟨x, ex⟩ : ∃ x, s4 fl = x := ⟨_, rfl⟩
    rw [ex] at C3 HHD HS4
    have HX := Hid.mk HS4
    clear ho3 ex HS4 k3
    go_wp2_with (fail)
    refine C3.out.mono ?_
    rintro e w4 ⟨rfl, k4⟩
    obtain ⟨w5, e5⟩ : ∃ w5, w4.alloc (.cells #[.int .i64 (x : Int), .int .i64 4] 75 (0, 0)) = w5 := ⟨_, rfl⟩
    have k5 : Kept [] w4 w5 := by rw [← e5]; exact (Kept.refl [] w4).alloc _
    have b5 : w5.heap[w4.heap.size]? = some (.cells #[.int .i64 (x : Int), .int .i64 4] 75 (0, 0)) := by rw [← e5]; exact heap_alloc_new _ _
    have C5 := Hid.mk (lay_any w1.heap.size (.slice b3 28 c3) 28 _ (some ⟨w4.heap.size, 0, none⟩) 1 1 [(x, 4)] w5 (k5.row (k4.row HO3.out (by simp)) (by simp)) (Nat.le_trans HZ3.out (Nat.le_trans k4.size k5.size)) (Fds.of (fs := [(x, 4)]) b5) rfl (fun i hi => by
      have h0 : i = 0 := by simpa using hi
      subst h0
      exact ⟨by show (1 : Nat) ≤ 4; decide, by show (4 : Nat) ≤ 8; decide, HX.out⟩) (by decide) (by decide) (fun g off e hb => by
      cases e
      have h1 := own_lo HO3.out hb
      have h2 := k4.size
      omega))
    have K5 := Hid.mk ((K3.out.trans k4).trans k5)
    go_wp2_with (fail)
    clear e5
    refine C5.out.mono ?_
    rintro e w6 ⟨V6, rfl, ho6, k6, _⟩
    have HE : Hid (w6.ownsRow w.heap.size 5 1 V6 32 ((hdB W H D sw sh A r N p ln).map byt)) := Hid.mk (by
      rw [HHD.out, List.map_append]
      have h1 := own_base ho6 HZ1.out
      have h2 : fds [(x, 4)] = big 4 x := by simp [fds]
      rw [h2, big_length] at h1
      exact h1)
    have HK6 : Hid (Kept [] w w6) := Hid.mk (K5.out.step k6 (fun z hz => .inr (Nat.le_trans HZ1.out (own_lo HO3.out (by simpa using hz)).1)))
    clear ho6 k6 b5 k5 k4
    go_wp2
    go_ret
    exact ⟨_, rfl, HE.out, HK6.out⟩
end Go.Proofs.YthhegomjipbdbaaGreatDoor.Pc

namespace Go.Proofs.YthhegomjipbdbaaGreatDoor.Pc
open Go.RowKit

/-- A head's bytes, as they must be by what they say. -/
def thB (l : List Nat) : List Nat := hdB (nb l 4 2) (nb l 6 2) (nb l 8 1) (nb l 10 2) (nb l 12 2) (!(((nb l 9 1 : Nat) : Int) == 0)) (fun i => nb l (14 + i) 1) (nb l 18 4) (nb l 22 1) (nb l 24 4)
theorem thB_len (l : List Nat) : (thB l).length = 32 := hdB_len ..
/-- Do they tell a head that may be? -/
def rtl (l : List Nat) : Bool := rgt (nb l 4 2 : Int) (nb l 6 2 : Int) (nb l 8 1 : Int) (!(((nb l 9 1 : Nat) : Int) == 0)) (nb l 10 2 : Int) (nb l 12 2 : Int) (fun i => (nb l (14 + i) 1 : Int)) (nb l 18 4 : Int) (nb l 22 1 : Int) (nb l 24 4 : Int)
/-- Is it a head? -/
def hok (l : List Nat) : Bool := rtl l && ((bstr (thB l)).toList == (bstr (l.take 32)).toList)
theorem nbn {l : List Nat} (h : Byts l) (hl : 32 ≤ l.length) (a k M : Nat) (hk : a + k ≤ 32) (hM : 256 ^ k = M) : nb l a k < M := by
  have := nb_lt h (a := a) (k := k) (by omega)
  omega

set_option maxHeartbeats 16000000 in
set_option maxRecDepth 1000000 in
theorem head_yes (g off cap m : Nat) (l : List Nat) (w : World) (hr : Reads w (some ⟨g, off, none⟩) l) (hb : Byts l) (hm : l.length = m) (hc : m ≤ cap) (hcap : cap ≤ 9223372036854775807) (h32 : 32 ≤ m) (hrt : rtl l = true) :
    Calls Tryz.prog 23 #[.slice (some ⟨g, off, none⟩) m cap] w fun e w' => e = .returned (if hok l then .tuple #[tldv l, .int .i64 0] else .tuple #[.agg #[.int .i64 0, .int .i64 0, .int .i64 0, .bool false, .int .i64 0, .int .i64 0, .int .i64 0, .int .i64 0, .int .i64 0, .int .i64 0, .int .i64 0, .int .i64 0, .int .i64 0], .int .i64 123]) ∧ Kept [] w w' := by
  obtain ⟨w1, e1⟩ : ∃ w1, w.alloc (.cells #[.int .i64 0, .int .i64 0, .int .i64 0, .bool false, .int .i64 0, .int .i64 0, .int .i64 0, .int .i64 0, .int .i64 0, .int .i64 0, .int .i64 0, .int .i64 0, .int .i64 0] 27 (0, 0)) = w1 := ⟨_, rfl⟩
  have k1 : Kept [] w w1 := by rw [← e1]; exact (Kept.refl [] w).alloc _
  obtain ⟨B, eB⟩ : ∃ B, w.heap.size = B := ⟨_, rfl⟩
  have b1 : w1.heap[B]? = some (.cells #[.int .i64 0, .int .i64 0, .int .i64 0, .bool false, .int .i64 0, .int .i64 0, .int .i64 0, .int .i64 0, .int .i64 0, .int .i64 0, .int .i64 0, .int .i64 0, .int .i64 0] 27 (0, 0)) := by rw [← e1, ← eB]; exact heap_alloc_new _ _
  have C1 := Hid.mk (told_any g off cap m l w1 (hr.keep k1) hb hm hc hcap h32)
  have hn := fun a k M => nbn hb (by omega : 32 ≤ l.length) a k M
  have CR : Hid (∀ u, Calls Tryz.prog 25 #[tldv l] u fun e w' => e = .returned (.bool (rtl l)) ∧ Kept [] u w') := Hid.mk (fun u => pright_any (nb l 4 2 : Int) (nb l 6 2 : Int) (nb l 8 1 : Int) (!(((nb l 9 1 : Nat) : Int) == 0)) (nb l 10 2 : Int) (nb l 12 2 : Int) (fun i => (nb l (14 + i) 1 : Int)) (nb l 18 4 : Int) (nb l 22 1 : Int) (nb l 24 4 : Int) u (by omega) (by have := hn 10 2 65536 (by decide) (by decide); omega))
  have CH : Hid (∀ u, Calls Tryz.prog 54 #[tldv l] u fun e w' => ∃ V, e = .returned V ∧ w'.ownsRow u.heap.size 5 1 V 32 ((thB l).map byt) ∧ Kept [] u w') := Hid.mk (fun u => headBytes_any (nb l 4 2) (nb l 6 2) (nb l 8 1) (nb l 10 2) (nb l 12 2) (!(((nb l 9 1 : Nat) : Int) == 0)) (fun i => nb l (14 + i) 1) (nb l 18 4) (nb l 22 1) (nb l 24 4) u (hn 4 2 _ (by decide) (by decide)) (hn 6 2 _ (by decide) (by decide)) (hn 8 1 _ (by decide) (by decide)) (hn 10 2 _ (by decide) (by decide)) (hn 12 2 _ (by decide) (by decide)) (fun i hi => hn (14 + i) 1 _ (by omega) (by decide)) (hn 18 4 _ (by decide) (by decide)) (hn 22 1 _ (by decide) (by decide)) (hn 24 4 _ (by decide) (by decide)))
  have HRT : Hid (∀ u, Kept [] w1 u → Reads u (some ⟨g, off, none⟩) (l.take 32)) := Hid.mk (fun u k => by
    have h9 := reads_cut ((hr.keep k1).keep k) 0 32 (by omega)
    simpa using h9)
  have HLT : Hid ((l.take 32).length = 32) := Hid.mk (by simp; omega)
  have EH : Hid (hok l = (rtl l && ((bstr (thB l)).toList == (bstr (l.take 32)).toList))) := Hid.mk rfl
  have HTL := Hid.mk (thB_len l)
  have d32 : decide ((m : Int) < 32) = false := by simp; omega
  have i32 : (32 : Int) ≤ (cap : Int) := by omega
  obtain ⟨x0, ex0⟩ : ∃ x, nb l 4 2 = x := ⟨_, rfl⟩
  obtain ⟨x1, ex1⟩ : ∃ x, nb l 6 2 = x := ⟨_, rfl⟩
  obtain ⟨x2, ex2⟩ : ∃ x, nb l 8 1 = x := ⟨_, rfl⟩
  obtain ⟨x3, ex3⟩ : ∃ x, nb l 9 1 = x := ⟨_, rfl⟩
  obtain ⟨x4, ex4⟩ : ∃ x, nb l 10 2 = x := ⟨_, rfl⟩
  obtain ⟨x5, ex5⟩ : ∃ x, nb l 12 2 = x := ⟨_, rfl⟩
  obtain ⟨x6, ex6⟩ : ∃ x, nb l 14 1 = x := ⟨_, rfl⟩
  obtain ⟨x7, ex7⟩ : ∃ x, nb l 15 1 = x := ⟨_, rfl⟩
  obtain ⟨x8, ex8⟩ : ∃ x, nb l 16 1 = x := ⟨_, rfl⟩
  obtain ⟨x9, ex9⟩ : ∃ x, nb l 17 1 = x := ⟨_, rfl⟩
  obtain ⟨x10, ex10⟩ : ∃ x, nb l 18 4 = x := ⟨_, rfl⟩
  obtain ⟨x11, ex11⟩ : ∃ x, nb l 22 1 = x := ⟨_, rfl⟩
  obtain ⟨x12, ex12⟩ : ∃ x, nb l 24 4 = x := ⟨_, rfl⟩
  obtain ⟨al, eal⟩ : ∃ x, (!((x3 : Int) == 0)) = x := ⟨_, rfl⟩
  have ET : Hid (tldv l = .agg #[.int .i64 (x0 : Int), .int .i64 (x1 : Int), .int .i64 (x2 : Int), .bool al, .int .i64 (x4 : Int), .int .i64 (x5 : Int), .int .i64 (x6 : Int), .int .i64 (x7 : Int), .int .i64 (x8 : Int), .int .i64 (x9 : Int), .int .i64 (x10 : Int), .int .i64 (x11 : Int), .int .i64 (x12 : Int)]) := Hid.mk (by unfold tldv hvv; simp only [Nat.add_zero, Nat.reduceAdd, ex0, ex1, ex2, ex3, ex4, ex5, ex6, ex7, ex8, ex9, ex10, ex11, ex12, eal])
  rw [ET.out] at C1 CR CH ⊢
  obtain ⟨hk9, eh9⟩ : ∃ x, hok l = x := ⟨_, rfl⟩
  rw [eh9] at EH ⊢
  obtain ⟨tb, etb⟩ : ∃ x, thB l = x := ⟨_, rfl⟩
  rw [etb] at CH EH HTL
  obtain ⟨t2, et2⟩ : ∃ x, l.take 32 = x := ⟨_, rfl⟩
  rw [et2] at HRT HLT EH
  rw [hrt] at CR EH
  obtain ⟨RV, eRV⟩ : ∃ RV : Value, (if hk9 then .tuple #[.agg #[.int .i64 (x0 : Int), .int .i64 (x1 : Int), .int .i64 (x2 : Int), .bool al, .int .i64 (x4 : Int), .int .i64 (x5 : Int), .int .i64 (x6 : Int), .int .i64 (x7 : Int), .int .i64 (x8 : Int), .int .i64 (x9 : Int), .int .i64 (x10 : Int), .int .i64 (x11 : Int), .int .i64 (x12 : Int)], .int .i64 0] else .tuple #[.agg #[.int .i64 0, .int .i64 0, .int .i64 0, .bool false, .int .i64 0, .int .i64 0, .int .i64 0, .int .i64 0, .int .i64 0, .int .i64 0, .int .i64 0, .int .i64 0, .int .i64 0], .int .i64 123]) = RV := ⟨_, rfl⟩
  rw [eRV]
  have ERV := Hid.mk eRV
  clear eRV
  have K1 := Hid.mk k1
  have HB := Hid.mk b1
  have HBB := Hid.mk eB
  clear hr hb hm hc hcap h32 k1 b1 hn ET eh9 etb et2 hrt eal ex0 ex1 ex2 ex3 ex4 ex5 ex6 ex7 ex8 ex9 ex10 ex11 ex12
  go_enter Tryz.func23, Tryz.ntmps23
  go_wp2_with (fail)
  clear e1 eB
  refine C1.out.mono ?_
  rintro e w2 ⟨rfl, k2⟩
  obtain ⟨w3, e3⟩ : ∃ w3, w2.alloc (.cells #[.int .i64 (x0 : Int), .int .i64 (x1 : Int), .int .i64 (x2 : Int), .bool al, .int .i64 (x4 : Int), .int .i64 (x5 : Int), .int .i64 (x6 : Int), .int .i64 (x7 : Int), .int .i64 (x8 : Int), .int .i64 (x9 : Int), .int .i64 (x10 : Int), .int .i64 (x11 : Int), .int .i64 (x12 : Int)] 27 (0, 0)) = w3 := ⟨_, rfl⟩
  obtain ⟨Q, eQ⟩ : ∃ Q, w2.heap.size = Q := ⟨_, rfl⟩
  have k3 : Kept [] w2 w3 := by rw [← e3]; exact (Kept.refl [] w2).alloc _
  have HQ := Hid.mk (show w3.heap[Q]? = some (.cells #[.int .i64 (x0 : Int), .int .i64 (x1 : Int), .int .i64 (x2 : Int), .bool al, .int .i64 (x4 : Int), .int .i64 (x5 : Int), .int .i64 (x6 : Int), .int .i64 (x7 : Int), .int .i64 (x8 : Int), .int .i64 (x9 : Int), .int .i64 (x10 : Int), .int .i64 (x11 : Int), .int .i64 (x12 : Int)] 27 (0, 0)) by rw [← e3, ← eQ]; exact heap_alloc_new _ _)
  have K3 := Hid.mk (k2.trans k3)
  have HQB : Hid (B < Q) := Hid.mk (by rw [← eQ]; exact Nat.lt_of_lt_of_le (lt_of_block HB.out) k2.size)
  have RK : Hid (∀ u, Kept [] w3 u → u.cell? ⟨Q, 0, none⟩ = some (.int .i64 (x0 : Int)) ∧ u.cell? ⟨Q, 1, none⟩ = some (.int .i64 (x1 : Int)) ∧ u.cell? ⟨Q, 2, none⟩ = some (.int .i64 (x2 : Int)) ∧ u.cell? ⟨Q, 3, none⟩ = some (.bool al) ∧ u.cell? ⟨Q, 4, none⟩ = some (.int .i64 (x4 : Int)) ∧ u.cell? ⟨Q, 5, none⟩ = some (.int .i64 (x5 : Int)) ∧ u.cell? ⟨Q, 6, none⟩ = some (.int .i64 (x6 : Int)) ∧ u.cell? ⟨Q, 7, none⟩ = some (.int .i64 (x7 : Int)) ∧ u.cell? ⟨Q, 8, none⟩ = some (.int .i64 (x8 : Int)) ∧ u.cell? ⟨Q, 9, none⟩ = some (.int .i64 (x9 : Int)) ∧ u.cell? ⟨Q, 10, none⟩ = some (.int .i64 (x10 : Int)) ∧ u.cell? ⟨Q, 11, none⟩ = some (.int .i64 (x11 : Int)) ∧ u.cell? ⟨Q, 12, none⟩ = some (.int .i64 (x12 : Int))) := Hid.mk (fun u k => cel13 (k.heap HQ.out (by simp)))
  have RK0 := RK.out _ (Kept.refl [] w3).drew
  clear k2 k3 C1
  go_wp2_with (fail)
  clear e3 eQ
  refine wp_region_held_drew (S := fun u => u.cell? ⟨Q, 0, none⟩ = some (.int .i64 (x0 : Int)) ∧ u.cell? ⟨Q, 1, none⟩ = some (.int .i64 (x1 : Int)) ∧ u.cell? ⟨Q, 2, none⟩ = some (.int .i64 (x2 : Int)) ∧ u.cell? ⟨Q, 3, none⟩ = some (.bool al) ∧ u.cell? ⟨Q, 4, none⟩ = some (.int .i64 (x4 : Int)) ∧ u.cell? ⟨Q, 5, none⟩ = some (.int .i64 (x5 : Int)) ∧ u.cell? ⟨Q, 6, none⟩ = some (.int .i64 (x6 : Int)) ∧ u.cell? ⟨Q, 7, none⟩ = some (.int .i64 (x7 : Int)) ∧ u.cell? ⟨Q, 8, none⟩ = some (.int .i64 (x8 : Int)) ∧ u.cell? ⟨Q, 9, none⟩ = some (.int .i64 (x9 : Int)) ∧ u.cell? ⟨Q, 10, none⟩ = some (.int .i64 (x10 : Int)) ∧ u.cell? ⟨Q, 11, none⟩ = some (.int .i64 (x11 : Int)) ∧ u.cell? ⟨Q, 12, none⟩ = some (.int .i64 (x12 : Int))) (by kernel_rfl) RK0 (fun hH0 => ?_)
  clear RK0
  refine wpAnyH_take (i := 0) (oi := _) (v := ?_) rfl (by kernel_rfl) (by kernel_rfl) (by kernel_rfl) (fun _ _ _ h => h) (Or.inl ⟨by rfl, ?y0⟩) (by assumption) ?r0
  case y0 => (intro w hSw; (try dsimp only at hSw); go_simp; try with_reducible rfl)
  refine wpAnyH_ready (rs := [1]) (by kernel_rfl) (by simp) ?_
  refine AllReadyH.cons rfl (fun K hK => ?_) AllReadyH.nil
  go_simp
  go_at_call 25
  refine (CR.out _).mono ?_
  rintro e w4 ⟨rfl, k4⟩
  have K4 : Hid (Kept [] w3 w4) := Hid.mk (((Kept.refl [] w3).drew).trans k4)
  refine hK.out _ _ (RK.out _ K4.out) (fun hH1 => ?_)
  clear hK K k4 hH0 CR
  refine wpAnyH_take (i := 2) (oi := _) (v := ?_) rfl (by kernel_rfl) (by kernel_rfl) (by kernel_rfl) (fun _ _ _ h => h) (Or.inl ⟨by rfl, ?y2⟩) (by assumption) ?r2
  case y2 => (intro w hSw; (try dsimp only at hSw); go_simp; try with_reducible rfl)
  refine wpAnyH_take (i := 3) (oi := _) (v := ?_) rfl (by kernel_rfl) (by kernel_rfl) (by kernel_rfl) (fun _ _ _ h => h) (Or.inl ⟨by rfl, ?y3⟩) (by assumption) ?r3
  case y3 => (intro w hSw; (try dsimp only at hSw); go_simp; try with_reducible rfl)
  refine wpAnyH_take (i := 4) (oi := _) (v := ?_) rfl (by kernel_rfl) (by kernel_rfl) (by kernel_rfl) (fun _ _ _ h => h) (Or.inl ⟨by rfl, ?y4⟩) (by assumption) ?r4
  case y4 => (intro w hSw; (try dsimp only at hSw); go_simp; try with_reducible rfl)
  refine wpAnyH_take (i := 6) (oi := _) (v := ?_) rfl (by kernel_rfl) (by kernel_rfl) (by kernel_rfl) (fun _ _ _ h => h) (Or.inl ⟨by rfl, ?y6⟩) (by assumption) ?r6
  case y6 => (intro w hSw; (try dsimp only at hSw); go_simp; try with_reducible rfl)
  refine wpAnyH_take (i := 7) (oi := _) (v := ?_) rfl (by kernel_rfl) (by kernel_rfl) (by kernel_rfl) (fun _ _ _ h => h) (Or.inl ⟨by rfl, ?y7⟩) (by assumption) ?r7
  case y7 => (intro w hSw; (try dsimp only at hSw); go_simp; try with_reducible rfl)
  refine wpAnyH_ready (rs := [5]) (by kernel_rfl) (by simp) ?_
  refine AllReadyH.cons rfl (fun K hK => ?_) AllReadyH.nil
  go_simp
  go_at_call 54
  refine (CH.out _).mono ?_
  rintro e w5 ⟨V5, rfl, ho5, k5⟩
  have K5 : Hid (Kept [] w3 w5) := Hid.mk (K4.out.trans k5)
  obtain ⟨b5, c5, rfl⟩ := row_form ho5
  have CE := Hid.mk (equal_any b5 (some ⟨g, off, none⟩) 32 32 c5 cap tb t2 w5 (reads_row ho5) (HRT.out w5 (K3.out.trans K5.out)) HTL.out HLT.out)
  obtain ⟨eb, eeb⟩ : ∃ b, ((bstr tb).toList == (bstr t2).toList) = b := ⟨_, rfl⟩
  rw [eeb] at CE EH
  refine hK.out _ _ (RK.out _ K5.out) (fun hH2 => ?_)
  clear hK K k5 ho5 eeb hH1 CH
  refine wpAnyH_ready (rs := [8]) (by kernel_rfl) (by simp) ?_
  refine AllReadyH.cons rfl (fun K hK => ?_) AllReadyH.nil
  go_simp
  go_at_call 53
  refine CE.out.mono ?_
  rintro e w6 ⟨rfl, hw6⟩
  obtain rfl := hw6.symm
  refine hK.out _ _ (RK.out _ K5.out) (fun hH3 => ?_)
  clear hK K hH2 CE
  refine wpAnyH_take (i := 9) (oi := _) (v := ?_) rfl (by kernel_rfl) (by kernel_rfl) (by kernel_rfl) (fun _ _ _ h => h) (Or.inl ⟨by rfl, ?y9⟩) (by assumption) ?r9
  case y9 => (intro w hSw; (try dsimp only at hSw); go_simp; try with_reducible rfl)
  refine wpAnyH_take (i := 10) (oi := _) (v := ?_) rfl (by kernel_rfl) (by kernel_rfl) (by kernel_rfl) (fun _ _ _ h => h) (Or.inl ⟨by rfl, ?y10⟩) (by assumption) ?r10
  case y10 => (intro w hSw; (try dsimp only at hSw); go_simp; try with_reducible rfl)
  cases eb
  · refine wpAnyH_done (by kernel_rfl) ?_ _
    clear hH3
    obtain ⟨z0, z1, z2, z3, z4, z5, z6, z7, z8, z9, z10, z11, z12⟩ := cel13 ((K3.out.trans K5.out).heap HB.out (by simp))
    have zz := row_fz ((K3.out.trans K5.out).heap HB.out (by simp))
    have S9 := Hid.mk (setAll_row [.int .i64 0, .int .i64 0, .int .i64 0, .bool false, .int .i64 0, .int .i64 0, .int .i64 0, .int .i64 0, .int .i64 0, .int .i64 0, .int .i64 0, .int .i64 0, .int .i64 0] 0 w5 [] _ ((K3.out.trans K5.out).heap HB.out (by simp)) rfl rfl)
    simp only [setAll] at S9
    go_wp2
    refine bodyPost_ret (v := .tuple #[.agg #[.int .i64 0, .int .i64 0, .int .i64 0, .bool false, .int .i64 0, .int .i64 0, .int .i64 0, .int .i64 0, .int .i64 0, .int .i64 0, .int .i64 0, .int .i64 0, .int .i64 0], .int .i64 123]) ?_ rfl ⟨by rw [← ERV.out, if_neg (by have h9 := EH.out; simp at h9; simp [h9])], ?_⟩
    · exact Tl.results_two rfl _ _ B 27 _ (0, 0) _ _ rfl S9.out.1 Tryz.underlying27 Tryz.infoHd rfl
    · exact ((K1.out.trans K3.out).trans K5.out).step S9.out.2 (fun x hx => by simp at hx; subst hx; exact .inr (Nat.le_of_eq HBB.out))
  · refine wpAnyH_done (by kernel_rfl) ?_ _
    clear hH3
    obtain ⟨z0, z1, z2, z3, z4, z5, z6, z7, z8, z9, z10, z11, z12⟩ := cel13 ((K3.out.trans K5.out).heap HB.out (by simp))
    have zz := row_fz ((K3.out.trans K5.out).heap HB.out (by simp))
    obtain ⟨y0, y1, y2, y3, y4, y5, y6, y7, y8, y9, y10, y11, y12⟩ := RK.out _ K5.out
    have S9 := Hid.mk (setAll_row [.int .i64 (x0 : Int), .int .i64 (x1 : Int), .int .i64 (x2 : Int), .bool al, .int .i64 (x4 : Int), .int .i64 (x5 : Int), .int .i64 (x6 : Int), .int .i64 (x7 : Int), .int .i64 (x8 : Int), .int .i64 (x9 : Int), .int .i64 (x10 : Int), .int .i64 (x11 : Int), .int .i64 (x12 : Int)] 0 w5 [] _ ((K3.out.trans K5.out).heap HB.out (by simp)) rfl rfl)
    simp only [setAll] at S9
    go_wp2
    refine bodyPost_ret (v := .tuple #[.agg #[.int .i64 (x0 : Int), .int .i64 (x1 : Int), .int .i64 (x2 : Int), .bool al, .int .i64 (x4 : Int), .int .i64 (x5 : Int), .int .i64 (x6 : Int), .int .i64 (x7 : Int), .int .i64 (x8 : Int), .int .i64 (x9 : Int), .int .i64 (x10 : Int), .int .i64 (x11 : Int), .int .i64 (x12 : Int)], .int .i64 0]) ?_ rfl ⟨by rw [← ERV.out, if_pos (by have h9 := EH.out; simpa using h9)], ?_⟩
    · exact Tl.results_two rfl _ _ B 27 _ (0, 0) _ _ rfl S9.out.1 Tryz.underlying27 Tryz.infoHd rfl
    · exact ((K1.out.trans K3.out).trans K5.out).step S9.out.2 (fun x hx => by simp at hx; subst hx; exact .inr (Nat.le_of_eq HBB.out))
end Go.Proofs.YthhegomjipbdbaaGreatDoor.Pc

namespace Go.Proofs.YthhegomjipbdbaaGreatDoor.Pc
open Go.RowKit

/-- A table's fields: of payloads, of parity rows. -/
def tbP (L : List (List Nat)) : Nat → List (Nat × Nat)
  | 0 => []
  | k + 1 => tbP L k ++ [(lnf L k, 4), (s4 (L.getD k []), 4)]
def tbR (R : List (List Nat)) : Nat → List (Nat × Nat)
  | 0 => []
  | k + 1 => tbR R k ++ [(s4 (R.getD k []), 4)]
/-- A table's bytes ahead of their sum; with it. -/
def tbA (L R : List (List Nat)) : List Nat := fds (tbP L L.length) ++ fds (tbR R R.length)
def tbB (L R : List (List Nat)) : List Nat := tbA L R ++ big 4 (s4 (tbA L R))
theorem tbP_len (L : List (List Nat)) (k : Nat) : (fds (tbP L k)).length = 8 * k := by
  induction k with
  | zero => rfl
  | succ k ih => simp only [tbP, fds_app, List.length_append, ih, fds, big_length, List.append_nil]; omega
theorem tbR_len (L : List (List Nat)) (k : Nat) : (fds (tbR L k)).length = 4 * k := by
  induction k with
  | zero => rfl
  | succ k ih => simp only [tbR, fds_app, List.length_append, ih, fds, big_length, List.append_nil]; omega
theorem tbB_len (L R : List (List Nat)) : (tbB L R).length = 8 * L.length + 4 * R.length + 4 := by
  unfold tbB tbA
  rw [List.length_append, List.length_append, tbP_len, tbR_len, big_length]

/-- The sum of bytes laid behind a row of one's own. -/
theorem lay_sum (S : Nat) (bo : Option Addr) (M c : Nat) (xs : List Value) (w : World) (ho : w.ownsRow S 5 1 (.slice bo M c) M xs) (hS : S ≤ w.heap.size) (fs : List (Nat × Nat)) (F : Nat) (hF : fs.length = F) (h8 : Fit8 fs) (hF2 : F ≤ 1000) (hM : M ≤ 1000000000) (w5 : World) (hw5 : w5 = w.alloc (.cells (fvs fs).toArray 75 (0, 0))) :
    Calls Tryz.prog 71 #[.slice bo M c, .slice (some ⟨w.heap.size, 0, none⟩) F F] w5 fun e w' => ∃ b' c', e = .returned (.slice b' (M + (fds fs).length) c') ∧ w'.ownsRow S 5 1 (.slice b' (M + (fds fs).length) c') (M + (fds fs).length) (xs ++ (fds fs).map byt) ∧ Kept (Value.slice bo M c).ownBlock.toList w w' ∧ (∀ x ∈ (Value.slice bo M c).ownBlock.toList, S ≤ x) := by
  have k5 : Kept [] w w5 := by rw [hw5]; exact (Kept.refl [] w).alloc _
  have b5 : w5.heap[w.heap.size]? = some (.cells (fvs fs).toArray 75 (0, 0)) := by rw [hw5]; exact heap_alloc_new _ _
  refine (lay_any S (.slice bo M c) M xs (some ⟨w.heap.size, 0, none⟩) F F fs w5 (k5.row ho (by simp)) (Nat.le_trans hS k5.size) (Fds.of b5) hF h8 hF2 hM (fun g off e hb => by
    cases e
    have h1 := own_lo ho hb
    omega)).mono ?_
  rintro e w6 ⟨V6, rfl, ho6, k6, _⟩
  obtain ⟨b', c', rfl⟩ := row_form ho6
  exact ⟨b', c', rfl, ho6, (k5.mono (by simp)).trans k6, fun x hx => (own_lo ho (by simpa using hx)).1⟩

set_option maxHeartbeats 8000000 in
set_option maxRecDepth 1000000 in
theorem tableBytes_any (go ro : Option Addr) (N gc p rc : Nat) (L R : List (List Nat)) (w : World) (hL : Py.MC w go L) (hN : L.length = N) (hR : Py.MC w ro R) (hp : R.length = p) (h2 : N ≤ 70000) (hp2 : p ≤ 16) (hl : ∀ i, i < N → lnf L i ≤ 20000000) (bL : ∀ i, i < N → Byts (L.getD i [])) (bR : ∀ i, i < p → Byts (R.getD i [])) (lR : ∀ i, i < p → (R.getD i []).length ≤ 20000000) :
    Calls Tryz.prog 96 #[.slice go N gc, .slice ro p rc] w fun e w' => ∃ V, e = .returned V ∧ w'.ownsRow w.heap.size 5 1 V (tbB L R).length ((tbB L R).map byt) ∧ Kept [] w w' := by
  have HL := Hid.mk hL
  have HR := Hid.mk hR
  have HN := Hid.mk hN
  have HP := Hid.mk hp
  have HLL := Hid.mk hl
  have HBL := Hid.mk bL
  have HBR := Hid.mk bR
  have HLR := Hid.mk lR
  obtain ⟨S, eS⟩ : ∃ S, w.heap.size = S := ⟨_, rfl⟩
  have ES := Hid.mk eS
  rw [eS]
  clear hL hR hN hp hl bL bR lR eS
  go_enter Tryz.func96, Tryz.ntmps96
  go_wp2
  go_loopw [5, 12] (fun v i wr => ∃ (k M c : Nat) (bo : Option Addr), k ≤ N ∧ i = .int .i64 (k : Int) ∧ v = .slice bo M c ∧ Hid (M = 8 * k ∧ wr.ownsRow S 5 1 (.slice bo M c) M ((fds (tbP L k)).map byt) ∧ Kept [] w wr)) (fun _ i _ => N - (intOf i).toNat)
  case atStart => exact ⟨0, 0, 0, none, Nat.zero_le _, rfl, rfl, Hid.mk ⟨rfl, ⟨rfl, .inl ⟨rfl, rfl⟩⟩, Kept.refl _ _⟩⟩
  case round =>
    obtain ⟨k, M, c9, bo, hk, rfl, rfl, HI⟩ := hrel
    by_cases hlt : k < N
    · obtain ⟨pg, off, qb, qc, rfl, hc, hc2, hc3⟩ := (HL.out.keep HI.out.2.2).at (i := k) (by rw [HN.out]; exact hlt)
      have ik : (k : Int) < (N : Int) := by omega
      have HBk := Hid.mk (HBL.out k hlt)
      have HLk : Hid (lnf L k ≤ 20000000) := Hid.mk (HLL.out k hlt)
      have HX4 := Hid.mk (s4_lt (L.getD k []))
      have HF : Hid (tbP L (k + 1) = tbP L k ++ [(lnf L k, 4), (s4 (L.getD k []), 4)]) := Hid.mk rfl
      have C3 := Hid.mk (fun u (ku : Kept [] wr u) => sumOf_any qb qc (lnf L k) (L.getD k []) u (hc3.keep ku) HBk.out rfl (Nat.le_trans HLk.out (by decide)))
      obtain ⟨x, ex⟩ : ∃ x, lnf L k = x := ⟨_, rfl⟩
      obtain ⟨y, ey⟩ : ∃ y, s4 (L.getD k []) = y := ⟨_, rfl⟩
      rw [show (L.getD k []).length = x from ex] at hc
      rw [ex, ey] at HF
      rw [ex] at HLk C3
      rw [ey] at C3 HX4
      have H8 : Hid (Fit8 [(x, 4), (y, 4)]) := Hid.mk (fun i hi => by
        have hi : i < 2 := hi
        rcases (show i = 0 ∨ i = 1 by omega) with rfl | rfl
        · exact ⟨by show (1 : Nat) ≤ 4; decide, by show (4 : Nat) ≤ 8; decide, by have := HLk.out; show x < 4294967296; omega⟩
        · exact ⟨by show (1 : Nat) ≤ 4; decide, by show (4 : Nat) ≤ 8; decide, HX4.out⟩)
      have HM9 : Hid (M ≤ 1000000000) := Hid.mk (by have := HI.out.1; omega)
      have HSw : Hid (S ≤ wr.heap.size) := Hid.mk (by rw [← ES.out]; exact HI.out.2.2.size)
      clear ex ey hc2 hc3
      go_wp2_with (fail)
      refine (C3.out _ (Kept.refl _ _)).mono ?_
      rintro e w4 ⟨rfl, k4⟩
      obtain ⟨w5, e5⟩ : ∃ w5, w4.alloc (.cells #[.int .i64 (x : Int), .int .i64 4, .int .i64 (y : Int), .int .i64 4] 75 (0, 0)) = w5 := ⟨_, rfl⟩
      have C6 := Hid.mk (lay_sum S bo M c9 _ w4 (k4.row HI.out.2.1 (by simp)) (Nat.le_trans HSw.out k4.size) [(x, 4), (y, 4)] 2 rfl H8.out (by decide) HM9.out w5 (by rw [← e5]; rfl))
      have K4 := Hid.mk (HI.out.2.2.trans k4)
      clear hc k4
      go_wp2_with (fail)
      clear e5
      refine C6.out.mono ?_
      rintro e w6 ⟨b6, c6, rfl, ho6, k6, l6⟩
      have e8 : M + (fds [(x, 4), (y, 4)]).length = M + 8 := by simp [fds, big_length]
      rw [e8] at ho6 ⊢
      have HO6 := Hid.mk ho6
      have K6 : Hid (Kept [] w w6) := Hid.mk (K4.out.step k6 (fun z hz => .inr (by rw [ES.out]; exact l6 z hz)))
      clear ho6 k6 l6 e8 C6 C3
      go_wp2
      go_roundw
      case rel => exact ⟨k + 1, M + 8, c6, b6, by omega, by go_num, rfl, Hid.mk ⟨by have := HI.out.1; omega, by rw [HF.out, fds_app, List.map_append]; exact HO6.out, K6.out⟩⟩
      case measure => simp [intOf]; omega
    · obtain rfl : N = k := by omega
      have H1 := Hid.mk HI.out
      clear hlt hk HI
      go_wp2
      go_loopw [5, 27] (fun v i wr => ∃ (k M c : Nat) (bo : Option Addr), k ≤ p ∧ i = .int .i64 (k : Int) ∧ v = .slice bo M c ∧ Hid (M = 8 * N + 4 * k ∧ wr.ownsRow S 5 1 (.slice bo M c) M ((fds (tbP L N) ++ fds (tbR R k)).map byt) ∧ Kept [] w wr)) (fun _ i _ => p - (intOf i).toNat)
      case atStart => exact ⟨0, M, c9, bo, Nat.zero_le _, rfl, rfl, Hid.mk ⟨H1.out.1, by simpa [tbR, fds] using H1.out.2.1, H1.out.2.2⟩⟩
      case round =>
        obtain ⟨k, M, c9, bo, hk, rfl, rfl, HI⟩ := hrel
        by_cases hlt : k < p
        · obtain ⟨pg, off, qb, qc, rfl, hc, hc2, hc3⟩ := (HR.out.keep HI.out.2.2).at (i := k) (by rw [HP.out]; exact hlt)
          have ik : (k : Int) < (p : Int) := by omega
          have HBk := Hid.mk (HBR.out k hlt)
          have HLk : Hid ((R.getD k []).length ≤ 20000000) := Hid.mk (HLR.out k hlt)
          have HX4 := Hid.mk (s4_lt (R.getD k []))
          have HF : Hid (tbR R (k + 1) = tbR R k ++ [(s4 (R.getD k []), 4)]) := Hid.mk rfl
          have C3 := Hid.mk (fun u (ku : Kept [] wr u) => sumOf_any qb qc (R.getD k []).length (R.getD k []) u (hc3.keep ku) HBk.out rfl (Nat.le_trans HLk.out (by decide)))
          obtain ⟨x, ex⟩ : ∃ x, (R.getD k []).length = x := ⟨_, rfl⟩
          obtain ⟨y, ey⟩ : ∃ y, s4 (R.getD k []) = y := ⟨_, rfl⟩
          rw [ex] at hc C3
          rw [ey] at C3 HX4 HF
          have H8 : Hid (Fit8 [(y, 4)]) := Hid.mk (fun i hi => by
            have hi : i < 1 := hi
            obtain rfl : i = 0 := by omega
            exact ⟨by show (1 : Nat) ≤ 4; decide, by show (4 : Nat) ≤ 8; decide, HX4.out⟩)
          have HM9 : Hid (M ≤ 1000000000) := Hid.mk (by have := HI.out.1; omega)
          have HSw : Hid (S ≤ wr.heap.size) := Hid.mk (by rw [← ES.out]; exact HI.out.2.2.size)
          clear ex ey hc2 hc3
          go_wp2_with (fail)
          refine (C3.out _ (Kept.refl _ _)).mono ?_
          rintro e w4 ⟨rfl, k4⟩
          obtain ⟨w5, e5⟩ : ∃ w5, w4.alloc (.cells #[.int .i64 (y : Int), .int .i64 4] 75 (0, 0)) = w5 := ⟨_, rfl⟩
          have C6 := Hid.mk (lay_sum S bo M c9 _ w4 (k4.row HI.out.2.1 (by simp)) (Nat.le_trans HSw.out k4.size) [(y, 4)] 1 rfl H8.out (by decide) HM9.out w5 (by rw [← e5]; rfl))
          have K4 := Hid.mk (HI.out.2.2.trans k4)
          clear hc k4
          go_wp2_with (fail)
          clear e5
          refine C6.out.mono ?_
          rintro e w6 ⟨b6, c6, rfl, ho6, k6, l6⟩
          have e8 : M + (fds [(y, 4)]).length = M + 4 := by simp [fds, big_length]
          rw [e8] at ho6 ⊢
          have HO6 := Hid.mk ho6
          have K6 : Hid (Kept [] w w6) := Hid.mk (K4.out.step k6 (fun z hz => .inr (by rw [ES.out]; exact l6 z hz)))
          clear ho6 k6 l6 e8 C6 C3
          go_wp2
          go_roundw
          case rel => exact ⟨k + 1, M + 4, c6, b6, by omega, by go_num, rfl, Hid.mk ⟨by have := HI.out.1; omega, by rw [HF.out, fds_app, ← List.append_assoc, List.map_append]; exact HO6.out, K6.out⟩⟩
          case measure => simp [intOf]; omega
        · obtain rfl : p = k := by omega
          have HA : Hid (fds (tbP L N) ++ fds (tbR R p) = tbA L R) := Hid.mk (by unfold tbA; rw [HN.out, HP.out])
          have HO : Hid (wr.ownsRow S 5 1 (.slice bo M c9) M ((tbA L R).map byt)) := Hid.mk (by rw [← HA.out]; exact HI.out.2.1)
          have HLA : Hid ((tbA L R).length = M) := Hid.mk (by
            unfold tbA; rw [List.length_append, tbP_len, tbR_len, HN.out, HP.out]; exact HI.out.1.symm)
          have HBA : Hid (Byts (tbA L R)) := Hid.mk (by
            intro b hb; unfold tbA at hb; rw [List.mem_append] at hb
            rcases hb with h | h
            · exact fds_byts _ b h
            · exact fds_byts _ b h)
          have HM9 : Hid (M ≤ 1000000000) := Hid.mk (by have := HI.out.1; omega)
          have HX4 := Hid.mk (s4_lt (tbA L R))
          have C3 := Hid.mk (sumOf_any bo c9 M (tbA L R) wr (reads_row HO.out) HBA.out HLA.out (Nat.le_trans HM9.out (by decide)))
          have HTB : Hid (tbB L R = tbA L R ++ big 4 (s4 (tbA L R))) := Hid.mk rfl
          obtain ⟨y, ey⟩ : ∃ y, s4 (tbA L R) = y := ⟨_, rfl⟩
          rw [ey] at C3 HX4 HTB
          have H8 : Hid (Fit8 [(y, 4)]) := Hid.mk (fun i hi => by
            have hi : i < 1 := hi
            obtain rfl : i = 0 := by omega
            exact ⟨by show (1 : Nat) ≤ 4; decide, by show (4 : Nat) ≤ 8; decide, HX4.out⟩)
          have HSw : Hid (S ≤ wr.heap.size) := Hid.mk (by rw [← ES.out]; exact HI.out.2.2.size)
          have HKx := Hid.mk HI.out.2.2
          clear ey hk hlt HI
          go_wp2_with (fail)
          refine C3.out.mono ?_
          rintro e w4 ⟨rfl, k4⟩
          obtain ⟨w5, e5⟩ : ∃ w5, w4.alloc (.cells #[.int .i64 (y : Int), .int .i64 4] 75 (0, 0)) = w5 := ⟨_, rfl⟩
          have C6 := Hid.mk (lay_sum S bo M c9 _ w4 (k4.row HO.out (by simp)) (Nat.le_trans HSw.out k4.size) [(y, 4)] 1 rfl H8.out (by decide) HM9.out w5 (by rw [← e5]; rfl))
          have K4 := Hid.mk (HKx.out.trans k4)
          clear k4
          go_wp2_with (fail)
          clear e5
          refine C6.out.mono ?_
          rintro e w6 ⟨b6, c6, rfl, ho6, k6, l6⟩
          have HE : Hid (w6.ownsRow S 5 1 (.slice b6 (M + (fds [(y, 4)]).length) c6) (tbB L R).length ((tbB L R).map byt)) := Hid.mk (by
            rw [HTB.out, List.map_append, List.length_append, HLA.out]
            have h2 : fds [(y, 4)] = big 4 y := by simp [fds]
            rw [h2] at ho6 ⊢
            exact ho6)
          have K6 : Hid (Kept [] w w6) := Hid.mk (K4.out.step k6 (fun z hz => .inr (by rw [ES.out]; exact l6 z hz)))
          clear ho6 k6 l6 C6 C3
          go_wp2
          go_ret
          exact ⟨_, rfl, HE.out, K6.out⟩
end Go.Proofs.YthhegomjipbdbaaGreatDoor.Pc
