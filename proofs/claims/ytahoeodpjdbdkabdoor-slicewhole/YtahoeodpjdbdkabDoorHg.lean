import Derived.Test.YtahoeodpjdbdkabDoorHcZ
import Derived.Test.YtahoeodpjdbdkabDoorFuZ
namespace Go.Proofs.YtahoeodpjdbdkabDoor
open Go.RowKit

/-- A block that is none, with an error. -/
abbrev noBlk (E : Int) : Ending := .returned (.tuple #[.agg #[.int .i64 0, .int .i64 0, .slice none 0 0], .int .i64 E])

theorem build24 : ∀ w : World, (Instr.build 24 #[]).run Tryd.prog w = .ok (.agg #[.int .i64 0, .int .i64 0, .slice none 0 0]) w := fun _ => by kernel_rfl

set_option maxHeartbeats 8000000 in
set_option maxRecDepth 1000000 in
/-- Decode by numbers that may not be. -/
theorem Decode_bad (ao : Option Addr) (m cap : Nat) (W H D d : Int) (w : World) (h : ¬ (((D = 10 ∨ D = 12) ∧ 0 ≤ d ∧ d ≤ 63) ∧ szd W H = true)) :
    Calls Tryd.prog 9 #[.slice ao m cap, .int .i64 W, .int .i64 H, .int .i64 D, .int .i64 d] w fun e w' => ∃ E, E ≠ 0 ∧ e = noBlk E ∧ Kept [] w w' := by
  obtain ⟨w1, hw1, k1, b1⟩ := three_new w (.int .i64 0) (.int .i64 0) (.slice none 0 0) 24
  obtain ⟨Q, hQ⟩ : ∃ Q, w.heap.size = Q := ⟨_, rfl⟩
  rw [hQ] at b1
  have HQ := Hid.mk hQ
  have K1 := Hid.mk k1
  have B1 := Hid.mk b1
  have hbl := build24
  clear k1 b1
  by_cases hg : (D = 10 ∨ D = 12) ∧ 0 ≤ d ∧ d ≤ 63
  · have hz : szd W H = false := by
      rcases Bool.eq_false_or_eq_true (szd W H) with h1 | h1
      · exact absurd ⟨hg, h1⟩ h
      · exact h1
    obtain ⟨T, hD⟩ : ∃ T, Dp D T := by
      rcases hg.1 with h | h
      · exact ⟨1023, .inl ⟨h, rfl⟩⟩
      · exact ⟨4095, .inr ⟨h, rfl⟩⟩
    have C1 := Hid.mk (newm_any D T d hD w1 hg.2.1 hg.2.2)
    have C2 := Hid.mk (fun W' => sized_any W H W')
    rw [hz] at C2
    clear h hg hz hD
    go_enter Tryd.func9, Tryd.ntmps9
    go_wp2_with (fail)
    refine C1.out.mono ?_
    rintro e w2 ⟨P, rfl, -, -, k2⟩
    have B2 := Hid.mk (k2.heap B1.out (by simp))
    have K2 := Hid.mk (K1.out.trans k2)
    obtain ⟨z0, z1, z2, zf⟩ := cells_three B2.out
    have zf0 := zf 0
    have zf1 := zf 1
    have zf2 := zf 2
    clear k2 C1 zf
    go_wp2_with (go_at_call 17; refine (C2.out _).mono ?_; rintro e w3 ⟨rfl, hw3⟩; obtain rfl := hw3.symm)
    have k7 : Kept [Q] w2 (((w2.setCell ⟨Q, 0, none⟩ (.int .i64 0)).setCell ⟨Q, 1, none⟩ (.int .i64 0)).setCell ⟨Q, 2, none⟩ (.slice none 0 0)) :=
      (((Kept.refl [Q] w2).setCell (p := ⟨Q, 0, none⟩) (by simp) _).setCell (p := ⟨Q, 1, none⟩) (by simp) _).setCell (p := ⟨Q, 2, none⟩) (by simp) _
    have hQs := HQ.out
    refine bodyPost_ret (v := .tuple #[.agg #[.int .i64 0, .int .i64 0, .slice none 0 0], .int .i64 101]) (by simp [results, Tryd.results9, go_sem, z0, z1, z2]) rfl ⟨101, by decide, rfl, K2.out.step k7 (by simp; omega)⟩
  · have C1 := Hid.mk (newm_bad D d w1 hg)
    clear h hg
    go_enter Tryd.func9, Tryd.ntmps9
    go_wp2_with (fail)
    refine C1.out.mono ?_
    rintro e w2 ⟨x, rfl, hx, k2⟩
    have hx' : (x != 0) = true := by simp; exact hx
    have hx2 : (x == 0) = false := by simp; exact hx
    have B2 := Hid.mk (k2.heap B1.out (by simp))
    have K2 := Hid.mk (K1.out.trans k2)
    obtain ⟨z0, z1, z2, zf⟩ := cells_three B2.out
    have zf0 := zf 0
    have zf1 := zf 1
    have zf2 := zf 2
    clear k2 C1 zf
    go_wp2
    have k7 : Kept [Q] w2 (((w2.setCell ⟨Q, 0, none⟩ (.int .i64 0)).setCell ⟨Q, 1, none⟩ (.int .i64 0)).setCell ⟨Q, 2, none⟩ (.slice none 0 0)) :=
      (((Kept.refl [Q] w2).setCell (p := ⟨Q, 0, none⟩) (by simp) _).setCell (p := ⟨Q, 1, none⟩) (by simp) _).setCell (p := ⟨Q, 2, none⟩) (by simp) _
    have hQs := HQ.out
    refine bodyPost_ret (v := .tuple #[.agg #[.int .i64 0, .int .i64 0, .slice none 0 0], .int .i64 x]) (by simp [results, Tryd.results9, go_sem, z0, z1, z2]) rfl ⟨x, hx, rfl, K2.out.step k7 (by simp; omega)⟩

set_option maxHeartbeats 8000000 in
set_option maxRecDepth 1000000 in
/-- Decode of whatever bytes. -/
theorem Decode_all (W H n : Nat) (ao : Option Addr) (cap m : Nat) (l : List Nat) (D T d : Int) (w : World) (hr : Reads w ao l) (hby : Byts l) (hm : l.length = m) (hl : m ≤ 281474976710656) (hT : Tab w) (hz : szd (W : Int) (H : Int) = true) (hn : n = W * H) (hD : Dp D T) (d0 : 0 ≤ d) (d1 : d ≤ 63) :
    Calls Tryd.prog 9 #[.slice ao m cap, .int .i64 (W : Int), .int .i64 (H : Int), .int .i64 D, .int .i64 d] w fun e w' => ∃ E s, RdRes T d D W n l E s ∧ Kept [] w w' ∧ ((E ≠ 0 ∧ e = noBlk E) ∨ (E = 0 ∧ ∃ G, e = .returned (.tuple #[.agg #[.int .i64 (W : Int), .int .i64 (H : Int), .slice (some ⟨G, 0, none⟩) n n], .int .i64 0]) ∧ w.heap.size ≤ G ∧ Smp w' G 0 n s.b ∧ s.t = n ∧ s.In T)) := by
  have hb := szd_in hz
  have hcst : (W : Int) * H = (n : Int) := by rw [hn]; simp
  rw [hcst] at hb
  have HN := Hid.mk hn
  obtain ⟨w1, hw1, k1, b1⟩ := three_new w (.int .i64 0) (.int .i64 0) (.slice none 0 0) 24
  obtain ⟨Q, hQ⟩ : ∃ Q, w.heap.size = Q := ⟨_, rfl⟩
  rw [hQ] at b1
  have HQ := Hid.mk hQ
  have C1 := Hid.mk (newm_any D T d hD w1 d0 d1)
  have C2 := Hid.mk (fun W' => sized_any (W : Int) (H : Int) W')
  rw [hz] at C2
  have HT := Hid.mk hT
  have HRd := Hid.mk (hr.keep k1)
  have K1 := Hid.mk k1
  have B1 := Hid.mk b1
  have HD := Hid.mk hD
  have hbl := build24
  clear hn hT hr k1 b1 hz hcst hD
  go_enter Tryd.func9, Tryd.ntmps9
  go_wp2_with (fail)
  refine C1.out.mono ?_
  rintro e w2 ⟨P, rfl, m2, hP, k2⟩
  have K2 := Hid.mk k2
  have M2 := Hid.mk m2
  have HP := Hid.mk hP
  clear k2 m2 hP C1
  go_wp2_with (fail)
  refine (C2.out _).mono ?_
  rintro e w3 ⟨rfl, hw3⟩
  obtain rfl := hw3.symm
  clear hw3 C2
  go_wp2_with (fail)
  refine (newWalk_any P W H n D w2 (by omega) (by omega) HN.out.symm).mono ?_
  rintro e w4 ⟨X, G, rfl, a1, a2, a3, a4, k4⟩
  have R4 := Hid.mk (And.intro a1 (And.intro a2 (And.intro (Nat.le_trans K2.out.size a3) (And.intro (Nat.le_trans K2.out.size a4) k4))))
  clear a1 a2 a3 a4 k4
  go_wp2_with (fail)
  refine (newDecoder_any ao cap m l n P X G W D w4 ((HRd.out.keep K2.out).keep R4.out.2.2.2.2) hby hm hl).mono ?_
  rintro e w5 ⟨B, O, g, rfl, b1, b2, b3, b4, b5, b6⟩
  obtain ⟨a1, a2, a3, a4, k4⟩ := R4.out
  have hs4 : w1.heap.size ≤ w4.heap.size := (K2.out.trans k4).size
  have h5 : Dm w1 B P X G O g T d D W n l w5 (wk0 T d) 0 := by
    refine ⟨⟨b1, M2.out.keep (k4.trans b6) (by simp), a1.kept b6 (by simp), ⟨_, b6.heap a2 (by simp), by simp, fun i hi => ?_⟩, .inr rfl⟩, b2, K2.out.trans (k4.trans b6), HT.out.kept K1.out (by simp), by omega, HP.out, a3, a4, by omega, by omega⟩
    have : i < 0 := hi
    omega
  have C5 := Hid.mk (read_all w1 B P X G O g T d D W H n l w5 (HD.out.gd d0 d1) HD.out (by omega) (by omega) (by omega) HN.out h5)
  clear b1 b2 b3 b4 b5 b6 h5 a1 a2 a3 a4 k4 hs4
  go_wp2_with (fail)
  refine C5.out.mono ?_
  rintro e w6 ⟨E, s, rfl, hres, hk6, h6⟩
  have B6 := Hid.mk (hk6.heap B1.out (by simp))
  have K6 := Hid.mk hk6
  have HR := Hid.mk hres
  obtain ⟨z0, z1, z2, zf⟩ := cells_three B6.out
  have zf0 := zf 0
  have zf1 := zf 1
  have zf2 := zf 2
  have hs1 := K1.out.size
  have hQs := HQ.out
  by_cases hE : E = 0
  · subst hE
    obtain ⟨⟨t', h7⟩, hst, hin⟩ := h6 rfl
    have c4 := h7.wm.fact.c4
    have H6 := Hid.mk (And.intro h7 (And.intro hst hin))
    clear h6 h7 zf C5 hres hk6 hst hin
    go_wp2
    have k7 : Kept [Q] w6 (((w6.setCell ⟨Q, 0, none⟩ (.int .i64 (W : Int))).setCell ⟨Q, 1, none⟩ (.int .i64 (H : Int))).setCell ⟨Q, 2, none⟩ (.slice (some ⟨G, 0, none⟩) n n)) :=
      (((Kept.refl [Q] w6).setCell (p := ⟨Q, 0, none⟩) (by simp) _).setCell (p := ⟨Q, 1, none⟩) (by simp) _).setCell (p := ⟨Q, 2, none⟩) (by simp) _
    obtain ⟨h7, hst, hin⟩ := H6.out
    have hlo := h7.lo
    have hsm : Smp w6 G 0 n s.b := fun i hi => by
      rw [Nat.zero_add]
      exact h7.wm.cel i (by omega)
    have hQG : Q < w1.heap.size := lt_of_block B1.out
    refine bodyPost_ret (v := .tuple #[.agg #[.int .i64 (W : Int), .int .i64 (H : Int), .slice (some ⟨G, 0, none⟩) n n], .int .i64 0]) (by simp [results, Tryd.results9, go_sem, z0, z1, z2]) rfl ⟨0, s, HR.out, (K1.out.trans K6.out).step k7 (by simp; omega), .inr ⟨rfl, G, rfl, by omega, hsm.keep k7 (by simp; omega), hst, hin⟩⟩
  · have hx' : (E != 0) = true := by simp; exact hE
    have hx2 : (E == 0) = false := by simp; exact hE
    clear h6 zf C5 hres hk6
    go_wp2
    have k7 : Kept [Q] w6 (((w6.setCell ⟨Q, 0, none⟩ (.int .i64 0)).setCell ⟨Q, 1, none⟩ (.int .i64 0)).setCell ⟨Q, 2, none⟩ (.slice none 0 0)) :=
      (((Kept.refl [Q] w6).setCell (p := ⟨Q, 0, none⟩) (by simp) _).setCell (p := ⟨Q, 1, none⟩) (by simp) _).setCell (p := ⟨Q, 2, none⟩) (by simp) _
    refine bodyPost_ret (v := .tuple #[.agg #[.int .i64 0, .int .i64 0, .slice none 0 0], .int .i64 E]) (by simp [results, Tryd.results9, go_sem, z0, z1, z2]) rfl ⟨E, s, HR.out, (K1.out.trans K6.out).step k7 (by simp; omega), .inl ⟨hE, rfl⟩⟩
end Go.Proofs.YtahoeodpjdbdkabDoor
