import Derived.Test.YtknkjhfemgiiaaaDoorTh
import Derived.Test.YtknkjhfemgiiaaaDoorD4
import Derived.BigQuiet
namespace Go.Proofs.YtknkjhfemgiiaaaDoor
open Go.RowKit Go.Lib

def gdB (l : Int) (s : ByteArray) : Bool := s.size == 11 && (List.range 11).all (fun i => okc l i (bt s i))
/-- What a time's number is, and its error. -/
def numF (r : Int) (s : ByteArray) : Int × Int :=
  if r < 1 ∨ 7 < r then (0, 181) else if gdB (rl r) s = true then
    (if ckE (rc r) (fv s 11 0) (fv s 11 1) (fv s 11 2) (fv s 11 3) (rl r) = 0 then (nmb (rc r) (rl r) (fv s 11 0) (fv s 11 1) (fv s 11 2) (fv s 11 3), 0) else (0, ckE (rc r) (fv s 11 0) (fv s 11 1) (fv s 11 2) (fv s 11 3) (rl r)))
  else (0, 182)
theorem gdB_iff (l : Int) (s : ByteArray) : gdB l s = true ↔ Gd l s := by
  unfold gdB Gd Ok
  simp only [Bool.and_eq_true, beq_iff_eq, List.all_eq_true, List.mem_range]
  constructor
  · rintro ⟨h1, h2⟩
    exact ⟨h1, fun i hi => ⟨hi, by omega, h2 i hi⟩⟩
  · rintro ⟨h1, h2⟩
    exact ⟨h1, fun i hi => (h2 i hi).2.2⟩
theorem numF_of {r : Int} {s : ByteArray} {x A E : Int} (h : NR r s x A E) : numF r s = (x, E) := by
  unfold numF
  rcases h with ⟨h, rfl, _, rfl⟩ | ⟨h, k, hb, rfl, _, rfl⟩ | ⟨h, g, hc, rfl, _, rfl⟩ | ⟨h, g, hc, rfl, _, rfl⟩
  · rw [if_pos h]
  · have hr : ¬ (r < 1 ∨ 7 < r) := by have := h; unfold Rt at this; omega
    rw [if_neg hr, if_neg]
    intro hg
    rw [gdB_iff] at hg
    obtain ⟨b1, b2, b3⟩ := hb
    by_cases hk : k < 11
    · exact b2 (hg.2 k hk)
    · by_cases h11 : k = 11
      · exact b3 ⟨h11, hg.1⟩
      · have := (b1 11 (by omega)).1; omega
  · have hr : ¬ (r < 1 ∨ 7 < r) := by have := h; unfold Rt at this; omega
    rw [if_neg hr, if_pos ((gdB_iff _ _).2 g), if_neg hc]
  · have hr : ¬ (r < 1 ∨ 7 < r) := by have := h; unfold Rt at this; omega
    rw [if_neg hr, if_pos ((gdB_iff _ _).2 g), if_pos hc]
theorem Number_f (r : Int) (s : ByteArray) (w : World) (hT : Tb w) (hs : s.size ≤ maxLen) : Calls Tryd.prog 50 #[.int .i64 r, .string s] w fun e w' => ∃ v A, e = .returned (.tuple #[.int .i64 (numF r s).1, v]) ∧ Er w' v A (numF r s).2 ∧ Kept [] w w' := by
  refine (Number_any r s w hT hs).mono ?_
  rintro e w' ⟨x, A, E, v, h, rfl, he, hk⟩
  rw [numF_of h]
  exact ⟨v, A, rfl, he, hk⟩

def tmq (r : Int) (X : Rr) : (Int × Int) × Rr := (((numF r (nx X 0).1.sy).1, (nx X 0).1.pl), if (numF r (nx X 0).1.sy).2 = 0 then (nx X 0).2 else rf (nx X 0).2 (nx X 0).1.pl 194)
set_option maxHeartbeats 4000000 in
set_option maxRecDepth 1000000 in
theorem time_any (q : Nat) (r : Int) (w w0 : World) (X : Rr) (h : RP q w0 w X) (hT : Tb w0) (hX : ∀ x ∈ X.ws, x.sy.size ≤ 100000) (hq : 3 ≠ q) : Calls Tryd.prog 36 #[.pointer (some ⟨q, 0, none⟩), .int .i64 r] w fun e w' => e = .returned (.tuple #[.int .i64 (tmq r X).1.1, .int .i64 (tmq r X).1.2]) ∧ RP q w0 w' (tmq r X).2 := by
  have CN := Hid.mk (next_any q 0 w w0 X h)
  have hsy := nx_sy X 0 hX
  unfold tmq
  unfold NxP at CN
  generalize hx : nx X 0 = R at *
  obtain ⟨⟨kd, pl, sy⟩, X1⟩ := R
  simp only at CN hsy ⊢
  have CM := Hid.mk (fun u hu => Number_f r sy u hu (by unfold maxLen; omega))
  generalize hn : numF r sy = R at *
  obtain ⟨n, E⟩ := R
  simp only at CM ⊢
  have TB : Hid (∀ u, Kept [q] w0 u → Tb u) := Hid.mk (fun u hu i hi => by
    obtain ⟨a, b, c, d⟩ := hT i hi
    exact ⟨cell_keep hu a (by simpa using hq), cell_keep hu b (by simpa using hq), cell_keep hu c (by simpa using hq), cell_keep hu d (by simpa using hq)⟩)
  have start : True := trivial
  by_cases hE : E = 0
  · rw [if_pos hE]
    subst hE
    clear h hx hT hX hq hsy hn
    go_enter Tryd.func36, Tryd.ntmps36
    go_wp2_with (fail)
    refine CN.out.mono ?_
    rintro e w1 ⟨rfl, h1⟩
    unfold wv
    obtain ⟨w2, e2, h2, k2, b2⟩ := word_new q w0 w1 X1 ⟨kd, pl, sy⟩ h1
    obtain ⟨c0, c1, c2⟩ := word_cells b2
    have HP := Hid.mk h2
    have HB := Hid.mk b2
    simp only at c0 c1 c2 e2
    have CM2 := Hid.mk (CM.out w2 (TB.out w2 (by obtain ⟨_, _, _, _, k⟩ := h2; exact k)))
    clear h1 h2 k2 b2 CN CM
    go_wp2_with (fail)
    refine CM2.out.mono ?_
    rintro e w9 ⟨v, A, rfl, he, k9⟩
    obtain ⟨-, rfl⟩ : A = 0 ∧ v = .nilIface := by
      rcases he with ⟨_, h1, h2⟩ | ⟨h1, _⟩
      · exact ⟨h1, h2⟩
      · exact absurd rfl h1
    have b9 := k9.heap HB.out (by simp)
    obtain ⟨m0, m1, m2⟩ := word_cells (x := ⟨kd, pl, sy⟩) b9
    simp only at m0 m1 m2
    have HP9 := Hid.mk (HP.out.keep k9)
    clear k9 b9 c0 c1 c2 CM2 he
    go_wp2_with (fail)
    go_quiet (fail)
    go_wp2
    go_ret2
    exact ⟨rfl, HP9.out.keep ((Kept.refl [] w9).drewN _)⟩
  · rw [if_neg hE]
    clear h hx hT hX hq hsy hn
    go_enter Tryd.func36, Tryd.ntmps36
    go_wp2_with (fail)
    refine CN.out.mono ?_
    rintro e w1 ⟨rfl, h1⟩
    unfold wv
    obtain ⟨w2, e2, h2, k2, b2⟩ := word_new q w0 w1 X1 ⟨kd, pl, sy⟩ h1
    obtain ⟨c0, c1, c2⟩ := word_cells b2
    have HP := Hid.mk h2
    have HB := Hid.mk b2
    simp only at c0 c1 c2 e2
    have CM2 := Hid.mk (CM.out w2 (TB.out w2 (by obtain ⟨_, _, _, _, k⟩ := h2; exact k)))
    clear h1 h2 k2 b2 CN CM
    go_wp2_with (fail)
    refine CM2.out.mono ?_
    rintro e w9 ⟨v, A, rfl, he, k9⟩
    obtain ⟨Q, rfl⟩ : ∃ Q, v = .iface 45 (.pointer (some ⟨Q, 0, none⟩)) := by
      rcases he with ⟨h1, _⟩ | ⟨_, Q, h1, _⟩
      · exact absurd h1 hE
      · exact ⟨Q, h1⟩
    have b9 := k9.heap HB.out (by simp)
    obtain ⟨m0, m1, m2⟩ := word_cells (x := ⟨kd, pl, sy⟩) b9
    simp only at m0 m1 m2
    have HP9 := Hid.mk (HP.out.keep k9)
    have HB9 := Hid.mk b9
    have CR := Hid.mk (refuse_rp q pl 194 w9 w9 X1 HP9.out.refl)
    clear k9 b9 c0 c1 c2 CM2 he
    go_wp2_with (fail)
    refine CR.out.mono ?_
    rintro e w3 ⟨rfl, h3⟩
    have b3 := HP9.out.stay h3 HB9.out (by decide)
    obtain ⟨-, d1, d2⟩ := word_cells (x := ⟨kd, pl, sy⟩) b3
    simp only at d1 d2
    have H3 := Hid.mk (HP9.out.trans h3)
    clear h3 b3 m0 m1 m2
    go_wp2_with (fail)
    go_quiet (fail)
    go_wp2
    go_ret2
    exact ⟨rfl, H3.out.keep ((Kept.refl [] w3).drewN _)⟩
end Go.Proofs.YtknkjhfemgiiaaaDoor
