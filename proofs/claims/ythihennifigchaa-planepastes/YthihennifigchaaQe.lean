import Derived.Test.YthihennifigchaaQd
namespace Go.Proofs.Ythihennifigchaa
open Go.RowKit

theorem Mk.row_own {w0 w : World} {G n : Nat} {bs ln : Nat → Nat} {F : Nat → Nat → Nat} (h : Mk w0 w G n n bs ln F) (hn : n ≤ 1000000) : w.ownsRow w0.heap.size 52 1 (.slice (some ⟨G, 0, none⟩) n n) n (Bk.vals (fun i => .slice (some ⟨bs i, 0, none⟩) (ln i) (ln i)) n) := by
  refine ⟨by simp [Bk.vals], .inr ⟨G, n, _, rfl, h.new, h.out, Nat.le_refl _, by unfold maxLen; omega, by simp [outC_length], ?_⟩⟩
  simp only [Nat.mul_one]
  rw [List.take_of_length_le (by simp [outC_length])]
  show outC bs ln n n = _
  unfold outC Bk.vals
  exact fl_congr (fun j hj => by rw [if_pos hj])
theorem Mk.zlf {w0 w : World} {G n : Nat} {bs ln : Nat → Nat} {F : Nat → Nat → Nat} (h : Mk w0 w G n n bs ln F) {k : Nat} (hk : k < n) : (Bk.zlf .u16 65 (some ⟨bs k, 0, none⟩) (ln k) (fun j => (F k j : Int))).P w := .inr ⟨bs k, rfl, h.row k hk⟩
namespace Bk
/-- A Book with d answers that are not taken yet; K: how many lists an answer has at most. -/
structure Rq (s : Bo) (d K : Nat) : Prop where
  r : s.r + d = s.n
  rl : ∀ i, i < s.n → s.rl i = s.kn i
  ov : ∀ i, i < s.r → s.OV i = s.RV i
  k8 : ∀ i, s.kn i ≤ K
  J : ∀ j, s.J j ↔ j < s.h
  ls : ∀ i k, i < s.n → k < s.kn i → ∃ ao m f, s.LV i k = .slice ao m m ∧ s.LX i k = zlf .u16 65 ao m f ∧ m ≤ 100000000
theorem Rq.rk {s : Bo} {K : Nat} (h : Rq s 0 K) (hK : K ≤ 8) (hn : s.n ≤ 8) : Rk s :=
  ⟨h.r, h.rl, fun i hi => h.ov i (by have := h.r; omega), hn, fun i => by have := h.k8 i; omega, h.J, h.ls⟩
theorem Rq.of_dn {s s' : Bo} {K : Nat} (h : Rq s 0 K) (hd : Dn s s') : Rq s' 0 (K + 2) :=
  ⟨hd.r, hd.rl, fun i hi => hd.ov i (by have := hd.r; omega), fun i => by have := hd.kn i; have := h.k8 i; omega, hd.J, hd.ls⟩
theorem Rq.more {s : Bo} {d K K' : Nat} (h : Rq s d K) (hK : K ≤ K') : Rq s d K' := ⟨h.r, h.rl, h.ov, fun i => by have := h.k8 i; omega, h.J, h.ls⟩
theorem Rq.ans {s : Bo} {d K m : Nat} (h : Rq s d K) {Rn : Value} {V : Nat → Value} {X : Nat → Rsc} (hm : m ≤ K) (hl : ∀ k, k < m → ∃ ao m f, V k = .slice ao m m ∧ X k = zlf .u16 65 ao m f ∧ m ≤ 100000000) : Rq (s.ans Rn m V X) (d + 1) K := by
  refine ⟨by have := h.r; show s.r + (d + 1) = s.n + 1; omega, fun i hi => ?_, fun i hi => ?_, fun i => ?_, h.J, fun i k hi hk => ?_⟩
  · show (if i = s.n then m else s.rl i) = (if i = s.n then m else s.kn i)
    by_cases e : i = s.n
    · rw [if_pos e, if_pos e]
    · rw [if_neg e, if_neg e]; exact h.rl i (by have : i < s.n + 1 := hi; omega)
  · show s.OV i = (if i = s.n then Rn else s.RV i)
    have hi : i < s.r := hi
    rw [if_neg (by have := h.r; omega)]
    exact h.ov i hi
  · show (if i = s.n then m else s.kn i) ≤ K
    split
    · exact hm
    · exact h.k8 i
  · have hk : k < (if i = s.n then m else s.kn i) := hk
    by_cases e : i = s.n
    · rw [if_pos e] at hk
      obtain ⟨ao, m', f, q1, q2, q3⟩ := hl k hk
      refine ⟨ao, m', f, ?_, ?_, q3⟩
      · show (if i = s.n then V else s.LV i) k = _
        rw [if_pos e]; exact q1
      · show (if i = s.n then X else s.LX i) k = _
        rw [if_pos e]; exact q2
    · rw [if_neg e] at hk
      obtain ⟨ao, m', f, q1, q2, q3⟩ := h.ls i k (by have : i < s.n + 1 := hi; omega) hk
      refine ⟨ao, m', f, ?_, ?_, q3⟩
      · show (if i = s.n then V else s.LV i) k = _
        rw [if_neg e]; exact q1
      · show (if i = s.n then X else s.LX i) k = _
        rw [if_neg e]; exact q2
theorem Rq.take {s : Bo} {d K : Nat} (h : Rq s (d + 1) K) {v : Value} (Sn : Value) (hv : s.RV s.r = v) : Rq (s.appo v Sn) d K := by
  refine ⟨by have := h.r; show s.r + 1 + d = s.n; omega, h.rl, fun i hi => ?_, h.k8, h.J, h.ls⟩
  show (if i = s.r then v else s.OV i) = s.RV i
  by_cases e : i = s.r
  · rw [if_pos e, e, hv]
  · rw [if_neg e]; exact h.ov i (by have : i < s.r + 1 := hi; omega)

/-- A Book of none. -/
def bo0 : Bo := ⟨0, 0, fun _ => 0, fun _ => 0, fun _ => .slice none 0 0, fun _ => .slice none 0 0, fun _ _ => .slice none 0 0, fun _ _ => obj 0 (.cells #[] 0 (0, 0)), .slice none 0 0, 0, fun _ => .slice none 0 0, fun _ => 0, .slice none 0 0, fun _ => False, [], 0⟩
theorem bo0_rq (K : Nat) : Rq bo0 0 K := ⟨rfl, fun _ h => absurd h (by show ¬ _ < 0; omega), fun _ h => absurd h (by show ¬ _ < 0; omega), fun _ => Nat.zero_le _, fun j => ⟨fun h => h.elim, fun h => absurd h (by show ¬ j < 0; omega)⟩, fun _ _ h => absurd h (by show ¬ _ < 0; omega)⟩
theorem bo0_at {W w : World} {A : Nat} (old : Kept [] W w) (hA : W.heap.size ≤ A) (hb : w.heap[A]? = some (.cells #[.slice none 0 0, .int .i64 0, .slice none 0 0] 35 (0, 0))) : BAt W w A bo0 := by
  have F : ∀ i, bo0.D i → ∀ x ∈ (bo0.R A i).F, i = (1, 0) ∧ x = A := fun i hi x hx => by
    rcases bo0.cases_D i hi with ⟨a, rfl, ha⟩ | rfl | rfl | rfl | rfl | ⟨a, c, rfl, ha, -⟩
    · exact absurd ha (by show ¬ a < 0; omega)
    · exact ⟨rfl, by simpa [Bo.R, obj] using hx⟩
    · simp [Bo.R, vrw, bo0, Value.ownBlock] at hx
    · simp [Bo.R, hrw, bo0, Value.ownBlock] at hx
    · simp [Bo.R, hth, bo0] at hx
    · exact absurd ha (by show ¬ a < 0; omega)
  refine ⟨old, fun i hi => ?_, fun i hi x hx => ?_, fun i j hi hj hij x hx hx2 => ?_⟩
  · rcases bo0.cases_D i hi with ⟨a, rfl, ha⟩ | rfl | rfl | rfl | rfl | ⟨a, c, rfl, ha, -⟩
    · exact absurd ha (by show ¬ a < 0; omega)
    · exact hb
    · exact ⟨rfl, .inl ⟨rfl, rfl⟩⟩
    · exact ⟨rfl, .inl ⟨rfl, rfl⟩⟩
    · exact ⟨fun x hx => by simp [bo0] at hx, fun j hj => hj.elim⟩
    · exact absurd ha (by show ¬ a < 0; omega)
  · have := (F i hi x hx).2; omega
  · exact hij ((F i hi x hx).1.trans (F j hj x hx2).1.symm)
/-- An answer of nothing. -/
theorem BAt.nil {W w w' : World} {A : Nat} {s : Bo} (h : BAt W w A s) (hk : Kept [] w w') : BAt W w' A (s.ans (.slice none 0 0) 0 (fun _ => .slice none 0 0) (fun _ => obj 0 (.cells #[] 0 (0, 0)))) :=
  h.ans hk ⟨by simp [vals], .inl ⟨rfl, rfl⟩⟩ (fun _ h => absurd h (by omega)) (fun _ h => absurd h (by omega)) (fun _ _ h => absurd h (by omega)) (fun _ h => absurd h (by omega))
/-- An answer of planes. -/
theorem BAt.mk {W w w' : World} {A G n : Nat} {s : Bo} {bs ln : Nat → Nat} {F : Nat → Nat → Nat} (h : BAt W w A s) (hM : Mk w w' G n n bs ln F) (hn : n ≤ 1000000) : BAt W w' A (s.ans (.slice (some ⟨G, 0, none⟩) n n) n (fun i => .slice (some ⟨bs i, 0, none⟩) (ln i) (ln i)) (fun i => zlf .u16 65 (some ⟨bs i, 0, none⟩) (ln i) (fun j => (F i j : Int)))) := by
  have one : ∀ k x, x ∈ (zlf .u16 65 (some ⟨bs k, 0, none⟩) (ln k) (fun j => (F k j : Int))).F → x = bs k := fun k x hx => by simpa [zlf, ablk] using hx
  refine h.ans hM.kept (hM.row_own hn) (fun k hk => hM.zlf hk) (fun k hk x hx => ?_) (fun k j hk hj hkj x hx hx2 => ?_) (fun k hk x hx hx2 => ?_)
  · rw [one k x hx]; have := hM.gt k hk; have := hM.new; omega
  · have e1 := one k x hx
    have e2 := one j x hx2
    rcases Nat.lt_or_gt_of_ne hkj with h | h
    · have := hM.mon k j h hj; omega
    · have := hM.mon j k h hk; omega
  · have e1 := one k x hx
    simp [Value.ownBlock] at hx2
    have := hM.gt k hk
    omega
end Bk

/-- New of any shape, both sides, in one form; the program's planes are an answer of the Book's. -/
theorem new_u (W H D : Int) (A : Bool) : ∃ (fW fH fD : Int) (fA : Bool) (fn : Nat) (fE : Int), fn ≤ 4 ∧ (∀ i, i < fn → pz W H i ≤ 100000000) ∧
    (∀ (w0 w : World) (B d K : Nat) (s : Bk.Bo), Bk.BAt w0 w B s → Bk.Rq s d K → 4 ≤ K → Calls Try.prog 16 #[shv W H D A] w fun e w' => ∃ po c s', e = .returned (.tuple #[frv fW fH fD fA po fn c, .int .i64 fE]) ∧ Bk.BAt w0 w' B s' ∧ Bk.Rq s' (d + 1) K ∧ (s'.n = s.n + 1 ∧ s'.r = s.r ∧ s'.h = s.h ∧ s'.RV s.n = .slice po fn c ∧ ∀ i, i < s.n → s'.RV i = s.RV i) ∧ Pl w' po fn (pz W H) (fun _ _ => 0) ∧ Kept [] w w') ∧
    (∀ w, Calls Try.prog 17 #[shv W H D A] w fun e w' => ∃ po c, e = .returned (.tuple #[frv fW fH fD fA po fn c, .int .i64 fE]) ∧ Pl w' po fn (pz W H) (fun _ _ => 0) ∧ Kept [] w w') := by
  by_cases h : shE W H D A = 0
  · have hs : Shp W H D A := by
      rcases shE_two W H D A with ⟨-, h1⟩ | ⟨e1, -⟩
      · exact h1
      · rw [h] at e1; cases e1
    have hp : ∀ i, pz W H i ≤ 100000000 := fun i => by
      have := wpH (W := W) (H := H) (i : Int) hs.1.1 hs.1.2 hs.2.1.1 hs.2.1.2
      unfold pz; omega
    refine ⟨W, H, D, A, np A, 0, np_hi A, fun i _ => hp i, fun w0 w B d K s hB hR hK => ?_, fun w => ?_⟩
    · refine (new_any W H D A w).mono ?_
      rintro e w' ⟨h1, -⟩
      obtain ⟨g, bs, rfl, hM⟩ := h1 h
      refine ⟨_, _, _, rfl, hB.mk hM (by have := np_hi A; omega), hR.ans (by have := np_hi A; omega) (fun k hk => ⟨_, _, _, rfl, rfl, hp k⟩), ⟨rfl, rfl, rfl, ?_, fun i hi => ?_⟩, hM.pl, hM.kept⟩
      · show (if s.n = s.n then _ else _) = _
        rw [if_pos rfl]
      · show (if i = s.n then _ else s.RV i) = _
        rw [if_neg (by omega)]
    · refine (rnew_any W H D A w).mono ?_
      rintro e w' ⟨h1, -⟩
      obtain ⟨po, c, rfl, h2, h3⟩ := h1 h
      exact ⟨po, c, rfl, h2, h3⟩
  · refine ⟨0, 0, 0, false, 0, 61, by omega, fun i hi => by omega, fun w0 w B d K s hB hR hK => ?_, fun w => ?_⟩
    · refine (new_any W H D A w).mono ?_
      rintro e w' ⟨-, h1⟩
      obtain ⟨rfl, hk⟩ := h1 h
      refine ⟨_, _, _, rfl, hB.nil hk, hR.ans (by omega) (fun k hk => by omega), ⟨rfl, rfl, rfl, ?_, fun i hi => ?_⟩, .inl rfl, hk⟩
      · show (if s.n = s.n then _ else _) = _
        rw [if_pos rfl]
      · show (if i = s.n then _ else s.RV i) = _
        rw [if_neg (by omega)]
    · refine (rnew_any W H D A w).mono ?_
      rintro e w' ⟨-, h1⟩
      obtain ⟨rfl, hk⟩ := h1 h
      exact ⟨_, _, rfl, .inl rfl, hk⟩
end Go.Proofs.Ythihennifigchaa
