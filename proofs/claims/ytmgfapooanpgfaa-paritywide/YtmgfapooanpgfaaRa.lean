import Derived.Test.YtmgfapooanpgfaaPg
import Derived.Test.YtmgfapooanpgfaaX2
namespace Go.Proofs.Ytmgfapooanpgfaa
open Go.RowKit

/-- A list whose elements are read. -/
def Sv (w : World) (ao : Option Addr) (n : Nat) (f : Nat → Value) : Prop := n = 0 ∨ ∃ g off, ao = some ⟨g, off, none⟩ ∧ ∀ i, i < n → w.cell? ⟨g, off + i, none⟩ = some (f i)
theorem Sv.kept {w w' : World} {ao : Option Addr} {n : Nat} {f : Nat → Value} {ks : List Nat} (h : Sv w ao n f) (hk : Kept ks w w') (hn : ∀ g off, ao = some ⟨g, off, none⟩ → g ∉ ks) : Sv w' ao n f := by
  rcases h with h | ⟨g, off, e, hc⟩
  · exact .inl h
  · exact .inr ⟨g, off, e, fun i hi => cell_keep hk (hc i hi) (hn g off e)⟩
theorem Sv.keep {w w' : World} {ao : Option Addr} {n : Nat} {f : Nat → Value} (h : Sv w ao n f) (hk : Kept [] w w') : Sv w' ao n f := h.kept hk (by simp)
theorem Sv.at {w : World} {ao : Option Addr} {n : Nat} {f : Nat → Value} (h : Sv w ao n f) {i : Nat} (hi : i < n) : ∃ g off, ao = some ⟨g, off, none⟩ ∧ w.cell? ⟨g, off + i, none⟩ = some (f i) := by
  rcases h with h | ⟨g, off, e, hc⟩
  · omega
  · exact ⟨g, off, e, hc i hi⟩
theorem fl_app (f g : Nat → Value) (n m : Nat) : fl f n ++ fl g m = fl (fun i => if i < n then f i else g (i - n)) (n + m) := by
  apply List.ext_getElem?
  intro i
  by_cases h : i < n + m
  · rw [fl_at _ _ _ h]
    by_cases h1 : i < n
    · rw [List.getElem?_append_left (by rw [fl_length]; exact h1), fl_at _ _ _ h1, if_pos h1]
    · rw [List.getElem?_append_right (by rw [fl_length]; omega), fl_length, fl_at _ _ _ (by omega), if_neg h1]
  · rw [List.getElem?_eq_none (by rw [List.length_append, fl_length, fl_length]; omega), List.getElem?_eq_none (by rw [fl_length]; omega)]
theorem own_sv {w : World} {B e n : Nat} {V : Value} {f : Nat → Value} (h : w.ownsRow B e 1 V n (fl f n)) : ∃ ao cap, V = .slice ao n cap ∧ Sv w ao n f ∧ (∀ g off, ao = some ⟨g, off, none⟩ → B ≤ g) ∧ (ao = none → cap = 0) := by
  rcases h.2 with ⟨h1, h2⟩ | ⟨g, cap, cur, h1, hb, _⟩
  · subst h2
    exact ⟨none, 0, h1, .inl rfl, by simp, fun _ => rfl⟩
  · refine ⟨_, cap, h1, .inr ⟨g, 0, rfl, fun i hi => ?_⟩, fun g2 off e => by cases e; exact hb, by simp⟩
    subst h1
    have hc := h.cells (g := g) rfl i (f i) (fl_at f n i hi)
    have hadd : (⟨g, 0, none⟩ : Addr).add i = ⟨g, 0 + i, none⟩ := by unfold Addr.add; split <;> simp_all
    rw [hadd] at hc
    exact hc

/-- append of a list that is read onto one of one's own. -/
theorem wpList_app (w : World) {ops : Array Oper} {rest : List Oper} {o : Oper} {a : Act} {Q : Exit → Act → World → Prop} (hgd : o.guard = none) (s x : Operand) (t B e : Nat) (i0 : TypeInfo) (z : Value) (by_ : Nat)
    (hu : Try.prog.underlying t = some (.slice e)) (hi : Try.prog.info? e = some i0) (hz0 : i0.zero = some z) (hz1 : i0.size = 1) (hz2 : i0.bytes = by_) (hzz : z.cells.size = 1) (hby : by_ ≤ 24)
    (ho : o.op = .call { callee := .builtin .append, args := #[s, x], argTypes := #[t, t] })
    (v : Value) (n : Nat) (xs : List Value) (hs : a.eval s = v) (hown : w.ownsRow B e 1 v n xs) (uo : Option Addr) (m uc : Nat) (f : Nat → Value) (hx : a.eval x = .slice uo m uc) (hsrc : Sv w uo m f) (hnil : uo = none → m = 0 ∧ uc = 0) (h1 : ∀ i, i < m → (f i).oneCell' = true)
    (hBw : B ≤ w.heap.size) (hb : n + m ≤ 1000000000000)
    (h : ∀ v' w', w'.ownsRow B e 1 v' (n + m) (xs ++ fl f m) → Kept v.ownBlock.toList w w' → Lies w v v' → wpList Try.prog ops Q rest (a.put o.dst v') w') :
    wpList Try.prog ops Q (o :: rest) a w := by
  cases uo with
  | none =>
    obtain ⟨rfl, rfl⟩ := hnil rfl
    refine wpList_plain hgd fun K hK => ?_
    have hrun := run_append_owned_none (P := Try.prog) (w := w) B t o.type e i0 1 hu hi v n xs hown
    unfold Oper.wp execOp
    simp only [ho, resolve, invoke, builtin, Sem.run_bind, Sem.run_pure, Result.andThen_ok, List.map_toArray, List.map_cons, List.map_nil, hs, hx, hrun]
    exact hK _ _ (h v w (by simpa [fl] using hown) (Kept.refl _ _) (Lies.refl _ _))
  | some ad =>
    refine wpList_append_own_at w hgd s x t ho B e i0 z 1 by_ hu hi hz0 hz1 hz2 hzz (by decide) v n xs hs hown ad m uc (fl f m) hx (by rw [fl_length, Nat.mul_one]) (fun j u hj => ?_) (fun u hu2 => ?_) (by unfold maxLen; omega) ?_ hBw ?_
    · have hjm : j < m := by
        rcases Nat.lt_or_ge j m with h | h
        · exact h
        · rw [List.getElem?_eq_none (by rw [fl_length]; exact h)] at hj; cases hj
      rw [fl_at _ _ _ hjm] at hj
      cases hj
      obtain ⟨g, off, e2, hc⟩ := hsrc.at hjm
      cases e2
      have hadd : (⟨g, off, none⟩ : Addr).add j = ⟨g, off + j, none⟩ := by unfold Addr.add; split <;> simp_all
      rw [hadd]; exact hc
    · simp only [fl, List.mem_map, List.mem_range] at hu2
      obtain ⟨i, hi2, rfl⟩ := hu2
      exact h1 i hi2
    · have : (n + m) * by_ ≤ 1000000000000 * 24 := Nat.mul_le_mul hb hby
      omega
    · intro v' w' h2 h3 _ h5
      refine h v' w' h2 (Kept.of_grown h3) ?_
      rcases h5 with h | h
      · exact .inl h
      · exact .inr ⟨_, h, Nat.le_refl _⟩

/-- Whether numbers are 0 to most. -/
def wi (f : Nat → Int) (n : Nat) (most : Int) : Bool := (List.range n).all fun i => decide (0 ≤ f i ∧ f i ≤ most)
theorem wi_true {f : Nat → Int} {n : Nat} {most : Int} : wi f n most = true ↔ ∀ i, i < n → 0 ≤ f i ∧ f i ≤ most := by
  unfold wi
  rw [List.all_eq_true]
  constructor
  · intro h i hi; simpa using h i (by simpa using hi)
  · intro h i hi; simpa using h i (by simpa using hi)
theorem wi_no {f : Nat → Int} {n : Nat} {most : Int} {i : Nat} (hi : i < n) (h : ¬ (0 ≤ f i ∧ f i ≤ most)) : wi f n most = false := by
  cases e : wi f n most
  · rfl
  · exact absurd (wi_true.1 e i hi) h

set_option maxHeartbeats 4000000 in
set_option maxRecDepth 1000000 in
theorem within_any (ao : Option Addr) (n ca : Nat) (f : Nat → Int) (most : Int) (w : World) (hr : RdI w ao f n) (hn : n ≤ 140737488355328) :
    Calls Try.prog 31 #[.slice ao n ca, .int .i64 most] w fun e w' => e = .returned (.bool (wi f n most)) ∧ w' = w := by
  have Hr := Hid.mk hr
  clear hr
  go_enter Try.func31, Try.ntmps31
  go_wp2
  go_loop [9] (fun i => ∃ k : Nat, k ≤ n ∧ i = .int .i64 (k : Int) ∧ ∀ j, j < k → 0 ≤ f j ∧ f j ≤ most) (fun i => n - (intOf i).toNat)
  case atStart => exact ⟨0, by omega, rfl, fun j hj => by omega⟩
  case round =>
    obtain ⟨k, hk, rfl, hall⟩ := hrel
    have Hall := Hid.mk hall
    clear hall
    by_cases hlt : k < n
    · obtain ⟨g, off, hg, hc⟩ := Hr.out.at hlt
      have ix : (k : Int) < (n : Int) := by omega
      have Hno : Hid (¬ (0 ≤ f k ∧ f k ≤ most) → wi f n most = false) := Hid.mk (wi_no hlt)
      have Hyes : Hid (0 ≤ f k ∧ f k ≤ most → ∀ j, j < k + 1 → 0 ≤ f j ∧ f j ≤ most) := Hid.mk (fun h j hj => by
        by_cases e : j = k
        · subst e; exact h
        · exact Hall.out j (by omega))
      obtain ⟨x, e⟩ : ∃ x, x = f k := ⟨_, rfl⟩
      rw [← e] at hc Hno Hyes
      clear e
      subst hg
      by_cases h0 : x < 0
      · have H := Hid.mk (Hno.out (by omega))
        have d0 : decide (x < 0) = true := by simpa using h0
        go_wp2
        go_ret
        exact ⟨ret_bool H.out.symm, rfl⟩
      · have d0 : decide (x < 0) = false := by simpa using h0
        by_cases h1 : most < x
        · have H := Hid.mk (Hno.out (by omega))
          have d1 : decide (most < x) = true := by simpa using h1
          go_wp2
          go_ret
          exact ⟨ret_bool H.out.symm, rfl⟩
        · have H := Hid.mk (Hyes.out (by omega))
          have d1 : decide (most < x) = false := by simpa using h1
          go_wp2
          go_round
          case rel => exact ⟨k + 1, by omega, by go_num, H.out⟩
          case measure => simp [intOf]; omega
    · obtain rfl : n = k := by omega
      have H := Hid.mk (wi_true.2 Hall.out)
      go_wp2
      go_ret
      exact ⟨ret_bool H.out.symm, rfl⟩
end Go.Proofs.Ytmgfapooanpgfaa
