import Derived.Test.YtmgfapooanpgfaaRc
namespace Go.Proofs.Ytmgfapooanpgfaa
open Go.RowKit

/-- Rows as values. -/
def vS (bo : Nat → Option Addr) (ln cp : Nat → Nat) : Nat → Value := fun k => .slice (bo k) (ln k) (cp k)
/-- Whether what is not lost is as long as it must be. -/
def alg (gl ln : Nat → Nat) (go : Nat → Bool) (N : Nat) : Bool := (List.range N).all fun k => go k || decide (gl k = ln k)
theorem alg_true {gl ln : Nat → Nat} {go : Nat → Bool} {N : Nat} : alg gl ln go N = true ↔ ∀ k, k < N → go k = false → gl k = ln k := by
  unfold alg
  rw [List.all_eq_true]
  constructor
  · intro h k hk hg
    have := h k (by simpa using hk)
    rw [hg] at this
    simpa using this
  · intro h k hk
    cases hg : go k
    · simpa using h k (by simpa using hk) hg
    · rfl
theorem alg_no {gl ln : Nat → Nat} {go : Nat → Bool} {N k : Nat} (hk : k < N) (hg : go k = false) (h : gl k ≠ ln k) : alg gl ln go N = false := by
  cases e : alg gl ln go N
  · rfl
  · exact absurd (alg_true.1 e k hk hg) h

set_option maxHeartbeats 4000000 in
set_option maxRecDepth 1000000 in
theorem asLong_any (ao lo mo : Option Addr) (N ca nl cl nm_ cm : Nat) (bo : Nat → Option Addr) (gl cp ln : Nat → Nat) (go : Nat → Bool) (w : World) (hr : Sv w ao N (vS bo gl cp)) (hl : RdI w lo (fun k => (ln k : Int)) nl) (hg : Sv w mo nm_ (vB go)) (h1 : N ≤ nl) (h2 : N ≤ nm_) (hN : N ≤ 216) :
    Calls Try.prog 35 #[.slice ao N ca, .slice lo nl cl, .slice mo nm_ cm] w fun e w' => e = .returned (.bool (alg gl ln go N)) ∧ Kept [] w w' := by
  have Hr := Hid.mk hr
  have Hl := Hid.mk hl
  have Hg := Hid.mk hg
  clear hr hl hg
  go_enter Try.func35, Try.ntmps35
  go_wp2
  go_loopw [11] (fun i wr => ∃ k : Nat, k ≤ N ∧ i = .int .i64 (k : Int) ∧ (∀ j, j < k → go j = false → gl j = ln j) ∧ Kept [] w wr) (fun i _ => N - (intOf i).toNat)
  case atStart => exact ⟨0, by omega, rfl, fun j hj => by omega, Kept.refl _ _⟩
  case round =>
    obtain ⟨k, hk, rfl, hall, hkr⟩ := hrel
    have Hall := Hid.mk hall
    have Hkr := Hid.mk hkr
    clear hall
    by_cases hlt : k < N
    · obtain ⟨g1, o1, rfl, hc1'⟩ := Hr.out.at hlt
      obtain ⟨g2, o2, rfl, hc2'⟩ := Hl.out.at (show k < nl by omega)
      obtain ⟨g3, o3, rfl, hc3'⟩ := Hg.out.at (show k < nm_ by omega)
      have hc1 := cell_keep hkr hc1' (by simp)
      have hc2 := cell_keep hkr hc2' (by simp)
      have hc3 := cell_keep hkr hc3' (by simp)
      unfold vS at hc1
      unfold vB at hc3
      clear hc1' hc2' hc3' hkr
      have ix : (k : Int) < (N : Int) := by omega
      have ix2 : (k : Int) < (nl : Int) := by omega
      have ix3 : (k : Int) < (nm_ : Int) := by omega
      have Hno : Hid (go k = false → gl k ≠ ln k → alg gl ln go N = false) := Hid.mk (alg_no hlt)
      have Hyes : Hid ((go k = false → gl k = ln k) → ∀ j, j < k + 1 → go j = false → gl j = ln j) := Hid.mk (fun h j hj hgj => by
        by_cases e : j = k
        · subst e; exact h hgj
        · exact Hall.out j (by omega) hgj)
      obtain ⟨x, e⟩ : ∃ x, x = gl k := ⟨_, rfl⟩
      rw [← e] at hc1 Hno Hyes
      clear e
      obtain ⟨y, e⟩ : ∃ y, y = ln k := ⟨_, rfl⟩
      rw [← e] at hc2 Hno Hyes
      clear e
      obtain ⟨b, e⟩ : ∃ b, b = go k := ⟨_, rfl⟩
      rw [← e] at hc3 Hno Hyes
      clear e
      cases b
      · by_cases hxy : x = y
        · have H := Hid.mk (Hyes.out (fun _ => hxy))
          subst hxy
          clear Hno Hyes
          go_wp2
          exact ⟨⟨k + 1, by omega, by go_num, H.out, Hkr.out⟩, by simp [intOf]; omega⟩
        · have H := Hid.mk (Hno.out rfl hxy)
          have hne : ((x : Int) == (y : Int)) = false := by simp; omega
          clear Hno Hyes
          go_wp2
          go_ret
          exact ⟨ret_bool H.out.symm, Hkr.out⟩
      · have H := Hid.mk (Hyes.out (fun h => by cases h))
        clear Hno Hyes
        go_wp2
        exact ⟨⟨k + 1, by omega, by go_num, H.out, Hkr.out⟩, by simp [intOf]; omega⟩
    · obtain rfl : N = k := by omega
      have H := Hid.mk (alg_true.2 Hall.out)
      clear hkr
      go_wp2
      go_ret
      exact ⟨ret_bool H.out.symm, Hkr.out⟩

theorem fl_snoc (l : List Nat) (k : Nat) : fl (vI (fun t => l.getD t 0)) l.length ++ [.int .i64 (k : Int)] = fl (vI (fun t => (l ++ [k]).getD t 0)) (l ++ [k]).length := by
  rw [show [Value.int .i64 (k : Int)] = fl (vI (fun _ => k)) 1 from rfl, fl_app, List.length_append, List.length_singleton]
  apply fl_congr
  intro i hi
  show (if i < l.length then Value.int .i64 (l.getD i 0 : Int) else Value.int .i64 (k : Int)) = Value.int .i64 ((l ++ [k]).getD i 0 : Int)
  by_cases h : i < l.length
  · rw [if_pos h, getD_left _ _ _ h]
  · rw [if_neg h, getD_right _ _ _ (by omega), show i - l.length = 0 by omega]; rfl

set_option maxHeartbeats 4000000 in
set_option maxRecDepth 1000000 in
theorem numbers_any (mo : Option Addr) (N cm most : Nat) (m : Nat → Bool) (a : Bool) (w : World) (hr : Sv w mo N (vB m)) (hN : N ≤ 216) (hmo : most ≤ 216) :
    Calls Try.prog 52 #[.slice mo N cm, .bool a, .int .i64 (most : Int)] w fun e w' => ∃ lo c, e = .returned (.slice lo (nm m a most N).length c) ∧ RdI w' lo (fun t => ((nm m a most N).getD t 0 : Int)) (nm m a most N).length ∧ Kept [] w w' := by
  obtain ⟨i0, hi, hz0, hz1, hz2⟩ := info_parts Try.infoI
  have Hr := Hid.mk hr
  clear hr
  go_enter Try.func52, Try.ntmps52
  go_wp2
  go_loopw [7, 12] (fun v i wr => ∃ k : Nat, k ≤ N ∧ i = .int .i64 (k : Int) ∧ wr.ownsRow w.heap.size 3 1 v (nm m a most k).length (fl (vI (fun t => (nm m a most k).getD t 0)) (nm m a most k).length) ∧ Kept [] w wr) (fun _ i _ => N - (intOf i).toNat)
  case atStart => exact ⟨0, by omega, rfl, ⟨rfl, .inl ⟨rfl, rfl⟩⟩, Kept.refl _ _⟩
  case round =>
    obtain ⟨k, hk, rfl, ho, hkr⟩ := hrel
    by_cases hlt : k < N
    · obtain ⟨g, off, rfl, hc0⟩ := Hr.out.at hlt
      have hc := cell_keep hkr hc0 (by simp)
      unfold vB at hc
      have hll : (nm m a most k).length ≤ 216 := by rw [nm_len]; omega
      have Hlo := Hid.mk (own_loE ho)
      have Hkr := Hid.mk hkr
      have hsz := hkr.size
      have ix : (k : Int) < (N : Int) := by omega
      obtain ⟨ao, c, rfl, _⟩ := own_sv ho
      by_cases hm : m k = a
      · by_cases hl2 : (nm m a most k).length < most
        · have Hn : Hid (nm m a most (k + 1) = nm m a most k ++ [k]) := Hid.mk (by rw [nm, if_pos ⟨hm, hl2⟩])
          have Ho := Hid.mk ho
          have Hs := Hid.mk (fl_snoc (nm m a most k) k)
          rw [← Hn.out] at Hs
          have Hn2 : Hid ((nm m a most (k + 1)).length = (nm m a most k).length + 1) := Hid.mk (by rw [Hn.out, List.length_append]; rfl)
          rw [hm] at hc
          obtain ⟨q, eq⟩ : ∃ q, q = (nm m a most k).length := ⟨_, rfl⟩
          obtain ⟨xs, ex⟩ : ∃ xs, xs = fl (vI (fun t => (nm m a most k).getD t 0)) (nm m a most k).length := ⟨_, rfl⟩
          rw [← ex] at Ho Hs
          rw [← eq] at hl2 hll Ho Hn2 Hlo ⊢
          have hd : decide ((q : Int) < (most : Int)) = true := by simp; omega
          have haa : (a == a) = true := by cases a <;> rfl
          clear ex eq ho hkr hc0 Hn
          go_wp2_with (at_builtin; refine wpList_append_own_at _ rfl _ _ 30 rfl w.heap.size 3 i0 (.int .i64 0) 1 8 Try.underlying30 hi hz0 hz1 hz2 rfl (by decide) _ q xs rfl (Ho.out.alloc _) ⟨wr.heap.size, 0, none⟩ 1 1 [.int .i64 (k : Int)] rfl rfl (cell_one_new _ _ _) ?c2 ?c3 ?c4 ?c5 ?_)
          case c2 => intro u hu; simp at hu; subst hu; rfl
          case c3 => unfold maxLen; omega
          case c4 => omega
          case c5 => rw [World.size_alloc]; omega
          intro V' w5 ho5 hg5 _ _
          have hk5 := Hid.mk ((Hkr.out.alloc (.cells #[.int .i64 (k : Int)] 3)).step (Kept.of_grown hg5) (fun x hx => .inr (Hlo.out x hx)))
          have Ho5 := Hid.mk ho5
          rw [Hs.out, ← Hn2.out] at Ho5
          clear ho5 hg5
          go_wp2
          exact ⟨⟨k + 1, by omega, by go_num, Ho5.out, hk5.out⟩, by simp [intOf]; omega⟩
        · have Ho : Hid (wr.ownsRow w.heap.size 3 1 (.slice ao (nm m a most k).length c) (nm m a most (k + 1)).length (fl (vI (fun t => (nm m a most (k + 1)).getD t 0)) (nm m a most (k + 1)).length)) := Hid.mk (by rw [nm, if_neg (by simp [hl2])]; exact ho)
          rw [hm] at hc
          obtain ⟨q, eq⟩ : ∃ q, q = (nm m a most k).length := ⟨_, rfl⟩
          rw [← eq] at hl2 hll Ho ⊢
          have hd : decide ((q : Int) < (most : Int)) = false := by simp; omega
          have haa : (a == a) = true := by cases a <;> rfl
          clear eq ho hkr hc0
          go_wp2
          exact ⟨⟨k + 1, by omega, by go_num, Ho.out, Hkr.out⟩, by simp [intOf]; omega⟩
      · have Ho : Hid (wr.ownsRow w.heap.size 3 1 (.slice ao (nm m a most k).length c) (nm m a most (k + 1)).length (fl (vI (fun t => (nm m a most (k + 1)).getD t 0)) (nm m a most (k + 1)).length)) := Hid.mk (by rw [nm, if_neg (by simp [hm])]; exact ho)
        have hb : (m k == a) = false := by simpa using hm
        obtain ⟨q, eq⟩ : ∃ q, q = (nm m a most k).length := ⟨_, rfl⟩
        rw [← eq] at hll Ho ⊢
        obtain ⟨b, eb⟩ : ∃ b, b = m k := ⟨_, rfl⟩
        rw [← eb] at hc hb
        clear eq ho hkr hc0 eb hm
        go_wp2
        exact ⟨⟨k + 1, by omega, by go_num, Ho.out, Hkr.out⟩, by simp [intOf]; omega⟩
    · obtain rfl : N = k := by omega
      obtain ⟨ao, c, rfl, hsv, _⟩ := own_sv ho
      have H1 := Hid.mk hsv
      have Hkr := Hid.mk hkr
      clear ho hsv hkr
      obtain ⟨q, eq⟩ : ∃ q, q = (nm m a most N).length := ⟨_, rfl⟩
      rw [← eq] at H1 ⊢
      have Eq := Hid.mk eq
      clear eq
      go_wp2
      go_ret
      rw [← Eq.out]
      exact ⟨ao, c, rfl, rdi_sv H1.out, Hkr.out⟩
end Go.Proofs.Ytmgfapooanpgfaa
