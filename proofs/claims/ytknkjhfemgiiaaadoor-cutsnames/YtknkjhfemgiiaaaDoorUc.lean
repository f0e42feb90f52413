import Derived.Test.YtknkjhfemgiiaaaDoorUb
namespace Go.Proofs.YtknkjhfemgiiaaaDoor
open Go.RowKit Go.Lib

def clE (t : ByteArray) (r : Int) (n : Nat) : Int := if ntE t ≠ 0 then ntE t else if r < 1 ∨ 7 < r then 181 else if 200 < n then 196 else 0
set_option maxHeartbeats 8000000 in
set_option maxRecDepth 1000000 in
theorem checkList_any (t : ByteArray) (r : Int) (a : Option Addr) (n c : Nat) (w : World) (hT : Tb w) (hU : Ut w) (ht : t.size ≤ maxLen) (hn : (n : Int) ≤ 9223372036854775807) : Calls Tryd.prog 24 #[clv t r a n c] w fun e w' => CeP (-1) (clE t r n) w e w' := by
  obtain ⟨w1, e1⟩ : ∃ w1, w.alloc (.cells #[.string t, .int .i64 r, .slice a n c] 26 (0, 0)) = w1 := ⟨_, rfl⟩
  have k1 : Kept [] w w1 := by rw [← e1]; exact alloc_kept _ _
  have b1 := heap_alloc_new w (.cells #[.string t, .int .i64 r, .slice a n c] 26 (0, 0))
  rw [e1] at b1
  obtain ⟨x0, x1, x2⟩ := cut_cells b1
  have CN := Hid.mk (checkNote_any t w1 ht (hU.keep k1))
  unfold clE
  obtain ⟨T, eT⟩ : ∃ T, ntE t = T := ⟨_, rfl⟩
  rw [eT] at CN ⊢
  have HB := Hid.mk b1
  have K1 := Hid.mk k1
  unfold clv
  by_cases hT0 : T = 0
  · subst hT0
    rw [if_neg (by simp)]
    by_cases hr : Rt r
    · rw [if_neg (by unfold Rt at hr; omega)]
      have CP := Hid.mk (fun u hu => PerDay_yes r u hr (hT.keep hu))
      by_cases h2 : 200 < n
      · rw [if_pos h2]
        have h3 : (200 : Int) < (n : Int) := by omega
        clear hT hU ht b1 k1 eT h2 hr hn
        go_enter Tryd.func24, Tryd.ntmps24
        go_wp2_with (fail)
        refine CN.out.mono ?_
        rintro e w2 ⟨rfl, k2⟩
        obtain ⟨y0, y1, y2⟩ := cut_cells (k2.heap HB.out (by simp))
        have CP2 := Hid.mk (CP.out w2 (K1.out.trans k2))
        clear x0 x1 x2 e1 CN
        go_wp2_with (fail)
        refine CP2.out.mono ?_
        rintro e w3 ⟨rfl, k3⟩
        obtain ⟨z0, z1, z2⟩ := cut_cells (k3.heap (k2.heap HB.out (by simp)) (by simp))
        clear y0 y1 y2
        go_wp2
        go_ret
        exact CeP.fault (by decide) ((K1.out.trans k2).trans k3)
      · rw [if_neg h2]
        have h3 : ¬ (200 : Int) < (n : Int) := by omega
        clear hT hU ht b1 k1 eT h2 hr hn
        go_enter Tryd.func24, Tryd.ntmps24
        go_wp2_with (fail)
        refine CN.out.mono ?_
        rintro e w2 ⟨rfl, k2⟩
        obtain ⟨y0, y1, y2⟩ := cut_cells (k2.heap HB.out (by simp))
        have CP2 := Hid.mk (CP.out w2 (K1.out.trans k2))
        clear x0 x1 x2 e1 CN
        go_wp2_with (fail)
        refine CP2.out.mono ?_
        rintro e w3 ⟨rfl, k3⟩
        obtain ⟨z0, z1, z2⟩ := cut_cells (k3.heap (k2.heap HB.out (by simp)) (by simp))
        clear y0 y1 y2
        go_wp2
        go_ret
        exact CeP.ok ((K1.out.trans k2).trans k3)
    · rw [if_pos (by unfold Rt at hr; omega)]
      have CP := Hid.mk (fun u => PerDay_no r u (by unfold Rt at hr; omega))
      clear hT hU ht b1 k1 eT hr hn
      go_enter Tryd.func24, Tryd.ntmps24
      go_wp2_with (fail)
      refine CN.out.mono ?_
      rintro e w2 ⟨rfl, k2⟩
      obtain ⟨y0, y1, y2⟩ := cut_cells (k2.heap HB.out (by simp))
      have CP2 := Hid.mk (CP.out w2)
      clear x0 x1 x2 e1 CN
      go_wp2_with (fail)
      refine CP2.out.mono ?_
      rintro e w3 ⟨rfl, k3⟩
      go_wp2
      go_ret
      exact CeP.fault (by decide) ((K1.out.trans k2).trans k3)
  · rw [if_pos hT0]
    clear hT hU ht b1 k1 eT hn
    go_enter Tryd.func24, Tryd.ntmps24
    go_wp2_with (fail)
    refine CN.out.mono ?_
    rintro e w2 ⟨rfl, k2⟩
    go_wp2
    go_ret
    exact CeP.fault hT0 (K1.out.trans k2)

def lfA : Option Evt → Int
  | none => 0
  | some y => y.out - y.inn - y.fade
/-- The first event that may not be. -/
def ckL (day : Int) : Option Evt → Nat → List Evt → Option (Int × Int)
  | _, _, [] => none
  | a, i, x :: t => if ceE day (lfA a) x = 0 then ckL day (some x) (i + 1) t else some ((i : Int), ceE day (lfA a) x)
def ckF (t : ByteArray) (r : Int) (l : List Evt) : Option (Int × Int) := if clE t r l.length = 0 then ckL (dy r) none 0 l else some (-1, clE t r l.length)
theorem ce_bd {day L : Int} {x : Evt} (h : ceE day L x = 0) (hd : day ≤ 6000000) : Ebd x := by
  unfold ceE at h
  split at h
  · cases h
  · split at h
    · cases h
    · split at h
      · cases h
      · exact ⟨by omega, by omega, by omega, by omega, by omega⟩
/-- A list's events in memory. -/
def EvL (w : World) (a : Option Addr) (l : List Evt) : Prop := l = [] ∨ ∃ g o, a = some ⟨g, o, none⟩ ∧ EvR w g o l
theorem EvL.keep {w w' : World} {a : Option Addr} {l : List Evt} (h : EvL w a l) (hk : Kept [] w w') : EvL w' a l := by
  rcases h with h | ⟨g, o, h1, h2⟩
  · exact .inl h
  · exact .inr ⟨g, o, h1, h2.keep hk⟩
/-- Texts that can be. -/
def Esz (l : List Evt) : Prop := ∀ x ∈ l, x.reel.size ≤ maxLen ∧ x.note.size ≤ maxLen
/-- What asking a list comes to. -/
def EoP (er : Option (Int × Int)) (w : World) (e : Ending) (w' : World) : Prop := ∃ v, e = .returned v ∧ Ee w' v er ∧ Kept [] w w'
theorem Rt_of {t : ByteArray} {r : Int} {n : Nat} (h : clE t r n = 0) : Rt r ∧ ntE t = 0 ∧ n ≤ 200 := by
  unfold clE at h
  split at h
  · rename_i h1; exact absurd h h1
  · split at h
    · cases h
    · split at h
      · cases h
      · rename_i h1 h2 h3
        exact ⟨by unfold Rt; omega, by simpa using h1, by omega⟩
/-- A loop over the events: how it stands. -/
structure Ckl (r : Int) (l : List Evt) (i : Nat) (R : Option (Int × Int)) : Prop where
  le : i ≤ l.length
  bd : ∀ j x, j < i → l[j]? = some x → Ebd x
  rs : ∃ a, ckL (dy r) a i (l.drop i) = R ∧ (i = 0 → a = none) ∧ (∀ j, i = j + 1 → a = l[j]?)
theorem Ckl.start (r : Int) (l : List Evt) : Ckl r l 0 (ckL (dy r) none 0 l) := ⟨Nat.zero_le _, fun j x h => by omega, none, rfl, fun _ => rfl, fun j h => by omega⟩
theorem Ckl.step {r : Int} {l : List Evt} {i : Nat} {R : Option (Int × Int)} (h : Ckl r l i R) (hi : i < l.length) : ∃ (x : Evt) (a : Option Evt), l[i]? = some x ∧ (i = 0 → a = none) ∧ (∀ j, i = j + 1 → ∃ y, a = some y ∧ l[j]? = some y ∧ Ebd y) ∧
    (ceE (dy r) (lfA a) x = 0 → Ckl r l (i + 1) R) ∧ (ceE (dy r) (lfA a) x ≠ 0 → R = some ((i : Int), ceE (dy r) (lfA a) x)) := by
  obtain ⟨a, h1, h2, h3⟩ := h.rs
  have hx : l[i]? = some l[i] := List.getElem?_eq_getElem hi
  rw [List.drop_eq_getElem_cons hi] at h1
  refine ⟨l[i], a, hx, h2, fun j hj => ?_, fun hc => ?_, fun hc => ?_⟩
  · have hjl : j < l.length := by omega
    have hy : l[j]? = some l[j] := List.getElem?_eq_getElem hjl
    exact ⟨l[j], (h3 j hj).trans hy, hy, h.bd j _ (by omega) hy⟩
  · simp only [ckL, if_pos hc] at h1
    refine ⟨hi, fun j x hj hx' => ?_, some l[i], h1, fun h => by omega, fun j hj => ?_⟩
    · by_cases hji : j = i
      · subst hji; rw [hx] at hx'; cases hx'; exact ce_bd hc (dy_top r)
      · exact h.bd j x (by omega) hx'
    · obtain rfl : j = i := by omega
      exact hx.symm
  · simp only [ckL, if_neg hc] at h1
    exact h1.symm
theorem Ckl.done {r : Int} {l : List Evt} {R : Option (Int × Int)} (h : Ckl r l l.length R) : R = none := by
  obtain ⟨a, h1, -⟩ := h.rs
  rw [List.drop_length] at h1
  exact h1.symm
end Go.Proofs.YtknkjhfemgiiaaaDoor
