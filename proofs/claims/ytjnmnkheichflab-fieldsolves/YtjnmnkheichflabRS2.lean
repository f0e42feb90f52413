import Derived.Test.YtjnmnkheichflabRS1
namespace Go.Proofs.Ytjnmnkheichflab
open Go.RowKit

theorem Tw.congr {B : Nat} {w : World} {gl gr n : Nat} {bl br : Nat → Nat} {wl wr : Nat} {X Y Z V : Nat → Nat → Nat} (h : Tw B w gl gr n bl br wl wr X Y) (h1 : ∀ i, i < n → ∀ j, j < wl → Z i j = X i j) (h2 : ∀ i, i < n → ∀ j, j < wr → V i j = Y i j) : Tw B w gl gr n bl br wl wr Z V :=
  ⟨h.l.congr h1, h.r.congr h2, h.g, h.lg, h.rg, h.lr, h.b1, h.b2, h.b3, h.b4⟩

/-- One row scaled, as far as k. -/
def zk (s c k : Nat) (X : Nat → Nat → Nat) : Nat → Nat → Nat := fun a => if a = c then upt k (X c) (fun j => mu s (X c j)) else X a
theorem zk_c (s c k : Nat) (X : Nat → Nat → Nat) : zk s c k X c = upt k (X c) (fun j => mu s (X c j)) := if_pos rfl
theorem zk_ne {s c k a : Nat} {X : Nat → Nat → Nat} (h : a ≠ c) : zk s c k X a = X a := if_neg h
theorem zk_zero (s c : Nat) (X : Nat → Nat → Nat) (a j : Nat) : zk s c 0 X a j = X a j := by
  by_cases h : a = c
  · subst h; rw [zk_c]; exact if_neg (by omega)
  · rw [zk_ne h]
theorem zk_full {X : Nat → Nat → Nat} {c : Nat} (Y : Nat → Nat → Nat) (wd a j : Nat) (hj : j < wd) : ck X c Y 0 a j = zk (iv (X c c)) c wd Y a j := by
  by_cases h : a = c
  · subst h; rw [zk_c, ck_c]; exact (if_pos hj).symm
  · rw [zk_ne h]; unfold ck; rw [if_neg h, if_neg (by omega)]

theorem sw_comm (a b i : Nat) : sw a b i = sw b a i := by
  unfold sw
  by_cases h1 : i = a
  · by_cases h2 : i = b
    · rw [if_pos h1, if_pos h2]; omega
    · rw [if_pos h1, if_neg h2, if_pos h1]
  · by_cases h2 : i = b
    · rw [if_neg h1, if_pos h2, if_pos h2]
    · rw [if_neg h1, if_neg h2, if_neg h2, if_neg h1]

theorem ad_ne {g h x y : Nat} (hn : g ≠ h ∨ x ≠ y) : (⟨g, x, none⟩ : Addr) ≠ ⟨h, y, none⟩ := fun e => by
  rcases hn with hn | hn
  · exact hn (congrArg Addr.block e)
  · exact hn (congrArg Addr.off e)

/-- What is written into one place first. -/
theorem set_there {w : World} {g n : Nat} {bs : Nat → Nat} {wd : Nat} {F : Nat → Nat → Nat} {c r : Nat} (h : Mt w g n bs wd F) (hc : c < n) : (w.setCell ⟨g, r, none⟩ (.slice (some ⟨bs c, 0, none⟩) wd wd)).cell? ⟨g, c, none⟩ = some (.slice (some ⟨bs c, 0, none⟩) wd wd) := by
  by_cases e : r = c
  · subst e; exact World.cell?_setCell_same _ _ _ (h.out r hc)
  · rw [World.cell?_setCell_other _ _ _ _ (ad_ne (.inr e))]; exact h.out c hc

theorem Mt.set2 {w : World} {g h n : Nat} {bs : Nat → Nat} {wd : Nat} {F : Nat → Nat → Nat} {c r : Nat} (hm : Mt w g n bs wd F) (hc : c < n) (hr : r < n) (u v : Value) (hgh : g ≠ h) (hbh : ∀ i, i < n → bs i ≠ h) :
    Mt ((((w.setCell ⟨g, r, none⟩ (.slice (some ⟨bs c, 0, none⟩) wd wd)).setCell ⟨h, r, none⟩ u).setCell ⟨g, c, none⟩ (.slice (some ⟨bs r, 0, none⟩) wd wd)).setCell ⟨h, c, none⟩ v) g n (fun i => bs (sw c r i)) wd (fun i => F (sw c r i)) := by
  have k1 : Kept [g, h] w ((((w.setCell ⟨g, r, none⟩ (.slice (some ⟨bs c, 0, none⟩) wd wd)).setCell ⟨h, r, none⟩ u).setCell ⟨g, c, none⟩ (.slice (some ⟨bs r, 0, none⟩) wd wd)).setCell ⟨h, c, none⟩ v) := ((((Kept.refl _ _).setCell (p := ⟨g, r, none⟩) (.inl (by simp)) _).setCell (p := ⟨h, r, none⟩) (.inl (by simp)) _).setCell (p := ⟨g, c, none⟩) (.inl (by simp)) _).setCell (p := ⟨h, c, none⟩) (.inl (by simp)) _
  refine ⟨fun i hi => ?_, fun i hi => ?_, fun i hi => (hm.row _ (sw_lt hc hr hi)).keep k1 (by simp; exact ⟨hm.ne _ (sw_lt hc hr hi), hbh _ (sw_lt hc hr hi)⟩), fun i hi => hm.ne _ (sw_lt hc hr hi), fun i j hi hj e => sw_inj (hm.inj _ _ (sw_lt hc hr hi) (sw_lt hc hr hj) e)⟩
  · rw [World.cell?_setCell_other _ _ _ _ (ad_ne (.inl (Ne.symm hgh)))]
    by_cases e : i = c
    · subst e
      have h1 : ((w.setCell ⟨g, r, none⟩ (.slice (some ⟨bs i, 0, none⟩) wd wd)).setCell ⟨h, r, none⟩ u).cell? ⟨g, i, none⟩ = some (.slice (some ⟨bs i, 0, none⟩) wd wd) := by
        rw [World.cell?_setCell_other _ _ _ _ (ad_ne (.inl (Ne.symm hgh)))]; exact set_there hm hc
      rw [World.cell?_setCell_same _ _ _ h1, sw_left]
    · rw [World.cell?_setCell_other _ _ _ _ (ad_ne (.inr (Ne.symm e))), World.cell?_setCell_other _ _ _ _ (ad_ne (.inl (Ne.symm hgh)))]
      by_cases e2 : i = r
      · subst e2
        rw [World.cell?_setCell_same _ _ _ (hm.out i hi), show sw c i i = c from by unfold sw; rw [if_neg e, if_pos rfl]]
      · rw [World.cell?_setCell_other _ _ _ _ (ad_ne (.inr (Ne.symm e2))), hm.out i hi, show sw c r i = i from by unfold sw; rw [if_neg e, if_neg e2]]
  · rw [World.frozen?_setCell, World.frozen?_setCell, World.frozen?_setCell, World.frozen?_setCell]; exact hm.fz i hi

theorem Mt.set3 {w : World} {g h n : Nat} {bs : Nat → Nat} {wd : Nat} {F : Nat → Nat → Nat} {c r : Nat} (hm : Mt w g n bs wd F) (hc : c < n) (hr : r < n) (u v : Value) (hgh : g ≠ h) (hbh : ∀ i, i < n → bs i ≠ h) :
    Mt ((((w.setCell ⟨h, r, none⟩ u).setCell ⟨g, r, none⟩ (.slice (some ⟨bs c, 0, none⟩) wd wd)).setCell ⟨h, c, none⟩ v).setCell ⟨g, c, none⟩ (.slice (some ⟨bs r, 0, none⟩) wd wd)) g n (fun i => bs (sw c r i)) wd (fun i => F (sw c r i)) := by
  have k0 : Kept [h] w (w.setCell ⟨h, r, none⟩ u) := (Kept.refl _ _).setCell (p := ⟨h, r, none⟩) (.inl (by simp)) _
  have hm0 := hm.keep k0 (fun _ => by simpa using hgh) (fun i hi => by simpa using hbh i hi)
  have k1 : Kept [g, h] (w.setCell ⟨h, r, none⟩ u) ((((w.setCell ⟨h, r, none⟩ u).setCell ⟨g, r, none⟩ (.slice (some ⟨bs c, 0, none⟩) wd wd)).setCell ⟨h, c, none⟩ v).setCell ⟨g, c, none⟩ (.slice (some ⟨bs r, 0, none⟩) wd wd)) := (((Kept.refl _ _).setCell (p := ⟨g, r, none⟩) (.inl (by simp)) _).setCell (p := ⟨h, c, none⟩) (.inl (by simp)) _).setCell (p := ⟨g, c, none⟩) (.inl (by simp)) _
  refine ⟨fun i hi => ?_, fun i hi => ?_, fun i hi => (hm0.row _ (sw_lt hc hr hi)).keep k1 (by simp; exact ⟨hm.ne _ (sw_lt hc hr hi), hbh _ (sw_lt hc hr hi)⟩), fun i hi => hm.ne _ (sw_lt hc hr hi), fun i j hi hj e => sw_inj (hm.inj _ _ (sw_lt hc hr hi) (sw_lt hc hr hj) e)⟩
  · by_cases e : i = c
    · subst e
      have h1 : (((w.setCell ⟨h, r, none⟩ u).setCell ⟨g, r, none⟩ (.slice (some ⟨bs i, 0, none⟩) wd wd)).setCell ⟨h, i, none⟩ v).cell? ⟨g, i, none⟩ = some (.slice (some ⟨bs i, 0, none⟩) wd wd) := by
        rw [World.cell?_setCell_other _ _ _ _ (ad_ne (.inl (Ne.symm hgh)))]; exact set_there hm0 hc
      rw [World.cell?_setCell_same _ _ _ h1, sw_left]
    · rw [World.cell?_setCell_other _ _ _ _ (ad_ne (.inr (Ne.symm e))), World.cell?_setCell_other _ _ _ _ (ad_ne (.inl (Ne.symm hgh)))]
      by_cases e2 : i = r
      · subst e2
        rw [World.cell?_setCell_same _ _ _ (hm0.out i hi), show sw c i i = c from by unfold sw; rw [if_neg e, if_pos rfl]]
      · rw [World.cell?_setCell_other _ _ _ _ (ad_ne (.inr (Ne.symm e2))), hm0.out i hi, show sw c r i = i from by unfold sw; rw [if_neg e, if_neg e2]]
  · rw [World.frozen?_setCell, World.frozen?_setCell, World.frozen?_setCell]; exact hm0.fz i hi

theorem Tw.set2 {B : Nat} {w : World} {gl gr n : Nat} {bl br : Nat → Nat} {wl wr : Nat} {X Y : Nat → Nat → Nat} {c r : Nat} (h : Tw B w gl gr n bl br wl wr X Y) (hc : c < n) (hr : r < n) :
    Tw B ((((w.setCell ⟨gl, r, none⟩ (.slice (some ⟨bl c, 0, none⟩) wl wl)).setCell ⟨gr, r, none⟩ (.slice (some ⟨br c, 0, none⟩) wr wr)).setCell ⟨gl, c, none⟩ (.slice (some ⟨bl r, 0, none⟩) wl wl)).setCell ⟨gr, c, none⟩ (.slice (some ⟨br r, 0, none⟩) wr wr))
      gl gr n (fun i => bl (sw c r i)) (fun i => br (sw c r i)) wl wr (fun i => X (sw c r i)) (fun i => Y (sw c r i)) :=
  ⟨h.l.set2 hc hr _ _ h.g h.lg, h.r.set3 hc hr _ _ (Ne.symm h.g) h.rg, h.g, fun _ hi => h.lg _ (sw_lt hc hr hi), fun _ hi => h.rg _ (sw_lt hc hr hi), fun _ _ hi hj => h.lr _ _ (sw_lt hc hr hi) (sw_lt hc hr hj), h.b1, h.b2, fun _ hi => h.b3 _ (sw_lt hc hr hi), fun _ hi => h.b4 _ (sw_lt hc hr hi)⟩

set_option maxHeartbeats 2000000 in
set_option maxRecDepth 1000000 in
theorem refSolve_no (ao bo : Option Addr) (ca cb nL nK : Nat) (L K : List (List Nat)) (w : World) (hL : MR w ao L) (hK : MR w bo K) (hl : L.length = nL) (hk : K.length = nK) (hs : ssh L K = false) :
    Calls Try.prog 10 #[.slice ao nL ca, .slice bo nK cb] w fun e w' => e = .returned (.tuple #[.slice none 0 0, .int .i64 42]) ∧ Kept [] w w' := by
  unfold ssh at hs
  rw [hl, hk] at hs
  by_cases g1 : 256 < nL
  · go_enter Try.func10, Try.ntmps10
    go_wp2_with (fail)
    go_ret2
    exact ⟨rfl, Kept.refl _ _⟩
  · by_cases g2 : nK = nL
    · subst g2
      have C1 := Hid.mk (fits_any ao ca nK nK L w hL hl (by omega))
      have C2 := Hid.mk (fun w' hq => alike_any bo cb nK K w' (hK.keep (Qt.kept hq [])) hk (by omega))
      obtain ⟨b1, e1⟩ : ∃ b, b = al L nK := ⟨_, rfl⟩
      obtain ⟨b2, e2⟩ : ∃ b, b = al K (rl K) := ⟨_, rfl⟩
      rw [← e1] at C1 hs
      rw [← e2] at C2 hs
      rw [decide_eq_true (by omega)] at hs
      clear e1 e2 hl hk hL hK
      have d1 : decide ((256 : Int) < (nK : Int)) = false := by simp; omega
      cases b1
      · clear hs
        go_enter Try.func10, Try.ntmps10
        go_wp2_with (first | (go_at_call 31; refine C1.out.mono ?_; rintro e w' ⟨rfl, hw⟩; obtain rfl := hw.symm) | (go_at_call 32; refine (C2.out _ (Qt.refl _)).mono ?_; rintro e w3 ⟨rfl, hq3⟩))
        go_ret2
        exact ⟨rfl, Qt.kept hq3 []⟩
      · simp only [decide_true, Bool.true_and] at hs
        subst hs
        go_enter Try.func10, Try.ntmps10
        go_wp2_with (first | (go_at_call 31; refine C1.out.mono ?_; rintro e w' ⟨rfl, hw⟩; obtain rfl := hw.symm) | (go_at_call 32; refine (C2.out _ (Qt.refl _)).mono ?_; rintro e w3 ⟨rfl, hq3⟩))
        go_ret2
        exact ⟨rfl, Qt.kept hq3 []⟩
    · have g3 : ((nK : Int) == (nL : Int)) = false := by simp; omega
      have d1 : decide ((256 : Int) < (nL : Int)) = false := by simp; omega
      clear hs
      go_enter Try.func10, Try.ntmps10
      go_wp2_with (fail)
      go_ret2
      exact ⟨rfl, Kept.refl _ _⟩
end Go.Proofs.Ytjnmnkheichflab
