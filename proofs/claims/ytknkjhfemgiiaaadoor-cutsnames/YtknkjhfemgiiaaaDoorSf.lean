import Derived.Test.YtknkjhfemgiiaaaDoorSd
import Derived.Test.YtknkjhfemgiiaaaDoorSe
import Derived.Lib.RuneCount
namespace Go.Proofs.YtknkjhfemgiiaaaDoor
open Go.RowKit Go.Lib

set_option maxHeartbeats 4000000 in
set_option maxRecDepth 1000000 in
theorem finish_any (B b : Nat) (w : World) (s : Sn) (vw vs : Value) (sy : ByteArray) (h : Sc B w b s vw vs sy) (hB : B ≤ w.heap.size) (hn : s.ws.length ≤ 100000) :
    Calls Tryd.prog 23 #[.pointer (some ⟨b, 0, none⟩)] w fun e w' => e = .returned (.tuple #[]) ∧ ScP B b w w' (snF s) := by
  unfold snF
  obtain ⟨d0, -, d2, -⟩ := h.cells
  obtain ⟨q, eq⟩ : ∃ q, s.st = q := ⟨_, rfl⟩
  rw [eq] at d0 ⊢
  by_cases h1 : q = 1
  · rw [if_pos h1]
    subst h1
    have CE := Hid.mk (end_any B b w s vw vs sy h hB hn)
    clear h eq
    go_enter Tryd.func23, Tryd.ntmps23
    go_wp2_with (go_at_call 44; refine CE.out.mono ?_; rintro e w2 ⟨rfl, h2⟩)
    go_end0
    exact ⟨rfl, h2⟩
  · rw [if_neg h1]
    by_cases h2 : q = 2 ∨ q = 3
    · rw [if_pos h2]
      have g2 := h.fz 2
      obtain ⟨S2, K2⟩ := h.set (s' := { s with kd := 2 }) (vw' := vw) (vs' := vs) (sy' := sy) 2 (.int .i64 2) rfl h.wr h.sr
      obtain ⟨w1, e1⟩ : ∃ w1, w.setCell ⟨b, 2, none⟩ (.int .i64 2) = w1 := ⟨_, rfl⟩
      rw [e1] at S2 K2
      have hB1 : B ≤ w1.heap.size := Nat.le_trans hB K2.size
      have HK := Hid.mk (K2.bb hB)
      have CE := Hid.mk (end_any B b w1 _ vw vs sy S2 hB1 hn)
      clear h K2 S2 eq
      rcases h2 with h2 | h2
      · subst h2
        go_enter Tryd.func23, Tryd.ntmps23
        go_wp2_with (go_at_call 44; refine CE.out.mono ?_; rintro e w2 ⟨rfl, h2⟩)
        go_end0
        obtain ⟨a1, a2, a3, a4, a5⟩ := h2
        exact ⟨rfl, a1, a2, a3, a4, HK.out.trans a5⟩
      · subst h2
        go_enter Tryd.func23, Tryd.ntmps23
        go_wp2_with (go_at_call 44; refine CE.out.mono ?_; rintro e w2 ⟨rfl, h2⟩)
        go_end0
        obtain ⟨a1, a2, a3, a4, a5⟩ := h2
        exact ⟨rfl, a1, a2, a3, a4, HK.out.trans a5⟩
    · rw [if_neg h2]
      have h2a : ¬ q = 2 := fun h => h2 (.inl h)
      have h2b : ¬ q = 3 := fun h => h2 (.inr h)
      have HS := Hid.mk (And.intro h (Bx.refl B b w))
      clear h h2 eq
      go_enter Tryd.func23, Tryd.ntmps23
      go_wp2
      go_end0
      exact ⟨rfl, _, _, _, HS.out.1, HS.out.2⟩

/-- The rune at a place, and how many bytes it has. -/
def rn (s : ByteArray) (k : Nat) : Int := ((Utf8.decode s k).1 : Int)
def dn (s : ByteArray) (k : Nat) : Nat := (Utf8.decode s k).2
def stp (S : Sn) (p r : Int) : Sn := if S.st = 0 then snB S p r else if S.st = 1 then snG S r else if S.st = 2 then snT S r else if S.st = 3 then snU S r else S
/-- A line's scan. -/
def scn (s : ByteArray) (start : Int) : Nat → Nat → Sn → Sn × Option Nat
  | 0, _, S => (S, none)
  | f + 1, k, S => if k < s.size then (if S.st = 0 ∧ rn s k = 35 then (S, some k) else scn s start f (k + dn s k) (stp S (start + k) (rn s k))) else (S, none)
theorem scn_end (s : ByteArray) (start : Int) (f k : Nat) (S : Sn) (h : ¬ k < s.size) : scn s start f k S = (S, none) := by
  cases f with
  | zero => rfl
  | succ f => simp [scn, h]
theorem scn_fuel (s : ByteArray) (start : Int) : ∀ (f g k : Nat) (S : Sn), s.size ≤ f + k → s.size ≤ g + k → scn s start f k S = scn s start g k S := by
  intro f
  induction f with
  | zero => intro g k S h1 h2; rw [scn_end _ _ _ _ _ (by omega), scn_end _ _ _ _ _ (by omega)]
  | succ f ih =>
    intro g k S h1 h2
    by_cases hk : k < s.size
    · cases g with
      | zero => omega
      | succ g =>
        have hd : 1 ≤ dn s k := decode_width_pos s k hk
        simp only [scn, if_pos hk]
        split
        · rfl
        · exact ih g (k + dn s k) _ (by omega) (by omega)
    · rw [scn_end _ _ _ _ _ hk, scn_end _ _ _ _ _ hk]
def sn0 : Sn := ⟨0, [], 0, 0, []⟩
def lnR (s : ByteArray) (start : Int) : Sn × Option Nat := scn s start s.size 0 sn0
def lnW (s : ByteArray) (start : Int) : List Wd := match lnR s start with
  | (S, none) => (snF S).ws
  | (S, some _) => S.ws
def lnE (s : ByteArray) (start : Int) : Int := match lnR s start with
  | (_, none) => start + s.size
  | (_, some k) => start + k
theorem stp_st (S : Sn) (p r : Int) (h : 0 ≤ S.st ∧ S.st ≤ 3) : 0 ≤ (stp S p r).st ∧ (stp S p r).st ≤ 3 := by
  unfold stp snB snG snT snU snE snP
  repeat' split
  all_goals simp_all
theorem stp_len (S : Sn) (p r : Int) : (stp S p r).ws.length ≤ S.ws.length + 1 ∧ (stp S p r).sg.length ≤ S.sg.length + 1 := by
  unfold stp snB snG snT snU snE snP
  repeat' split
  all_goals simp_all
end Go.Proofs.YtknkjhfemgiiaaaDoor
