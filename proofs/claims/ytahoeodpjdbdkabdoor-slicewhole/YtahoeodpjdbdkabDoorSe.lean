import Derived.Test.YtahoeodpjdbdkabDoorSbZ
import Derived.Deep.LoopGhost
namespace Go.Proofs.YtahoeodpjdbdkabDoor
open Go.RowKit

/-- What drives a walk: how a run and one sample are told, where they are refused. -/
structure Drv (α : Type) where
  run : Wk → α → Nat → α → Prop
  one : Wk → Int → Int → Int → Nat → α → Int → α → Prop
  runB : Wk → α → Prop
  oneB : Wk → Int → Int → Int → Nat → α → Prop

/-- One round. -/
def It {α : Type} (T d : Int) (W n : Nat) (V : Drv α) (s : Wk) (x : α) (s' : Wk) (x' : α) : Prop :=
  s.t < n ∧ ((xk T d W s = 0 ∧ ∃ m x1, m ≤ rom W s.t ∧ V.run s x m x1 ∧ ((m = rom W s.t ∧ s' = gor T W s m ∧ x' = x1) ∨
      (m ≠ rom W s.t ∧ ∃ q, V.one (gor T W s m) 0 (xs T d W s) (nA T W s.b s.t) 1 x1 q x' ∧ s' = goo T d (gor T W s m) 0 (xs T d W s) (nA T W s.b s.t) q))) ∨
    (xk T d W s ≠ 0 ∧ ∃ q, V.one s (xk T d W s) (xs T d W s) (xp T d W s) 0 x q x' ∧ s' = goo T d s (xk T d W s) (xs T d W s) (xp T d W s) q))
/-- A round that is not ended. -/
def Stk {α : Type} (T d : Int) (W n : Nat) (V : Drv α) (s : Wk) (x : α) : Prop :=
  s.t < n ∧ ((xk T d W s = 0 ∧ (V.runB s x ∨ ∃ m x1, m ≤ rom W s.t ∧ m ≠ rom W s.t ∧ V.run s x m x1 ∧ V.oneB (gor T W s m) 0 (xs T d W s) (nA T W s.b s.t) 1 x1)) ∨
    (xk T d W s ≠ 0 ∧ V.oneB s (xk T d W s) (xs T d W s) (xp T d W s) 0 x))
inductive Rch {α : Type} (T d : Int) (W n : Nat) (V : Drv α) (s : Wk) (x : α) : Wk → α → Prop
  | refl : Rch T d W n V s x s x
  | tail {s1 : Wk} {x1 : α} {s2 : Wk} {x2 : α} : Rch T d W n V s x s1 x1 → It T d W n V s1 x1 s2 x2 → Rch T d W n V s x s2 x2

/-- Where one sample is asked for. -/
def Pre {α : Type} (T d : Int) (W n : Nat) (V : Drv α) (Rc : Wk → α → Prop) (s : Wk) (x : α) (k g p : Int) (least : Nat) : Prop :=
  (least = 0 ∧ k = xk T d W s ∧ g = xs T d W s ∧ p = xp T d W s ∧ xk T d W s ≠ 0 ∧ Rc s x) ∨
  (least = 1 ∧ k = 0 ∧ ∃ s0 x0 m, m ≤ rom W s0.t ∧ m ≠ rom W s0.t ∧ V.run s0 x0 m x ∧ s = gor T W s0 m ∧ g = xs T d W s0 ∧ p = nA T W s0.b s0.t ∧ xk T d W s0 = 0 ∧ s0.In T ∧ s0.t < n ∧ Rc s0 x0)

/-- What a spot lies in stays. -/
def S98 (w w' : World) : Prop := ∀ (Q : Nat) (c : Array Value), w.heap[Q]? = some (.cells c 103 (0, 0)) → w'.heap[Q]? = some (.cells c 103 (0, 0))
theorem S98.of_kept {w w' : World} {ks : List Nat} (hk : Kept ks w w') (h : ∀ b, b ∈ ks → b < w.heap.size → ∃ c t p, w.heap[b]? = some (.cells c t p) ∧ t ≠ 103) : S98 w w' := by
  intro Q c hQ
  refine hk.heap hQ (fun hm => ?_)
  obtain ⟨c', t, p, h1, h2⟩ := h Q hm (lt_of_block hQ)
  exact ne_ty h1 hQ h2 rfl

theorem Wm.learn {w w' : World} {B P X G ty : Nat} {T d D : Int} {W n : Nat} {ext : List Value} {s : Wk} {L' : Nat → Sx} (h : Wm w B P X G ty T d D W n ext s) (hk : Kept [P] w w') (hm : Md w' P T d L') : Wm w' B P X G ty T d D W n ext ⟨L', s.r, s.b, s.t⟩ := by
  obtain ⟨n1, n2, n3, n4, n5, n6⟩ := h.ne
  obtain ⟨cs, hr, hl, hc⟩ := h.row
  exact ⟨hk.heap h.blk (by simp; omega), hm, h.co.kept hk (by simp; omega), ⟨cs, hk.heap hr (by simp; omega), hl, hc⟩, h.ty⟩
theorem Wm.s98 {w w' : World} {B P X G ty : Nat} {T d D : Int} {W n : Nat} {ext : List Value} {s : Wk} (h : Wm w B P X G ty T d D W n ext s) (hk : Kept [B, G, P] w w') : S98 w w' := by
  refine S98.of_kept hk (fun b hb hl => ?_)
  obtain ⟨cs, hr4, _⟩ := h.row
  obtain ⟨ps, hp, _⟩ := h.md.blk
  have ht := h.ty
  rcases List.mem_cons.1 hb with rfl | hb
  · exact ⟨_, ty, _, h.blk, by rcases ht with h | h <;> rw [h] <;> decide⟩
  · rcases List.mem_cons.1 hb with rfl | hb
    · exact ⟨_, _, _, hr4, by decide⟩
    · rw [List.mem_singleton.1 hb]; exact ⟨_, _, _, hp, by decide⟩

/-- What is wanted of the two functions. -/
structure Hnd {α : Type} (B P X G ty : Nat) (T d D : Int) (W n : Nat) (ext : List Value) (fr fo : Nat) (V : Drv α) (I : World → Wk → α → Prop) (Bd : World → List PanicEntry → Prop) (Rc : Wk → α → Prop) : Prop where
  wm : ∀ w s x, I w s x → Wm w B P X G ty T d D W n ext s
  step : ∀ w w' s s' x, I w s x → Kept [B, G, P] w w' → Wm w' B P X G ty T d D W n ext s' → I w' s' x
  run : ∀ w s x, I w s x → s.In T → s.t < n → xk T d W s = 0 → Rc s x → Calls Tryd.prog fr #[.pointer (some ⟨B, 0, none⟩), .int .i64 (nA T W s.b s.t), .int .i64 (rom W s.t : Int)] w fun e w' =>
    (∃ (m : Nat) (x' : α), e = .returned (.int .i64 (m : Int)) ∧ m ≤ rom W s.t ∧ V.run s x m x' ∧ I w' ⟨s.L, rr s.r m (rom W s.t), s.b, s.t⟩ x' ∧ S98 w w') ∨ (∃ pc, e = .panicked pc ∧ V.runB s x ∧ Bd w' pc)
  one : ∀ w s x k g p least, I w s x → s.In T → s.t < n → Pre T d W n V Rc s x k g p least → Calls Tryd.prog fo #[.pointer (some ⟨B, 0, none⟩), .agg #[.int .i64 k, .int .i64 g, .int .i64 p], .int .i64 (least : Int)] w fun e w' =>
    (∃ (q : Int) (x' : α), e = .returned (.int .i64 q) ∧ -5000 ≤ q ∧ q ≤ 5000 ∧ V.one s k g p least x q x' ∧ I w' s x' ∧ S98 w w') ∨ (∃ pc, e = .panicked pc ∧ V.oneB s k g p least x ∧ Bd w' pc)

theorem gq_in {g q : Int} (hg : g = 1 ∨ g = -1) (h0 : -5000 ≤ q) (h1 : q ≤ 5000) : IntKind.i64.wrap (g * q) = g * q ∧ -5000 ≤ g * q ∧ g * q ≤ 5000 := by
  rcases hg with rfl | rfl
  · rw [Int.one_mul]; exact ⟨wrap_i (by omega) (by omega), by omega, by omega⟩
  · rw [Int.neg_mul, Int.one_mul]; exact ⟨wrap_i (by omega) (by omega), by omega, by omega⟩

theorem agg3 {w : World} {Q : Nat} {a b c : Value} (h : w.heap[Q]? = some (.cells #[a, b, c] 103 (0, 0))) : w.cell? ⟨Q, 0, none⟩ = some a ∧ w.cell? ⟨Q, 1, none⟩ = some b ∧ w.cell? ⟨Q, 2, none⟩ = some c := by
  obtain ⟨h0, h1, h2, _⟩ := cells_three h
  exact ⟨h0, h1, h2⟩

theorem bodyPost_panic {P : Program} {fn : Func} {R : Ending → World → Prop} {a : Act} {w : World} {pc : List PanicEntry} (h : a.defers = []) (hR : R (.panicked pc) w) : bodyPost P fn R (.panic pc) a w := ⟨h, hR⟩
end Go.Proofs.YtahoeodpjdbdkabDoor
