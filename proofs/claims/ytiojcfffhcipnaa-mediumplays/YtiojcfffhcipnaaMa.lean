import Derived.Test.YtiojcfffhcipnaavA
import Derived.Test.YtiojcfffhcipnaaLk
import Derived.Conc.MuLone
namespace Go.Proofs.Ytiojcfffhcipnaa
open Go.RowKit
open Go.MuLone

/-- A span's cells; those of a list of spans. -/
def spn (s : Int × Int) : List Value := [.int .i64 s.1, .int .i64 s.2]
def spc (l : List (Int × Int)) : List Value := l.flatMap spn
theorem spc_length (l : List (Int × Int)) : (spc l).length = l.length * 2 := by
  induction l with
  | nil => rfl
  | cons a t ih => simp only [spc, List.flatMap_cons, List.length_append, List.length_cons] at ih ⊢; rw [ih]; simp [spn]; omega
theorem spc_append (a b : List (Int × Int)) : spc (a ++ b) = spc a ++ spc b := by simp [spc]
theorem spc_one (s : Int × Int) : spc [s] = [.int .i64 s.1, .int .i64 s.2] := rfl
theorem spc_cell : ∀ (l : List (Int × Int)) (i : Nat), i < l.length → (spc l)[2 * i]? = some (.int .i64 (l.getD i (0, 0)).1) ∧ (spc l)[2 * i + 1]? = some (.int .i64 (l.getD i (0, 0)).2)
  | [], i, h => by simp at h
  | a :: t, 0, _ => by simp [spc, spn]
  | a :: t, i + 1, h => by
    have ih := spc_cell t i (by simpa using h)
    have e1 : 2 * (i + 1) = 2 * i + 2 := by omega
    have e2 : spc (a :: t) = .int .i64 a.1 :: .int .i64 a.2 :: spc t := by simp [spc, spn]
    rw [e1, e2]
    simpa using ih

/-- What a medium is. -/
structure Md where
  b : List Nat
  g : List (Int × Int)
  dead : Bool
  left : Int
  keep : Int

/-- The medium whose struct is block P: its lock's state is k. -/
structure Med (w : World) (P : Nat) (V L : Value) (s : Md) (k : Int) : Prop where
  box : w.heap[P]? = some (.cells #[.int .i32 k, .int .u32 0, V, L, .bool s.dead, .int .i64 s.left, .int .i64 s.keep] 79 (0, 0))
  row : w.ownsRow 0 5 1 V s.b.length (s.b.map byt)
  log : w.ownsRow 0 63 2 L s.g.length (spc s.g)

/-- Its numbers are such as may be. -/
structure Mok (s : Md) : Prop where
  n : s.b.length ≤ 268435456
  by_ : Byts s.b
  l0 : 0 ≤ s.left
  l1 : s.left ≤ 9223372036854775807
  k0 : 0 ≤ s.keep
  k1 : s.keep ≤ 9223372036854775807

def foot (P : Nat) (V L : Value) : List Nat := P :: (V.ownBlock.toList ++ L.ownBlock.toList)

theorem row_form2 {w : World} {base : Nat} {e : TypeId} {size : Nat} {v : Value} {n : Nat} {xs : List Value} (h : w.ownsRow base e size v n xs) : ∃ bo c, v = .slice bo n c ∧ (bo = none → c = 0) ∧ n ≤ c ∧ (∀ g o, bo = some ⟨g, o, none⟩ → v.ownBlock = some g ∧ o = 0) ∧ (∀ a, bo = some a → ∃ g, a = ⟨g, 0, none⟩) := by
  rcases h.2 with ⟨h1, h2⟩ | ⟨g', cap', cur, h1, h3, h4, h5, _⟩
  · subst h1; subst h2; exact ⟨none, 0, rfl, (fun _ => rfl), Nat.le_refl _, (fun g o h => by cases h), (fun a h => by cases h)⟩
  · subst h1; exact ⟨_, _, rfl, (fun h => by cases h), h5, (fun g o h => by cases h; exact ⟨rfl, rfl⟩), (fun a h => by cases h; exact ⟨g', rfl⟩)⟩

theorem own_ty {w : World} {B e n size : Nat} {V : Value} {xs : List Value} {cs : Array Value} {t : TypeId} (h : w.heap[B]? = some (.cells cs t (0, 0))) (ht : t ≠ e) (ho : w.ownsRow 0 e size V n xs) : B ∉ V.ownBlock.toList := by
  intro hm
  simp only [Option.mem_toList] at hm
  rcases ho.2 with ⟨rfl, _⟩ | ⟨g, cap, cur, rfl, _, hg, _⟩
  · simp [Value.ownBlock] at hm
  · simp [Value.ownBlock] at hm
    subst hm
    rw [hg] at h
    simp at h
    exact ht h.2.symm
theorem own_two {w : World} {e n size e2 n2 size2 : Nat} {V V2 : Value} {xs xs2 : List Value} (h : w.ownsRow 0 e size V n xs) (h2 : w.ownsRow 0 e2 size2 V2 n2 xs2) (hne : e ≠ e2) : ∀ g, V.ownBlock = some g → g ∉ V2.ownBlock.toList := by
  intro g hg
  rcases h.2 with ⟨rfl, _⟩ | ⟨g', cap, cur, rfl, _, hh, _⟩
  · simp [Value.ownBlock] at hg
  · simp [Value.ownBlock] at hg
    subst hg
    exact own_ty hh hne h2

theorem Med.kept {w w' : World} {P : Nat} {V L : Value} {s : Md} {k : Int} {ks : List Nat} (h : Med w P V L s k) (hk : Kept ks w w') (hn : ∀ x ∈ foot P V L, x ∉ ks) : Med w' P V L s k :=
  ⟨hk.heap h.box (hn P (by simp [foot])), hk.row h.row (fun g hg => hn g (by simp [foot, hg])), hk.row h.log (fun g hg => hn g (by simp [foot, hg]))⟩
theorem Med.keep {w w' : World} {P : Nat} {V L : Value} {s : Md} {k : Int} (h : Med w P V L s k) (hk : Kept [] w w') : Med w' P V L s k := h.kept hk (by simp)

/-- A cell of the struct that is written. -/
theorem Med.lock {w : World} {P : Nat} {V L : Value} {s : Md} {k : Int} (h : Med w P V L s k) (j : Int) : Med (w.setCell ⟨P, 0, none⟩ (.int .i32 j)) P V L s j ∧ Kept [P] w (w.setCell ⟨P, 0, none⟩ (.int .i32 j)) := by
  have hk : Kept [P] w (w.setCell ⟨P, 0, none⟩ (.int .i32 j)) := (Kept.refl _ _).setCell (.inl (by simp)) _
  exact ⟨⟨by rw [heap_setCell_at h.box]; simp, hk.row h.row (fun g hg => by have := own_ty h.box (by decide) h.row; simp [hg] at this ⊢; exact fun e => this e.symm), hk.row h.log (fun g hg => by have := own_ty h.box (by decide) h.log; simp [hg] at this ⊢; exact fun e => this e.symm)⟩, hk⟩

theorem Med.c0 {w : World} {P : Nat} {V L : Value} {s : Md} {k : Int} (h : Med w P V L s k) : w.cell? ⟨P, 0, none⟩ = some (.int .i32 k) := by simp [World.cell?, h.box]
theorem Med.c2 {w : World} {P : Nat} {V L : Value} {s : Md} {k : Int} (h : Med w P V L s k) : w.cell? ⟨P, 2, none⟩ = some V := by simp [World.cell?, h.box]
theorem Med.c3 {w : World} {P : Nat} {V L : Value} {s : Md} {k : Int} (h : Med w P V L s k) : w.cell? ⟨P, 3, none⟩ = some L := by simp [World.cell?, h.box]
theorem Med.c4 {w : World} {P : Nat} {V L : Value} {s : Md} {k : Int} (h : Med w P V L s k) : w.cell? ⟨P, 4, none⟩ = some (.bool s.dead) := by simp [World.cell?, h.box]
theorem Med.c5 {w : World} {P : Nat} {V L : Value} {s : Md} {k : Int} (h : Med w P V L s k) : w.cell? ⟨P, 5, none⟩ = some (.int .i64 s.left) := by simp [World.cell?, h.box]
theorem Med.c6 {w : World} {P : Nat} {V L : Value} {s : Md} {k : Int} (h : Med w P V L s k) : w.cell? ⟨P, 6, none⟩ = some (.int .i64 s.keep) := by simp [World.cell?, h.box]
theorem Med.fz {w : World} {P : Nat} {V L : Value} {s : Md} {k : Int} (h : Med w P V L s k) (i : Nat) : w.frozen? ⟨P, i, none⟩ = false := by simp [World.frozen?, h.box]

theorem mlock {w : World} {P : Nat} {V L : Value} {s : Md} (h : Med w P V L s 0) : Calls Try.prog 51 #[.pointer (some ⟨P, 0, none⟩)] w fun e w' => e = .returned (.tuple #[]) ∧ Med w' P V L s 1 ∧ Kept [P] w w' := by
  refine (lock_free Try.muLib ⟨P, 0, none⟩ w h.c0 (h.fz 0)).mono ?_
  rintro e w' ⟨rfl, rfl⟩
  exact ⟨rfl, h.lock 1⟩
theorem munlock {w : World} {P : Nat} {V L : Value} {s : Md} {u : FrameMode} (h : Med w P V L s 1) : CallsD Try.prog 52 #[.pointer (some ⟨P, 0, none⟩)] u w fun e u' w' => u' = u ∧ (e = .returned (.tuple #[]) ∧ Med w' P V L s 0 ∧ Kept [P] w w') := by
  refine (unlock_deferred Try.muLib ⟨P, 0, none⟩ u w h.c0 (h.fz 0)).mono ?_
  rintro e u' w' ⟨rfl, rfl, rfl⟩
  exact ⟨rfl, rfl, h.lock 0⟩

set_option maxHeartbeats 4000000 in
theorem size_any (w : World) (P : Nat) (V L : Value) (s : Md) (h : Med w P V L s 0) :
    Calls Try.prog 16 #[.pointer (some ⟨P, 0, none⟩)] w fun e w' => e = .returned (.int .i64 (s.b.length : Int)) ∧ Med w' P V L s 0 ∧ Kept [P] w w' := by
  have HM := Hid.mk h
  clear h
  go_enter_defers Try.func16, Try.ntmps16
  go_wp2_with (go_at_call 51; refine (mlock HM.out).mono ?_; rintro e w1 ⟨rfl, h1, k1⟩; have H1 := Hid.mk h1; have K1 := Hid.mk k1; obtain ⟨bo, c, eV, -, -, -, -⟩ := row_form2 h1.row; subst eV; have c2 := h1.c2; clear h1 k1)
  refine leaves_cons (f := 52) (args := #[.pointer (some ⟨P, 0, none⟩)]) (by simp) (by simp [go_sem]) ?_
  refine (munlock H1.out).mono ?_
  rintro e u' w2 ⟨rfl, rfl, h2, k2⟩
  exact ⟨_, results_tmp rfl _ _ _, rfl, h2, K1.out.trans k2⟩
end Go.Proofs.Ytiojcfffhcipnaa
