import Derived.Test.YtlkbpimlofgflaaDoorMa
import Derived.Deep.RegionHeldLaw
namespace Go.Proofs.YtlkbpimlofgflaaDoor
open Go.RowKit
open Go.MuLone

theorem Kept.at {w w' : World} {P : Nat} (h : Kept [P] w w') {ks : List Nat} (hp : P ∈ ks) : Kept ks w w' := h.mono (fun x hx => by simp at hx; subst hx; exact .inl hp)
theorem foot_box (P : Nat) (V L : Value) : P ∈ foot P V L := by simp [foot]

theorem Med.other {w : World} {P : Nat} {V L : Value} {s : Md} {k : Int} (h : Med w P V L s k) {w' : World} (hk : Kept [P] w w') : w'.ownsRow 0 5 1 V s.b.length (s.b.map byt) ∧ w'.ownsRow 0 79 2 L s.g.length (spc s.g) :=
  ⟨hk.row h.row (fun g hg => by have := own_ty h.box (by decide) h.row; simp [hg] at this ⊢; exact fun e => this e.symm), hk.row h.log (fun g hg => by have := own_ty h.box (by decide) h.log; simp [hg] at this ⊢; exact fun e => this e.symm)⟩
theorem Med.sdead {w : World} {P : Nat} {V L : Value} {s : Md} {k : Int} (h : Med w P V L s k) (d : Bool) : Med (w.setCell ⟨P, 4, none⟩ (.bool d)) P V L { s with dead := d } k ∧ Kept [P] w (w.setCell ⟨P, 4, none⟩ (.bool d)) := by
  have hk : Kept [P] w (w.setCell ⟨P, 4, none⟩ (.bool d)) := (Kept.refl _ _).setCell (.inl (by simp)) _
  obtain ⟨a, b⟩ := h.other hk
  exact ⟨⟨by rw [heap_setCell_at h.box]; simp, a, b⟩, hk⟩
theorem Med.sleft {w : World} {P : Nat} {V L : Value} {s : Md} {k : Int} (h : Med w P V L s k) (d : Int) : Med (w.setCell ⟨P, 5, none⟩ (.int .i64 d)) P V L { s with left := d } k ∧ Kept [P] w (w.setCell ⟨P, 5, none⟩ (.int .i64 d)) := by
  have hk : Kept [P] w (w.setCell ⟨P, 5, none⟩ (.int .i64 d)) := (Kept.refl _ _).setCell (.inl (by simp)) _
  obtain ⟨a, b⟩ := h.other hk
  exact ⟨⟨by rw [heap_setCell_at h.box]; simp, a, b⟩, hk⟩
theorem Med.skeep {w : World} {P : Nat} {V L : Value} {s : Md} {k : Int} (h : Med w P V L s k) (d : Int) : Med (w.setCell ⟨P, 6, none⟩ (.int .i64 d)) P V L { s with keep := d } k ∧ Kept [P] w (w.setCell ⟨P, 6, none⟩ (.int .i64 d)) := by
  have hk : Kept [P] w (w.setCell ⟨P, 6, none⟩ (.int .i64 d)) := (Kept.refl _ _).setCell (.inl (by simp)) _
  obtain ⟨a, b⟩ := h.other hk
  exact ⟨⟨by rw [heap_setCell_at h.box]; simp, a, b⟩, hk⟩
theorem Med.srow {w w1 : World} {P : Nat} {V V' L : Value} {s : Md} {k : Int} (h : Med w P V L s k) (l : List Nat) (hk : Kept V.ownBlock.toList w w1) (ho : w1.ownsRow 0 5 1 V' l.length (l.map byt)) :
    Med (w1.setCell ⟨P, 2, none⟩ V') P V' L { s with b := l } k ∧ Kept (P :: V.ownBlock.toList) w (w1.setCell ⟨P, 2, none⟩ V') := by
  have hb : w1.heap[P]? = some _ := hk.heap h.box (own_ty h.box (by decide) h.row)
  have hl : w1.ownsRow 0 79 2 L s.g.length (spc s.g) := hk.row h.log (own_two h.log h.row (by decide))
  have h1 : Kept [P] w1 (w1.setCell ⟨P, 2, none⟩ V') := (Kept.refl _ _).setCell (.inl (by simp)) _
  refine ⟨⟨by rw [heap_setCell_at hb]; simp, h1.row ho (fun g hg => by have := own_ty hb (by decide) ho; simp [hg] at this ⊢; exact fun e => this e.symm), h1.row hl (fun g hg => by have := own_ty hb (by decide) hl; simp [hg] at this ⊢; exact fun e => this e.symm)⟩, ?_⟩
  exact (hk.mono (fun x hx => .inl (List.mem_cons_of_mem _ hx))).step h1 (fun x hx => by simp at hx; subst hx; simp)
theorem Med.slog {w w1 : World} {P : Nat} {V L L' : Value} {s : Md} {k : Int} (h : Med w P V L s k) (g : List (Int × Int)) (hk : Kept L.ownBlock.toList w w1) (ho : w1.ownsRow 0 79 2 L' g.length (spc g)) :
    Med (w1.setCell ⟨P, 3, none⟩ L') P V L' { s with g := g } k ∧ Kept (P :: L.ownBlock.toList) w (w1.setCell ⟨P, 3, none⟩ L') := by
  have hb : w1.heap[P]? = some _ := hk.heap h.box (own_ty h.box (by decide) h.log)
  have hl : w1.ownsRow 0 5 1 V s.b.length (s.b.map byt) := hk.row h.row (own_two h.row h.log (by decide))
  have h1 : Kept [P] w1 (w1.setCell ⟨P, 3, none⟩ L') := (Kept.refl _ _).setCell (.inl (by simp)) _
  refine ⟨⟨by rw [heap_setCell_at hb]; simp, h1.row hl (fun g hg => by have := own_ty hb (by decide) hl; simp [hg] at this ⊢; exact fun e => this e.symm), h1.row ho (fun g hg => by have := own_ty hb (by decide) ho; simp [hg] at this ⊢; exact fun e => this e.symm)⟩, ?_⟩
  exact (hk.mono (fun x hx => .inl (List.mem_cons_of_mem _ hx))).step h1 (fun x hx => by simp at hx; subst hx; simp)

set_option maxHeartbeats 4000000 in
theorem new_any (w : World) : Calls Tryd.prog 9 #[] w fun e w' => e = .returned (.pointer (some ⟨w.heap.size, 0, none⟩)) ∧ Med w' w.heap.size (.slice none 0 0) (.slice none 0 0) ⟨[], [], false, 0, 0⟩ 0 ∧ Kept [] w w' := by
  go_enter Tryd.func9, Tryd.ntmps9
  go_wp2
  go_ret
  exact ⟨rfl, ⟨heap_alloc_new _ _, ⟨rfl, .inl ⟨rfl, rfl⟩⟩, ⟨rfl, .inl ⟨rfl, rfl⟩⟩⟩, (Kept.refl _ _).alloc _⟩

/-- What Arm answers, and what it leaves. -/
def arE (s : Md) (n k : Int) : Int := if s.dead then 152 else if n < 0 ∨ k < 0 then 1 else 0
def arS (s : Md) (n k : Int) : Md := if s.dead then s else if n < 0 ∨ k < 0 then s else { s with left := n, keep := k }

set_option maxHeartbeats 4000000 in
theorem disarm_any (w : World) (P : Nat) (V L : Value) (s : Md) (k : Int) (h : Med w P V L s k) :
    Calls Tryd.prog 30 #[.pointer (some ⟨P, 0, none⟩)] w fun e w' => e = .returned (.tuple #[]) ∧ Med w' P V L { s with left := 0, keep := 0 } k ∧ Kept [P] w w' := by
  have HM := Hid.mk h
  have c5 := h.c5
  have c6 := h.c6
  have f5 := h.fz 5
  have f6 := h.fz 6
  clear h
  go_enter Tryd.func30, Tryd.ntmps30
  go_wp2
  go_end0
  obtain ⟨m1, q1⟩ := HM.out.sleft 0
  obtain ⟨m2, q2⟩ := m1.skeep 0
  exact ⟨rfl, m2, q1.trans q2⟩

end Go.Proofs.YtlkbpimlofgflaaDoor
