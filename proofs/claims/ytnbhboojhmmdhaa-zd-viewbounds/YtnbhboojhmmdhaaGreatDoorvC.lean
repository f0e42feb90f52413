import Derived.Test.YtnbhboojhmmdhaaGreatDoorvA
import Derived.Test.YtnbhboojhmmdhaaGreatDoorvK
namespace Go.Proofs.YtnbhboojhmmdhaaGreatDoor
open Go.RowKit

theorem frz {w : World} {B t : Nat} {cs : Array Value} (h : w.heap[B]? = some (.cells cs t (0, 0))) (i : Nat) : w.frozen? ⟨B, i, none⟩ = false := by simp [World.frozen?, h]
theorem vset_mid {α : Type} (X Z : List α) (y u : α) (j : Nat) (hj : X.length = j) : (X ++ y :: Z).set j u = X ++ u :: Z := by
  subst hj
  rw [List.set_append_right _ _ (Nat.le_refl _), Nat.sub_self, List.set_cons_zero]
def setAll (w : World) (B : Nat) : Nat → List Value → World
  | _, [] => w
  | i, v :: t => setAll (w.setCell ⟨B, i, none⟩ v) B (i + 1) t
theorem setAll_row {B t : Nat} (vs : List Value) : ∀ (i : Nat) (w : World) (pre old : List Value), w.heap[B]? = some (.cells (pre ++ old).toArray t (0, 0)) → pre.length = i → old.length = vs.length → (setAll w B i vs).heap[B]? = some (.cells (pre ++ vs).toArray t (0, 0)) ∧ Kept [B] w (setAll w B i vs) := by
  induction vs with
  | nil =>
    intro i w pre old h hi hl
    have : old = [] := List.eq_nil_of_length_eq_zero hl
    subst this
    exact ⟨h, Kept.refl _ _⟩
  | cons v vs ih =>
    intro i w pre old h hi hl
    cases old with
    | nil => simp at hl
    | cons x old =>
      have h1 := heap_setCell_at (i := i) (u := v) h
      have e : (pre ++ x :: old).toArray.setIfInBounds i v = ((pre ++ [v]) ++ old).toArray := by
        rw [List.setIfInBounds_toArray, vset_mid pre old x v i hi]; simp
      rw [e] at h1
      have h2 := ih (i + 1) _ (pre ++ [v]) old h1 (by simp [hi]) (by simpa using hl)
      refine ⟨?_, ((Kept.refl [B] w).setCell (p := ⟨B, i, none⟩) (.inl (by simp)) v).trans h2.2⟩
      have h3 := h2.1
      rw [List.append_assoc] at h3
      exact h3
abbrev zH : Value := .agg #[.int .i64 0, .int .i64 0, .int .i64 0, .bool false, .int .i64 0, .int .i64 0, .int .i64 0, .int .i64 0, .int .i64 0, .int .i64 0, .int .i64 0, .int .i64 0, .int .i64 0]
abbrev zF : Value := .agg #[.int .i64 0, .int .i64 0, .int .i64 0, .bool false, .slice none 0 0]
abbrev zR : Value := .agg #[.int .i64 0, .int .i64 0, .int .i64 0, .bool false, .int .i64 0, .int .i64 0, .int .i64 0, .int .i64 0, .int .i64 0, .int .i64 0, .int .i64 0, .int .i64 0, .int .i64 0, .slice none 0 0, .slice none 0 0, .int .i64 0]
theorem bldH : ∀ w : World, (Instr.build 31 #[]).run Tryz.prog w = .ok zH w := fun _ => by kernel_rfl
theorem bldF : ∀ w : World, (Instr.build 36 #[]).run Tryz.prog w = .ok zF w := fun _ => by kernel_rfl
theorem bldR : ∀ w : World, (Instr.build 40 #[]).run Tryz.prog w = .ok zR w := fun _ => by kernel_rfl
theorem eqlH : ∀ w : World, (binOp BinOp.eql 31 zH zH).run Tryz.prog w = .ok (.bool true) w := fun _ => by kernel_rfl

set_option maxHeartbeats 4000000 in
set_option maxRecDepth 1000000 in
theorem begin_nil (l : Int) (w : World) : Calls Tryz.prog 14 #[.nilIface, .int .i64 l] w fun e w' => e = .returned (.tuple #[.pointer none, .int .i64 1]) ∧ w' = w := by
  go_enter Tryz.func14, Tryz.ntmps14
  go_wp2
  refine bodyPost_ret (v := .tuple #[.pointer none, .int .i64 1]) (by simp [results, Tryz.results14, go_sem]) rfl ⟨rfl, rfl⟩

set_option maxHeartbeats 8000000 in
set_option maxRecDepth 1000000 in
theorem head_nil (w : World) : Calls Tryz.prog 7 #[.nilIface] w fun e w' => e = .returned (.tuple #[zH, .int .i64 1]) ∧ Kept [] w w' := by
  obtain ⟨w1, e1⟩ : ∃ w1, w.alloc (.cells #[.int .i64 0, .int .i64 0, .int .i64 0, .bool false, .int .i64 0, .int .i64 0, .int .i64 0, .int .i64 0, .int .i64 0, .int .i64 0, .int .i64 0, .int .i64 0, .int .i64 0] 31 (0, 0)) = w1 := ⟨_, rfl⟩
  have k1 : Kept [] w w1 := by rw [← e1]; exact (Kept.refl [] w).alloc _
  have ch : w1.heap[w.heap.size]? = some (.cells #[.int .i64 0, .int .i64 0, .int .i64 0, .bool false, .int .i64 0, .int .i64 0, .int .i64 0, .int .i64 0, .int .i64 0, .int .i64 0, .int .i64 0, .int .i64 0, .int .i64 0] 31 (0, 0)) := by rw [← e1]; exact heap_alloc_new _ _
  have c0 : w1.cell? ⟨w.heap.size, 0, none⟩ = some (.int .i64 0) := by simp [World.cell?, ch]
  have c1 : w1.cell? ⟨w.heap.size, 1, none⟩ = some (.int .i64 0) := by simp [World.cell?, ch]
  have c2 : w1.cell? ⟨w.heap.size, 2, none⟩ = some (.int .i64 0) := by simp [World.cell?, ch]
  have c3 : w1.cell? ⟨w.heap.size, 3, none⟩ = some (.bool false) := by simp [World.cell?, ch]
  have c4 : w1.cell? ⟨w.heap.size, 4, none⟩ = some (.int .i64 0) := by simp [World.cell?, ch]
  have c5 : w1.cell? ⟨w.heap.size, 5, none⟩ = some (.int .i64 0) := by simp [World.cell?, ch]
  have c6 : w1.cell? ⟨w.heap.size, 6, none⟩ = some (.int .i64 0) := by simp [World.cell?, ch]
  have c7 : w1.cell? ⟨w.heap.size, 7, none⟩ = some (.int .i64 0) := by simp [World.cell?, ch]
  have c8 : w1.cell? ⟨w.heap.size, 8, none⟩ = some (.int .i64 0) := by simp [World.cell?, ch]
  have c9 : w1.cell? ⟨w.heap.size, 9, none⟩ = some (.int .i64 0) := by simp [World.cell?, ch]
  have c10 : w1.cell? ⟨w.heap.size, 10, none⟩ = some (.int .i64 0) := by simp [World.cell?, ch]
  have c11 : w1.cell? ⟨w.heap.size, 11, none⟩ = some (.int .i64 0) := by simp [World.cell?, ch]
  have c12 : w1.cell? ⟨w.heap.size, 12, none⟩ = some (.int .i64 0) := by simp [World.cell?, ch]
  have cf := frz ch
  have hb := bldH
  have K1 := Hid.mk k1
  clear k1 ch
  go_enter Tryz.func7, Tryz.ntmps7
  go_wp2
  refine bodyPost_ret (v := .tuple #[zH, .int .i64 1]) (by simp [results, Tryz.results7, go_sem, c0, c1, c2, c3, c4, c5, c6, c7, c8, c9, c10, c11, c12]) rfl ⟨rfl, ?_⟩
  iterate 13 (refine Kept.setCell ?_ (.inr (Nat.le_refl _)) _)
  exact K1.out

set_option maxHeartbeats 8000000 in
set_option maxRecDepth 1000000 in
theorem whole_nil (l : Int) (w : World) : Calls Tryz.prog 8 #[.nilIface, .int .i64 l] w fun e w' => e = .returned (.tuple #[zF, zR, .int .i64 1]) ∧ Kept [] w w' := by
  obtain ⟨B, eB⟩ : ∃ B, w.heap.size = B := ⟨_, rfl⟩
  obtain ⟨w1, e1⟩ : ∃ x, w.alloc (.cells #[.int .i64 0, .int .i64 0, .int .i64 0, .bool false, .slice none 0 0] 36 (0, 0)) = x := ⟨_, rfl⟩
  have z1 : w1.heap.size = B + 1 := by rw [← e1, ← eB]; exact Array.size_push _
  have k1 : Kept [] w w1 := by rw [← e1]; exact (Kept.refl [] w).alloc _
  obtain ⟨w2, e2⟩ : ∃ x, w1.alloc (.cells #[.int .i64 0, .int .i64 0, .int .i64 0, .bool false, .int .i64 0, .int .i64 0, .int .i64 0, .int .i64 0, .int .i64 0, .int .i64 0, .int .i64 0, .int .i64 0, .int .i64 0, .slice none 0 0, .slice none 0 0, .int .i64 0] 40 (0, 0)) = x := ⟨_, rfl⟩
  have z2 : w2.heap.size = B + 1 + 1 := by rw [← e2, ← z1]; exact Array.size_push _
  have k2 : Kept [] w1 w2 := by rw [← e2]; exact (Kept.refl [] w1).alloc _
  have ch : w2.heap[B]? = some (.cells #[.int .i64 0, .int .i64 0, .int .i64 0, .bool false, .slice none 0 0] 36 (0, 0)) := (k2.heap (show w1.heap[B]? = some (.cells #[.int .i64 0, .int .i64 0, .int .i64 0, .bool false, .slice none 0 0] 36 (0, 0)) by rw [← e1, ← eB]; exact heap_alloc_new _ _) (by simp))
  have c0 : w2.cell? ⟨B, 0, none⟩ = some (.int .i64 0) := by simp [World.cell?, ch]
  have c1 : w2.cell? ⟨B, 1, none⟩ = some (.int .i64 0) := by simp [World.cell?, ch]
  have c2 : w2.cell? ⟨B, 2, none⟩ = some (.int .i64 0) := by simp [World.cell?, ch]
  have c3 : w2.cell? ⟨B, 3, none⟩ = some (.bool false) := by simp [World.cell?, ch]
  have c4 : w2.cell? ⟨B, 4, none⟩ = some (.slice none 0 0) := by simp [World.cell?, ch]
  have cf := frz ch
  have dh : w2.heap[B + 1]? = some (.cells #[.int .i64 0, .int .i64 0, .int .i64 0, .bool false, .int .i64 0, .int .i64 0, .int .i64 0, .int .i64 0, .int .i64 0, .int .i64 0, .int .i64 0, .int .i64 0, .int .i64 0, .slice none 0 0, .slice none 0 0, .int .i64 0] 40 (0, 0)) := (show w2.heap[B + 1]? = some (.cells #[.int .i64 0, .int .i64 0, .int .i64 0, .bool false, .int .i64 0, .int .i64 0, .int .i64 0, .int .i64 0, .int .i64 0, .int .i64 0, .int .i64 0, .int .i64 0, .int .i64 0, .slice none 0 0, .slice none 0 0, .int .i64 0] 40 (0, 0)) by rw [← e2, ← z1]; exact heap_alloc_new _ _)
  have d0 : w2.cell? ⟨B + 1, 0, none⟩ = some (.int .i64 0) := by simp [World.cell?, dh]
  have d1 : w2.cell? ⟨B + 1, 1, none⟩ = some (.int .i64 0) := by simp [World.cell?, dh]
  have d2 : w2.cell? ⟨B + 1, 2, none⟩ = some (.int .i64 0) := by simp [World.cell?, dh]
  have d3 : w2.cell? ⟨B + 1, 3, none⟩ = some (.bool false) := by simp [World.cell?, dh]
  have d4 : w2.cell? ⟨B + 1, 4, none⟩ = some (.int .i64 0) := by simp [World.cell?, dh]
  have d5 : w2.cell? ⟨B + 1, 5, none⟩ = some (.int .i64 0) := by simp [World.cell?, dh]
  have d6 : w2.cell? ⟨B + 1, 6, none⟩ = some (.int .i64 0) := by simp [World.cell?, dh]
  have d7 : w2.cell? ⟨B + 1, 7, none⟩ = some (.int .i64 0) := by simp [World.cell?, dh]
  have d8 : w2.cell? ⟨B + 1, 8, none⟩ = some (.int .i64 0) := by simp [World.cell?, dh]
  have d9 : w2.cell? ⟨B + 1, 9, none⟩ = some (.int .i64 0) := by simp [World.cell?, dh]
  have d10 : w2.cell? ⟨B + 1, 10, none⟩ = some (.int .i64 0) := by simp [World.cell?, dh]
  have d11 : w2.cell? ⟨B + 1, 11, none⟩ = some (.int .i64 0) := by simp [World.cell?, dh]
  have d12 : w2.cell? ⟨B + 1, 12, none⟩ = some (.int .i64 0) := by simp [World.cell?, dh]
  have d13 : w2.cell? ⟨B + 1, 13, none⟩ = some (.slice none 0 0) := by simp [World.cell?, dh]
  have d14 : w2.cell? ⟨B + 1, 14, none⟩ = some (.slice none 0 0) := by simp [World.cell?, dh]
  have d15 : w2.cell? ⟨B + 1, 15, none⟩ = some (.int .i64 0) := by simp [World.cell?, dh]
  have df := frz dh
  have KK : Hid (Kept [] w w2) := Hid.mk (k1.trans k2)
  have HBw : Hid (w.heap.size = B) := Hid.mk eB
  have hb := bldR
  have hb2 := bldF
  have CB := Hid.mk (fun u => begin_nil l u)
  obtain ⟨v0, f0⟩ : ∃ x, setAll w2 (B) 0 [.int .i64 0, .int .i64 0, .int .i64 0, .bool false, .slice none 0 0] = x := ⟨_, rfl⟩
  have S0 : v0.heap[B]? = some (.cells #[.int .i64 0, .int .i64 0, .int .i64 0, .bool false, .slice none 0 0] 36 (0, 0)) ∧ Kept [B] w2 v0 := by rw [← f0]; exact setAll_row [.int .i64 0, .int .i64 0, .int .i64 0, .bool false, .slice none 0 0] 0 w2 [] [.int .i64 0, .int .i64 0, .int .i64 0, .bool false, .slice none 0 0] ch rfl rfl
  simp only [setAll, Nat.zero_add, Nat.reduceAdd] at f0
  have f0H := Hid.mk f0
  have dh2 := S0.2.heap dh (by simp)
  obtain ⟨v1, f1⟩ : ∃ x, setAll v0 (B + 1) 0 [.int .i64 0, .int .i64 0, .int .i64 0, .bool false, .int .i64 0, .int .i64 0, .int .i64 0, .int .i64 0, .int .i64 0, .int .i64 0, .int .i64 0, .int .i64 0, .int .i64 0, .slice none 0 0, .slice none 0 0, .int .i64 0] = x := ⟨_, rfl⟩
  have S1 : v1.heap[B + 1]? = some (.cells #[.int .i64 0, .int .i64 0, .int .i64 0, .bool false, .int .i64 0, .int .i64 0, .int .i64 0, .int .i64 0, .int .i64 0, .int .i64 0, .int .i64 0, .int .i64 0, .int .i64 0, .slice none 0 0, .slice none 0 0, .int .i64 0] 40 (0, 0)) ∧ Kept [B + 1] v0 v1 := by rw [← f1]; exact setAll_row [.int .i64 0, .int .i64 0, .int .i64 0, .bool false, .int .i64 0, .int .i64 0, .int .i64 0, .int .i64 0, .int .i64 0, .int .i64 0, .int .i64 0, .int .i64 0, .int .i64 0, .slice none 0 0, .slice none 0 0, .int .i64 0] 0 v0 [] [.int .i64 0, .int .i64 0, .int .i64 0, .bool false, .int .i64 0, .int .i64 0, .int .i64 0, .int .i64 0, .int .i64 0, .int .i64 0, .int .i64 0, .int .i64 0, .int .i64 0, .slice none 0 0, .slice none 0 0, .int .i64 0] dh2 rfl rfl
  simp only [setAll, Nat.zero_add, Nat.reduceAdd] at f1
  have f1H := Hid.mk f1
  have cE := Hid.mk ((S1.2.heap S0.1 (by simp)))
  have dE := Hid.mk (S1.1)
  have KE : Hid (Kept [] w v1) := Hid.mk (((KK.out.step S0.2 (fun x hx => by simp at hx; subst hx; exact .inr (by omega))).step S1.2 (fun x hx => by simp at hx; subst hx; exact .inr (by omega))))
  clear ch dh k1 k2 S0 f0 S1 f1 dh2
  go_enter Tryz.func8, Tryz.ntmps8
  go_wp2_with (fail)
  refine (CB.out _).mono ?_
  rintro e w9 ⟨rfl, hw⟩
  obtain rfl := hw.symm
  clear hw
  go_wp2
  rw [f0H.out]
  rw [f1H.out]
  have cEh := cE.out
  have cE0 : v1.cell? ⟨B, 0, none⟩ = some (.int .i64 0) := by simp [World.cell?, cEh]
  have cE1 : v1.cell? ⟨B, 1, none⟩ = some (.int .i64 0) := by simp [World.cell?, cEh]
  have cE2 : v1.cell? ⟨B, 2, none⟩ = some (.int .i64 0) := by simp [World.cell?, cEh]
  have cE3 : v1.cell? ⟨B, 3, none⟩ = some (.bool false) := by simp [World.cell?, cEh]
  have cE4 : v1.cell? ⟨B, 4, none⟩ = some (.slice none 0 0) := by simp [World.cell?, cEh]
  have dEh := dE.out
  have dE0 : v1.cell? ⟨B + 1, 0, none⟩ = some (.int .i64 0) := by simp [World.cell?, dEh]
  have dE1 : v1.cell? ⟨B + 1, 1, none⟩ = some (.int .i64 0) := by simp [World.cell?, dEh]
  have dE2 : v1.cell? ⟨B + 1, 2, none⟩ = some (.int .i64 0) := by simp [World.cell?, dEh]
  have dE3 : v1.cell? ⟨B + 1, 3, none⟩ = some (.bool false) := by simp [World.cell?, dEh]
  have dE4 : v1.cell? ⟨B + 1, 4, none⟩ = some (.int .i64 0) := by simp [World.cell?, dEh]
  have dE5 : v1.cell? ⟨B + 1, 5, none⟩ = some (.int .i64 0) := by simp [World.cell?, dEh]
  have dE6 : v1.cell? ⟨B + 1, 6, none⟩ = some (.int .i64 0) := by simp [World.cell?, dEh]
  have dE7 : v1.cell? ⟨B + 1, 7, none⟩ = some (.int .i64 0) := by simp [World.cell?, dEh]
  have dE8 : v1.cell? ⟨B + 1, 8, none⟩ = some (.int .i64 0) := by simp [World.cell?, dEh]
  have dE9 : v1.cell? ⟨B + 1, 9, none⟩ = some (.int .i64 0) := by simp [World.cell?, dEh]
  have dE10 : v1.cell? ⟨B + 1, 10, none⟩ = some (.int .i64 0) := by simp [World.cell?, dEh]
  have dE11 : v1.cell? ⟨B + 1, 11, none⟩ = some (.int .i64 0) := by simp [World.cell?, dEh]
  have dE12 : v1.cell? ⟨B + 1, 12, none⟩ = some (.int .i64 0) := by simp [World.cell?, dEh]
  have dE13 : v1.cell? ⟨B + 1, 13, none⟩ = some (.slice none 0 0) := by simp [World.cell?, dEh]
  have dE14 : v1.cell? ⟨B + 1, 14, none⟩ = some (.slice none 0 0) := by simp [World.cell?, dEh]
  have dE15 : v1.cell? ⟨B + 1, 15, none⟩ = some (.int .i64 0) := by simp [World.cell?, dEh]
  refine bodyPost_ret (v := .tuple #[zF, zR, .int .i64 1]) (by simp [results, Tryz.results8, go_sem, cE0, cE1, cE2, cE3, cE4, dE0, dE1, dE2, dE3, dE4, dE5, dE6, dE7, dE8, dE9, dE10, dE11, dE12, dE13, dE14, dE15]) rfl ⟨rfl, KE.out⟩

set_option maxHeartbeats 8000000 in
set_option maxRecDepth 1000000 in
theorem slice_nil (k l : Int) (w : World) : Calls Tryz.prog 9 #[.nilIface, .int .i64 k, .int .i64 l] w fun e w' => e = .returned (.tuple #[.slice none 0 0, zR, .int .i64 1]) ∧ Kept [] w w' := by
  obtain ⟨B, eB⟩ : ∃ B, w.heap.size = B := ⟨_, rfl⟩
  obtain ⟨w1, e1⟩ : ∃ x, w.alloc (.cells #[.int .i64 0, .int .i64 0, .int .i64 0, .bool false, .int .i64 0, .int .i64 0, .int .i64 0, .int .i64 0, .int .i64 0, .int .i64 0, .int .i64 0, .int .i64 0, .int .i64 0, .slice none 0 0, .slice none 0 0, .int .i64 0] 40 (0, 0)) = x := ⟨_, rfl⟩
  have z1 : w1.heap.size = B + 1 := by rw [← e1, ← eB]; exact Array.size_push _
  have k1 : Kept [] w w1 := by rw [← e1]; exact (Kept.refl [] w).alloc _
  have dh : w1.heap[B]? = some (.cells #[.int .i64 0, .int .i64 0, .int .i64 0, .bool false, .int .i64 0, .int .i64 0, .int .i64 0, .int .i64 0, .int .i64 0, .int .i64 0, .int .i64 0, .int .i64 0, .int .i64 0, .slice none 0 0, .slice none 0 0, .int .i64 0] 40 (0, 0)) := (show w1.heap[B]? = some (.cells #[.int .i64 0, .int .i64 0, .int .i64 0, .bool false, .int .i64 0, .int .i64 0, .int .i64 0, .int .i64 0, .int .i64 0, .int .i64 0, .int .i64 0, .int .i64 0, .int .i64 0, .slice none 0 0, .slice none 0 0, .int .i64 0] 40 (0, 0)) by rw [← e1, ← eB]; exact heap_alloc_new _ _)
  have d0 : w1.cell? ⟨B, 0, none⟩ = some (.int .i64 0) := by simp [World.cell?, dh]
  have d1 : w1.cell? ⟨B, 1, none⟩ = some (.int .i64 0) := by simp [World.cell?, dh]
  have d2 : w1.cell? ⟨B, 2, none⟩ = some (.int .i64 0) := by simp [World.cell?, dh]
  have d3 : w1.cell? ⟨B, 3, none⟩ = some (.bool false) := by simp [World.cell?, dh]
  have d4 : w1.cell? ⟨B, 4, none⟩ = some (.int .i64 0) := by simp [World.cell?, dh]
  have d5 : w1.cell? ⟨B, 5, none⟩ = some (.int .i64 0) := by simp [World.cell?, dh]
  have d6 : w1.cell? ⟨B, 6, none⟩ = some (.int .i64 0) := by simp [World.cell?, dh]
  have d7 : w1.cell? ⟨B, 7, none⟩ = some (.int .i64 0) := by simp [World.cell?, dh]
  have d8 : w1.cell? ⟨B, 8, none⟩ = some (.int .i64 0) := by simp [World.cell?, dh]
  have d9 : w1.cell? ⟨B, 9, none⟩ = some (.int .i64 0) := by simp [World.cell?, dh]
  have d10 : w1.cell? ⟨B, 10, none⟩ = some (.int .i64 0) := by simp [World.cell?, dh]
  have d11 : w1.cell? ⟨B, 11, none⟩ = some (.int .i64 0) := by simp [World.cell?, dh]
  have d12 : w1.cell? ⟨B, 12, none⟩ = some (.int .i64 0) := by simp [World.cell?, dh]
  have d13 : w1.cell? ⟨B, 13, none⟩ = some (.slice none 0 0) := by simp [World.cell?, dh]
  have d14 : w1.cell? ⟨B, 14, none⟩ = some (.slice none 0 0) := by simp [World.cell?, dh]
  have d15 : w1.cell? ⟨B, 15, none⟩ = some (.int .i64 0) := by simp [World.cell?, dh]
  have df := frz dh
  have KK : Hid (Kept [] w w1) := Hid.mk (k1)
  have HBw : Hid (w.heap.size = B) := Hid.mk eB
  have hb := bldR
  have CB := Hid.mk (fun u => begin_nil l u)
  obtain ⟨v0, f0⟩ : ∃ x, setAll w1 (B) 0 [.int .i64 0, .int .i64 0, .int .i64 0, .bool false, .int .i64 0, .int .i64 0, .int .i64 0, .int .i64 0, .int .i64 0, .int .i64 0, .int .i64 0, .int .i64 0, .int .i64 0, .slice none 0 0, .slice none 0 0, .int .i64 0] = x := ⟨_, rfl⟩
  have S0 : v0.heap[B]? = some (.cells #[.int .i64 0, .int .i64 0, .int .i64 0, .bool false, .int .i64 0, .int .i64 0, .int .i64 0, .int .i64 0, .int .i64 0, .int .i64 0, .int .i64 0, .int .i64 0, .int .i64 0, .slice none 0 0, .slice none 0 0, .int .i64 0] 40 (0, 0)) ∧ Kept [B] w1 v0 := by rw [← f0]; exact setAll_row [.int .i64 0, .int .i64 0, .int .i64 0, .bool false, .int .i64 0, .int .i64 0, .int .i64 0, .int .i64 0, .int .i64 0, .int .i64 0, .int .i64 0, .int .i64 0, .int .i64 0, .slice none 0 0, .slice none 0 0, .int .i64 0] 0 w1 [] [.int .i64 0, .int .i64 0, .int .i64 0, .bool false, .int .i64 0, .int .i64 0, .int .i64 0, .int .i64 0, .int .i64 0, .int .i64 0, .int .i64 0, .int .i64 0, .int .i64 0, .slice none 0 0, .slice none 0 0, .int .i64 0] dh rfl rfl
  simp only [setAll, Nat.zero_add, Nat.reduceAdd] at f0
  have f0H := Hid.mk f0
  have dE := Hid.mk (S0.1)
  have KE : Hid (Kept [] w v0) := Hid.mk ((KK.out.step S0.2 (fun x hx => by simp at hx; subst hx; exact .inr (by omega))))
  clear dh k1 S0 f0
  go_enter Tryz.func9, Tryz.ntmps9
  go_wp2_with (fail)
  refine (CB.out _).mono ?_
  rintro e w9 ⟨rfl, hw⟩
  obtain rfl := hw.symm
  clear hw
  go_wp2
  rw [f0H.out]
  have dEh := dE.out
  have dE0 : v0.cell? ⟨B, 0, none⟩ = some (.int .i64 0) := by simp [World.cell?, dEh]
  have dE1 : v0.cell? ⟨B, 1, none⟩ = some (.int .i64 0) := by simp [World.cell?, dEh]
  have dE2 : v0.cell? ⟨B, 2, none⟩ = some (.int .i64 0) := by simp [World.cell?, dEh]
  have dE3 : v0.cell? ⟨B, 3, none⟩ = some (.bool false) := by simp [World.cell?, dEh]
  have dE4 : v0.cell? ⟨B, 4, none⟩ = some (.int .i64 0) := by simp [World.cell?, dEh]
  have dE5 : v0.cell? ⟨B, 5, none⟩ = some (.int .i64 0) := by simp [World.cell?, dEh]
  have dE6 : v0.cell? ⟨B, 6, none⟩ = some (.int .i64 0) := by simp [World.cell?, dEh]
  have dE7 : v0.cell? ⟨B, 7, none⟩ = some (.int .i64 0) := by simp [World.cell?, dEh]
  have dE8 : v0.cell? ⟨B, 8, none⟩ = some (.int .i64 0) := by simp [World.cell?, dEh]
  have dE9 : v0.cell? ⟨B, 9, none⟩ = some (.int .i64 0) := by simp [World.cell?, dEh]
  have dE10 : v0.cell? ⟨B, 10, none⟩ = some (.int .i64 0) := by simp [World.cell?, dEh]
  have dE11 : v0.cell? ⟨B, 11, none⟩ = some (.int .i64 0) := by simp [World.cell?, dEh]
  have dE12 : v0.cell? ⟨B, 12, none⟩ = some (.int .i64 0) := by simp [World.cell?, dEh]
  have dE13 : v0.cell? ⟨B, 13, none⟩ = some (.slice none 0 0) := by simp [World.cell?, dEh]
  have dE14 : v0.cell? ⟨B, 14, none⟩ = some (.slice none 0 0) := by simp [World.cell?, dEh]
  have dE15 : v0.cell? ⟨B, 15, none⟩ = some (.int .i64 0) := by simp [World.cell?, dEh]
  refine bodyPost_ret (v := .tuple #[.slice none 0 0, zR, .int .i64 1]) (by simp [results, Tryz.results9, go_sem, dE0, dE1, dE2, dE3, dE4, dE5, dE6, dE7, dE8, dE9, dE10, dE11, dE12, dE13, dE14, dE15]) rfl ⟨rfl, KE.out⟩

set_option maxHeartbeats 8000000 in
set_option maxRecDepth 1000000 in
theorem region_nil (rx ry ra rb l : Int) (w : World) : Calls Tryz.prog 10 #[.nilIface, .agg #[.int .i64 rx, .int .i64 ry, .int .i64 ra, .int .i64 rb], .int .i64 l] w fun e w' => e = .returned (.tuple #[zF, zR, .int .i64 1]) ∧ Kept [] w w' := by
  obtain ⟨B, eB⟩ : ∃ B, w.heap.size = B := ⟨_, rfl⟩
  obtain ⟨w1, e1⟩ : ∃ x, w.alloc (.cells #[.int .i64 rx, .int .i64 ry, .int .i64 ra, .int .i64 rb] 48 (0, 0)) = x := ⟨_, rfl⟩
  have z1 : w1.heap.size = B + 1 := by rw [← e1, ← eB]; exact Array.size_push _
  have k1 : Kept [] w w1 := by rw [← e1]; exact (Kept.refl [] w).alloc _
  obtain ⟨w2, e2⟩ : ∃ x, w1.alloc (.cells #[.int .i64 0, .int .i64 0, .int .i64 0, .bool false, .slice none 0 0] 36 (0, 0)) = x := ⟨_, rfl⟩
  have z2 : w2.heap.size = B + 1 + 1 := by rw [← e2, ← z1]; exact Array.size_push _
  have k2 : Kept [] w1 w2 := by rw [← e2]; exact (Kept.refl [] w1).alloc _
  obtain ⟨w3, e3⟩ : ∃ x, w2.alloc (.cells #[.int .i64 0, .int .i64 0, .int .i64 0, .bool false, .int .i64 0, .int .i64 0, .int .i64 0, .int .i64 0, .int .i64 0, .int .i64 0, .int .i64 0, .int .i64 0, .int .i64 0, .slice none 0 0, .slice none 0 0, .int .i64 0] 40 (0, 0)) = x := ⟨_, rfl⟩
  have z3 : w3.heap.size = B + 1 + 1 + 1 := by rw [← e3, ← z2]; exact Array.size_push _
  have k3 : Kept [] w2 w3 := by rw [← e3]; exact (Kept.refl [] w2).alloc _
  have rh : w3.heap[B]? = some (.cells #[.int .i64 rx, .int .i64 ry, .int .i64 ra, .int .i64 rb] 48 (0, 0)) := (k3.heap (k2.heap (show w1.heap[B]? = some (.cells #[.int .i64 rx, .int .i64 ry, .int .i64 ra, .int .i64 rb] 48 (0, 0)) by rw [← e1, ← eB]; exact heap_alloc_new _ _) (by simp)) (by simp))
  have ch : w3.heap[B + 1]? = some (.cells #[.int .i64 0, .int .i64 0, .int .i64 0, .bool false, .slice none 0 0] 36 (0, 0)) := (k3.heap (show w2.heap[B + 1]? = some (.cells #[.int .i64 0, .int .i64 0, .int .i64 0, .bool false, .slice none 0 0] 36 (0, 0)) by rw [← e2, ← z1]; exact heap_alloc_new _ _) (by simp))
  have c0 : w3.cell? ⟨B + 1, 0, none⟩ = some (.int .i64 0) := by simp [World.cell?, ch]
  have c1 : w3.cell? ⟨B + 1, 1, none⟩ = some (.int .i64 0) := by simp [World.cell?, ch]
  have c2 : w3.cell? ⟨B + 1, 2, none⟩ = some (.int .i64 0) := by simp [World.cell?, ch]
  have c3 : w3.cell? ⟨B + 1, 3, none⟩ = some (.bool false) := by simp [World.cell?, ch]
  have c4 : w3.cell? ⟨B + 1, 4, none⟩ = some (.slice none 0 0) := by simp [World.cell?, ch]
  have cf := frz ch
  have dh : w3.heap[B + 1 + 1]? = some (.cells #[.int .i64 0, .int .i64 0, .int .i64 0, .bool false, .int .i64 0, .int .i64 0, .int .i64 0, .int .i64 0, .int .i64 0, .int .i64 0, .int .i64 0, .int .i64 0, .int .i64 0, .slice none 0 0, .slice none 0 0, .int .i64 0] 40 (0, 0)) := (show w3.heap[B + 1 + 1]? = some (.cells #[.int .i64 0, .int .i64 0, .int .i64 0, .bool false, .int .i64 0, .int .i64 0, .int .i64 0, .int .i64 0, .int .i64 0, .int .i64 0, .int .i64 0, .int .i64 0, .int .i64 0, .slice none 0 0, .slice none 0 0, .int .i64 0] 40 (0, 0)) by rw [← e3, ← z2]; exact heap_alloc_new _ _)
  have d0 : w3.cell? ⟨B + 1 + 1, 0, none⟩ = some (.int .i64 0) := by simp [World.cell?, dh]
  have d1 : w3.cell? ⟨B + 1 + 1, 1, none⟩ = some (.int .i64 0) := by simp [World.cell?, dh]
  have d2 : w3.cell? ⟨B + 1 + 1, 2, none⟩ = some (.int .i64 0) := by simp [World.cell?, dh]
  have d3 : w3.cell? ⟨B + 1 + 1, 3, none⟩ = some (.bool false) := by simp [World.cell?, dh]
  have d4 : w3.cell? ⟨B + 1 + 1, 4, none⟩ = some (.int .i64 0) := by simp [World.cell?, dh]
  have d5 : w3.cell? ⟨B + 1 + 1, 5, none⟩ = some (.int .i64 0) := by simp [World.cell?, dh]
  have d6 : w3.cell? ⟨B + 1 + 1, 6, none⟩ = some (.int .i64 0) := by simp [World.cell?, dh]
  have d7 : w3.cell? ⟨B + 1 + 1, 7, none⟩ = some (.int .i64 0) := by simp [World.cell?, dh]
  have d8 : w3.cell? ⟨B + 1 + 1, 8, none⟩ = some (.int .i64 0) := by simp [World.cell?, dh]
  have d9 : w3.cell? ⟨B + 1 + 1, 9, none⟩ = some (.int .i64 0) := by simp [World.cell?, dh]
  have d10 : w3.cell? ⟨B + 1 + 1, 10, none⟩ = some (.int .i64 0) := by simp [World.cell?, dh]
  have d11 : w3.cell? ⟨B + 1 + 1, 11, none⟩ = some (.int .i64 0) := by simp [World.cell?, dh]
  have d12 : w3.cell? ⟨B + 1 + 1, 12, none⟩ = some (.int .i64 0) := by simp [World.cell?, dh]
  have d13 : w3.cell? ⟨B + 1 + 1, 13, none⟩ = some (.slice none 0 0) := by simp [World.cell?, dh]
  have d14 : w3.cell? ⟨B + 1 + 1, 14, none⟩ = some (.slice none 0 0) := by simp [World.cell?, dh]
  have d15 : w3.cell? ⟨B + 1 + 1, 15, none⟩ = some (.int .i64 0) := by simp [World.cell?, dh]
  have df := frz dh
  have KK : Hid (Kept [] w w3) := Hid.mk ((k1.trans k2).trans k3)
  have HBw : Hid (w.heap.size = B) := Hid.mk eB
  have hb := bldR
  have hb2 := bldF
  have CB := Hid.mk (fun u => begin_nil l u)
  obtain ⟨v0, f0⟩ : ∃ x, setAll w3 (B + 1) 0 [.int .i64 0, .int .i64 0, .int .i64 0, .bool false, .slice none 0 0] = x := ⟨_, rfl⟩
  have S0 : v0.heap[B + 1]? = some (.cells #[.int .i64 0, .int .i64 0, .int .i64 0, .bool false, .slice none 0 0] 36 (0, 0)) ∧ Kept [B + 1] w3 v0 := by rw [← f0]; exact setAll_row [.int .i64 0, .int .i64 0, .int .i64 0, .bool false, .slice none 0 0] 0 w3 [] [.int .i64 0, .int .i64 0, .int .i64 0, .bool false, .slice none 0 0] ch rfl rfl
  simp only [setAll, Nat.zero_add, Nat.reduceAdd] at f0
  have f0H := Hid.mk f0
  have dh2 := S0.2.heap dh (by simp)
  obtain ⟨v1, f1⟩ : ∃ x, setAll v0 (B + 1 + 1) 0 [.int .i64 0, .int .i64 0, .int .i64 0, .bool false, .int .i64 0, .int .i64 0, .int .i64 0, .int .i64 0, .int .i64 0, .int .i64 0, .int .i64 0, .int .i64 0, .int .i64 0, .slice none 0 0, .slice none 0 0, .int .i64 0] = x := ⟨_, rfl⟩
  have S1 : v1.heap[B + 1 + 1]? = some (.cells #[.int .i64 0, .int .i64 0, .int .i64 0, .bool false, .int .i64 0, .int .i64 0, .int .i64 0, .int .i64 0, .int .i64 0, .int .i64 0, .int .i64 0, .int .i64 0, .int .i64 0, .slice none 0 0, .slice none 0 0, .int .i64 0] 40 (0, 0)) ∧ Kept [B + 1 + 1] v0 v1 := by rw [← f1]; exact setAll_row [.int .i64 0, .int .i64 0, .int .i64 0, .bool false, .int .i64 0, .int .i64 0, .int .i64 0, .int .i64 0, .int .i64 0, .int .i64 0, .int .i64 0, .int .i64 0, .int .i64 0, .slice none 0 0, .slice none 0 0, .int .i64 0] 0 v0 [] [.int .i64 0, .int .i64 0, .int .i64 0, .bool false, .int .i64 0, .int .i64 0, .int .i64 0, .int .i64 0, .int .i64 0, .int .i64 0, .int .i64 0, .int .i64 0, .int .i64 0, .slice none 0 0, .slice none 0 0, .int .i64 0] dh2 rfl rfl
  simp only [setAll, Nat.zero_add, Nat.reduceAdd] at f1
  have f1H := Hid.mk f1
  have cE := Hid.mk ((S1.2.heap S0.1 (by simp)))
  have dE := Hid.mk (S1.1)
  have KE : Hid (Kept [] w v1) := Hid.mk (((KK.out.step S0.2 (fun x hx => by simp at hx; subst hx; exact .inr (by omega))).step S1.2 (fun x hx => by simp at hx; subst hx; exact .inr (by omega))))
  clear rh ch dh k1 k2 k3 S0 f0 S1 f1 dh2
  go_enter Tryz.func10, Tryz.ntmps10
  go_wp2_with (fail)
  refine (CB.out _).mono ?_
  rintro e w9 ⟨rfl, hw⟩
  obtain rfl := hw.symm
  clear hw
  go_wp2
  rw [f0H.out]
  rw [f1H.out]
  have cEh := cE.out
  have cE0 : v1.cell? ⟨B + 1, 0, none⟩ = some (.int .i64 0) := by simp [World.cell?, cEh]
  have cE1 : v1.cell? ⟨B + 1, 1, none⟩ = some (.int .i64 0) := by simp [World.cell?, cEh]
  have cE2 : v1.cell? ⟨B + 1, 2, none⟩ = some (.int .i64 0) := by simp [World.cell?, cEh]
  have cE3 : v1.cell? ⟨B + 1, 3, none⟩ = some (.bool false) := by simp [World.cell?, cEh]
  have cE4 : v1.cell? ⟨B + 1, 4, none⟩ = some (.slice none 0 0) := by simp [World.cell?, cEh]
  have dEh := dE.out
  have dE0 : v1.cell? ⟨B + 1 + 1, 0, none⟩ = some (.int .i64 0) := by simp [World.cell?, dEh]
  have dE1 : v1.cell? ⟨B + 1 + 1, 1, none⟩ = some (.int .i64 0) := by simp [World.cell?, dEh]
  have dE2 : v1.cell? ⟨B + 1 + 1, 2, none⟩ = some (.int .i64 0) := by simp [World.cell?, dEh]
  have dE3 : v1.cell? ⟨B + 1 + 1, 3, none⟩ = some (.bool false) := by simp [World.cell?, dEh]
  have dE4 : v1.cell? ⟨B + 1 + 1, 4, none⟩ = some (.int .i64 0) := by simp [World.cell?, dEh]
  have dE5 : v1.cell? ⟨B + 1 + 1, 5, none⟩ = some (.int .i64 0) := by simp [World.cell?, dEh]
  have dE6 : v1.cell? ⟨B + 1 + 1, 6, none⟩ = some (.int .i64 0) := by simp [World.cell?, dEh]
  have dE7 : v1.cell? ⟨B + 1 + 1, 7, none⟩ = some (.int .i64 0) := by simp [World.cell?, dEh]
  have dE8 : v1.cell? ⟨B + 1 + 1, 8, none⟩ = some (.int .i64 0) := by simp [World.cell?, dEh]
  have dE9 : v1.cell? ⟨B + 1 + 1, 9, none⟩ = some (.int .i64 0) := by simp [World.cell?, dEh]
  have dE10 : v1.cell? ⟨B + 1 + 1, 10, none⟩ = some (.int .i64 0) := by simp [World.cell?, dEh]
  have dE11 : v1.cell? ⟨B + 1 + 1, 11, none⟩ = some (.int .i64 0) := by simp [World.cell?, dEh]
  have dE12 : v1.cell? ⟨B + 1 + 1, 12, none⟩ = some (.int .i64 0) := by simp [World.cell?, dEh]
  have dE13 : v1.cell? ⟨B + 1 + 1, 13, none⟩ = some (.slice none 0 0) := by simp [World.cell?, dEh]
  have dE14 : v1.cell? ⟨B + 1 + 1, 14, none⟩ = some (.slice none 0 0) := by simp [World.cell?, dEh]
  have dE15 : v1.cell? ⟨B + 1 + 1, 15, none⟩ = some (.int .i64 0) := by simp [World.cell?, dEh]
  refine bodyPost_ret (v := .tuple #[zF, zR, .int .i64 1]) (by simp [results, Tryz.results10, go_sem, cE0, cE1, cE2, cE3, cE4, dE0, dE1, dE2, dE3, dE4, dE5, dE6, dE7, dE8, dE9, dE10, dE11, dE12, dE13, dE14, dE15]) rfl ⟨rfl, KE.out⟩
end Go.Proofs.YtnbhboojhmmdhaaGreatDoor
