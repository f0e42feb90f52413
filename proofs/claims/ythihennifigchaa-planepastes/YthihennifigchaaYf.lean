import Derived.Test.YthihennifigchaaLd
namespace Go.Proofs.Ythihennifigchaa
open Go.RowKit

set_option maxHeartbeats 16000000 in
set_option maxRecDepth 1000000 in
theorem turn2_any (W H D : Int) (A : Bool) (LB n : Nat) (V : Value) (bs ln : Nat → Nat) (F : Nat → Nat → Nat) (w0 w : World) (hL : Ln w0 w LB V n bs ln F) (hF : ∀ i j, F i j < 65536) (hn : n ≤ 5864062014634) (hln : ∀ i, i < n → ln i ≤ 70368744175616) :
    Calls Try.prog 25 #[lnv W H D A (slv LB n (n + 2)) V (slv LB (n + 2) (n + 2))] w fun e w' => ∃ go gc G, e = .returned (frv W H D A go n gc) ∧ (∀ i j, G i j < 65536) ∧ Ln w0 w' LB V n bs ln G ∧ (∀ (w2 : World) (ks : List Nat), Kept ks w' w2 → (∀ x ∈ ks, x < w.heap.size) → Pc w2 go n ln G) ∧ Kept (rbs bs n) w w' := by
  have HL := Hid.mk hL
  have Hln := Hid.mk hln
  have HF := Hid.mk hF
  obtain ⟨vo, vc, rfl⟩ : ∃ vo vc, V = .slice vo n vc := by
    rcases hL.all.own.2 with ⟨e2, h0⟩ | ⟨g2, cap, cur, e2, _⟩
    · exact ⟨none, 0, by rw [e2, h0]⟩
    · exact ⟨_, _, e2⟩
  clear hL hln hF
  go_enter Try.func25, Try.ntmps25
  go_wp2
  obtain ⟨w1, ew1⟩ : ∃ w1, w1 = ((w.alloc (.cells #[.int .i64 W, .int .i64 H, .int .i64 D, .bool A, slv LB n (n + 2), .slice vo n vc, slv LB (n + 2) (n + 2)] 45)).alloc (.cells #[.int .i64 0, .int .i64 0, .int .i64 0, .bool false, .slice none 0 0] 38)).alloc (.cells #[.int .i64 W, .int .i64 H, .int .i64 D, .bool A, .slice none 0 0] 38) := ⟨_, rfl⟩
  have P1 : Hid ((w1.heap[w.heap.size]? = some (.cells #[.int .i64 W, .int .i64 H, .int .i64 D, .bool A, slv LB n (n + 2), .slice vo n vc, slv LB (n + 2) (n + 2)] 45 (0, 0)) ∧ w1.heap[w.heap.size + 1]? = some (.cells #[.int .i64 0, .int .i64 0, .int .i64 0, .bool false, .slice none 0 0] 38 (0, 0)) ∧ w1.heap[w.heap.size + 1 + 1]? = some (.cells #[.int .i64 W, .int .i64 H, .int .i64 D, .bool A, .slice none 0 0] 38 (0, 0))) ∧ w1.heap.size = w.heap.size + 3 ∧ Kept [] w w1) := by
    have h1 := heap_alloc_new w (.cells #[.int .i64 W, .int .i64 H, .int .i64 D, .bool A, slv LB n (n + 2), .slice vo n vc, slv LB (n + 2) (n + 2)] 45)
    have h2 := heap_alloc_new (w.alloc (.cells #[.int .i64 W, .int .i64 H, .int .i64 D, .bool A, slv LB n (n + 2), .slice vo n vc, slv LB (n + 2) (n + 2)] 45)) (.cells #[.int .i64 0, .int .i64 0, .int .i64 0, .bool false, .slice none 0 0] 38)
    have h3 := heap_alloc_new ((w.alloc (.cells #[.int .i64 W, .int .i64 H, .int .i64 D, .bool A, slv LB n (n + 2), .slice vo n vc, slv LB (n + 2) (n + 2)] 45)).alloc (.cells #[.int .i64 0, .int .i64 0, .int .i64 0, .bool false, .slice none 0 0] 38)) (.cells #[.int .i64 W, .int .i64 H, .int .i64 D, .bool A, .slice none 0 0] 38)
    have k2 := alloc_kept (w.alloc (.cells #[.int .i64 W, .int .i64 H, .int .i64 D, .bool A, slv LB n (n + 2), .slice vo n vc, slv LB (n + 2) (n + 2)] 45)) (.cells #[.int .i64 0, .int .i64 0, .int .i64 0, .bool false, .slice none 0 0] 38)
    have k3 := alloc_kept ((w.alloc (.cells #[.int .i64 W, .int .i64 H, .int .i64 D, .bool A, slv LB n (n + 2), .slice vo n vc, slv LB (n + 2) (n + 2)] 45)).alloc (.cells #[.int .i64 0, .int .i64 0, .int .i64 0, .bool false, .slice none 0 0] 38)) (.cells #[.int .i64 W, .int .i64 H, .int .i64 D, .bool A, .slice none 0 0] 38)
    rw [World.size_alloc] at h2
    rw [World.size_alloc, World.size_alloc] at h3
    rw [ew1]
    exact ⟨⟨k3.heap (k2.heap h1 (by simp)) (by simp), k3.heap h2 (by simp), h3⟩, by rw [World.size_alloc, World.size_alloc, World.size_alloc], ((alloc_kept w _).trans k2).trans k3⟩
  rw [← ew1]
  clear ew1
  obtain ⟨XB, eXB⟩ : ∃ XB, XB = w.heap.size := ⟨_, rfl⟩
  obtain ⟨RB, eRB⟩ : ∃ RB, RB = w.heap.size + 1 := ⟨_, rfl⟩
  obtain ⟨YB, eYB⟩ : ∃ YB, YB = w.heap.size + 1 + 1 := ⟨_, rfl⟩
  rw [← eYB, ← eRB, ← eXB] at P1 ⊢
  obtain ⟨B, eB⟩ : ∃ B, B = w1.heap.size := ⟨_, rfl⟩
  have HB : Hid (XB = w.heap.size ∧ RB = w.heap.size + 1 ∧ YB = w.heap.size + 2 ∧ B = w.heap.size + 3 ∧ B = w1.heap.size ∧ (∀ i, i < n → bs i < w.heap.size) ∧ LB < w.heap.size ∧ (∀ i, i < n → bs i ≠ LB)) := Hid.mk ⟨eXB, eRB, eYB, by have := P1.out.2.1; omega, eB, fun i hi => (HL.out.all.row i hi).lt, lt_of_block HL.out.lst, fun i hi e => by
    have h := HL.out.all.row i hi
    have h2 := HL.out.lst
    unfold Row at h
    rw [e, h2] at h
    simp at h⟩
  clear eXB eRB eYB eB
  go_loopw [4] (fun i wr => ∃ (k : Nat) (V' : Value) (f : Nat → Value) (G : Nat → Nat → Nat), k ≤ n ∧ i = .int .i64 (k : Int) ∧ (∀ i j, G i j < 65536) ∧ wr.heap[YB]? = some (.cells #[.int .i64 W, .int .i64 H, .int .i64 D, .bool A, V'] 38 (0, 0)) ∧ Gy B wr V' k f ln G ∧ (∀ i, i < n → Row wr (bs i) (ln i + 7) (G i)) ∧ Kept (YB :: rbs bs n) w1 wr) (fun i _ => n - (intOf i).toNat)
  case atStart => exact ⟨0, _, fun _ => .slice none 0 0, F, by omega, rfl, HF.out, P1.out.1.2.2, Gy.start _ _ _ _ _, fun i hi => (HL.out.all.row i hi).keep P1.out.2.2 (by simp), Kept.refl _ _⟩
  case round =>
    obtain ⟨k, V', f, G, hk, rfl, hGb, hY, hG, hrows, hkr⟩ := hrel
    have hb := HB.out
    have nX : XB ∉ YB :: rbs bs n := by
      simp only [List.mem_cons, mem_rbs, not_or]
      exact ⟨by omega, fun ⟨i, hi, e⟩ => by have := hb.2.2.2.2.2.1 i hi; omega⟩
    have nR : RB ∉ YB :: rbs bs n := by
      simp only [List.mem_cons, mem_rbs, not_or]
      exact ⟨by omega, fun ⟨i, hi, e⟩ => by have := hb.2.2.2.2.2.1 i hi; omega⟩
    have nL : LB ∉ YB :: rbs bs n := by
      simp only [List.mem_cons, mem_rbs, not_or]
      exact ⟨by omega, fun ⟨i, hi, e⟩ => hb.2.2.2.2.2.2.2 i hi e⟩
    have hX := hkr.heap P1.out.1.1 nX
    have hR := hkr.heap P1.out.1.2.1 nR
    have hlst := hkr.heap (P1.out.2.2.heap HL.out.lst (by simp)) nL
    obtain ⟨⟨x0, x1, x2, x3, x4, x5, x6⟩, _⟩ := seven hX
    by_cases hlt : k < n
    · have hLc : wr.cell? ⟨LB, k, none⟩ = some (slv (bs k) (ln k) (ln k + 7)) := by
        rw [cell_of_row _ _ _ _ _ _ hlst, List.getElem?_toArray, fl_at _ _ _ (by omega)]
        unfold lsC
        rw [if_pos hlt]
      have ix : (k : Int) < (n : Int) := by omega
      have HS := Hid.mk (And.intro hGb (And.intro hY (And.intro hG (And.intro hrows hkr))))
      have hmb := Hln.out k hlt
      have hXk : XB ≠ bs k := by have := hb.2.2.2.2.2.1 k hlt; omega
      have hLk : LB ≠ bs k := fun e => hb.2.2.2.2.2.2.2 k hlt e.symm
      obtain ⟨m, em⟩ : ∃ m, m = ln k := ⟨_, rfl⟩
      obtain ⟨b, ebk⟩ : ∃ b, b = bs k := ⟨_, rfl⟩
      have R0 := Hid.mk (hrows k hlt)
      have B0 := Hid.mk (hGb k)
      rw [← em, ← ebk] at hLc R0
      rw [← em] at hmb
      rw [← ebk] at hXk hLk
      have EM := Hid.mk (And.intro em ebk)
      have HX := Hid.mk (And.intro hX (And.intro hR hlst))
      have HXk := Hid.mk (And.intro hXk hLk)
      clear hGb hY hG hrows hkr em ebk hX hR hlst nX nR nL hb hXk hLk
      go_wp2
      go_loopw [5] (fun s wq => ∃ (j : Nat) (f' : Nat → Nat), j ≤ m ∧ s = .int .i64 (j : Int) ∧ (∀ t, f' t < 65536) ∧ Row wq b (m + 7) f' ∧ Kept [b] wr wq) (fun s _ => m - (intOf s).toNat)
      case atStart => exact ⟨0, _, by omega, rfl, B0.out, R0.out, Kept.refl _ _⟩
      case round =>
        obtain ⟨j, f', hj, rfl, hfb, hrow, hkq⟩ := hrel
        have z4 := cell_keep hkq x4 (by simpa using HXk.out.1)
        have zL := cell_keep hkq hLc (by simpa using HXk.out.2)
        by_cases hjl : j < m
        · have hc := hrow.at (show j < m + 7 by omega)
          have hfz := hrow.fz j
          have jx : (j : Int) < (m : Int) := by omega
          have hvb := hfb j
          obtain ⟨v, ev⟩ : ∃ v, v = f' j := ⟨_, rfl⟩
          rw [← ev] at hc hvb
          obtain ⟨r, er⟩ : ∃ r, r = j % 5 := ⟨_, rfl⟩
          have hr5 : r < 5 := by omega
          have etm : (j : Int).tmod 5 = (r : Int) := by rw [Int.tmod_eq_emod_of_nonneg (by omega)]; omega
          have epi : (j : Int) % 5 = (r : Int) := by omega
          have hw1 : IntKind.i64.wrap (1 + (r : Int)) = 1 + (r : Int) := wrap_i (by omega) (by omega)
          have Hr := Hid.mk hrow
          have Hq := Hid.mk hkq
          have Hb := Hid.mk hfb
          clear ev er hrow hkq hfb
          obtain ⟨x9, ex9, hx9⟩ := xor_u16 (v : Int) (IntKind.u16.wrap (1 + (r : Int)))
          have KD := Hid.mk (((Kept.refl [b] wr).drew).setCell (p := ⟨b, j, none⟩) (.inl (by simp)) (.int .u16 (x9 : Int)))
          have y4 := cell_keep KD.out z4 (by simpa using HXk.out.1)
          have yL := cell_keep KD.out zL (by simpa using HXk.out.2)
          go_wp2
          refine wp_region_held_drew (S := fun w' => w'.cell? ⟨XB, 4, none⟩ = some (slv LB n (n + 2)) ∧ w'.cell? ⟨LB, k, none⟩ = some (slv b m (m + 7))) (by kernel_rfl) ⟨z4, zL⟩ (fun hHeld => ?_)
          refine wpAnyH_take (i := 0) (v := ?_) rfl (by kernel_rfl) (by kernel_rfl) (by kernel_rfl) (fun _ _ _ h => h) (Or.inl ⟨by rfl, ?_⟩) (by assumption) ?_
          rotate_left
          · intro w hSw
            try dsimp only at hSw
            go_simp
            all_goals with_reducible rfl
          simp only [Act.put, List.getElem_toArray, List.getElem_cons_zero, List.setIfInBounds_toArray, List.set_cons_zero, List.set_cons_succ]
          refine wpAnyH_take (i := 1) (v := ?_) rfl (by kernel_rfl) (by kernel_rfl) (by kernel_rfl) (fun _ _ _ h => h) (Or.inl ⟨by rfl, ?_⟩) (by assumption) ?_
          rotate_left
          · intro w hSw
            try dsimp only at hSw
            go_simp
            all_goals with_reducible rfl
          simp only [Act.put, List.getElem_toArray, List.getElem_cons_zero, List.getElem_cons_succ, List.setIfInBounds_toArray, List.set_cons_zero, List.set_cons_succ]
          refine wpAnyH_take (i := 2) (v := ?_) rfl (by kernel_rfl) (by kernel_rfl) (by kernel_rfl) (fun _ _ _ h => h) (Or.inl ⟨by rfl, ?_⟩) (by assumption) ?_
          rotate_left
          · intro w hSw
            try dsimp only at hSw
            go_simp
            all_goals with_reducible rfl
          simp only [Act.put, List.getElem_toArray, List.getElem_cons_zero, List.getElem_cons_succ, List.setIfInBounds_toArray, List.set_cons_zero, List.set_cons_succ]
          refine wpAnyH_take (i := 3) (v := ?_) rfl (by kernel_rfl) (by kernel_rfl) (by kernel_rfl) (fun _ _ _ h => h) (Or.inl ⟨by rfl, ?_⟩) (by assumption) ?_
          rotate_left
          · intro w hSw
            try dsimp only at hSw
            go_simp
            all_goals with_reducible rfl
          simp only [Act.put, List.getElem_toArray, List.getElem_cons_zero, List.getElem_cons_succ, List.setIfInBounds_toArray, List.set_cons_zero, List.set_cons_succ]
          refine wpAnyH_take (i := 4) (v := ?_) rfl (by kernel_rfl) (by kernel_rfl) (by kernel_rfl) (fun _ _ _ h => h) (Or.inl ⟨by rfl, ?_⟩) (by assumption) ?_
          rotate_left
          · intro w hSw
            try dsimp only at hSw
            go_simp
            all_goals with_reducible rfl
          simp only [Act.put, List.getElem_toArray, List.getElem_cons_zero, List.getElem_cons_succ, List.setIfInBounds_toArray, List.set_cons_zero, List.set_cons_succ]
          refine wpAnyH_take (i := 5) (v := ?_) rfl (by kernel_rfl) (by kernel_rfl) (by kernel_rfl) (fun _ _ _ h => h) (Or.inl ⟨by rfl, ?_⟩) (by assumption) ?_
          rotate_left
          · intro w hSw
            try dsimp only at hSw
            go_simp
            all_goals with_reducible rfl
          simp only [Act.put, List.getElem_toArray, List.getElem_cons_zero, List.getElem_cons_succ, List.setIfInBounds_toArray, List.set_cons_zero, List.set_cons_succ]
          refine wpAnyH_take (i := 6) (v := ?_) rfl (by kernel_rfl) (by kernel_rfl) (by kernel_rfl) (fun _ _ _ h => h) (Or.inl ⟨by rfl, ?_⟩) (by assumption) ?_
          rotate_left
          · intro w hSw
            try dsimp only at hSw
            go_simp
            all_goals with_reducible rfl
          simp only [Act.put, List.getElem_toArray, List.getElem_cons_zero, List.getElem_cons_succ, List.setIfInBounds_toArray, List.set_cons_zero, List.set_cons_succ]
          refine wpAnyH_take (i := 7) (v := ?_) rfl (by kernel_rfl) (by kernel_rfl) (by kernel_rfl) (fun _ _ _ h => h) (Or.inl ⟨by rfl, ?_⟩) (by assumption) ?_
          rotate_left
          · intro w hSw
            try dsimp only at hSw
            go_simp
            all_goals with_reducible rfl
          simp only [Act.put, List.getElem_toArray, List.getElem_cons_zero, List.getElem_cons_succ, List.setIfInBounds_toArray, List.set_cons_zero, List.set_cons_succ]
          refine wpAnyH_take (i := 8) (v := ?_) rfl (by kernel_rfl) (by kernel_rfl) (by kernel_rfl) (fun _ _ _ h => h) (Or.inl ⟨by rfl, ?_⟩) (by assumption) ?_
          rotate_left
          · intro w hSw
            try dsimp only at hSw
            go_simp
            all_goals with_reducible rfl
          simp only [Act.put, List.getElem_toArray, List.getElem_cons_zero, List.getElem_cons_succ, List.setIfInBounds_toArray, List.set_cons_zero, List.set_cons_succ]
          refine wpAnyH_take (i := 9) (v := ?_) rfl (by kernel_rfl) (by kernel_rfl) (by kernel_rfl) (fun _ _ _ h => h) (Or.inl ⟨by rfl, ?_⟩) (by assumption) ?_
          rotate_left
          · intro w hSw
            try dsimp only at hSw
            go_simp
            all_goals with_reducible rfl
          simp only [Act.put, List.getElem_toArray, List.getElem_cons_zero, List.getElem_cons_succ, List.setIfInBounds_toArray, List.set_cons_zero, List.set_cons_succ]
          refine wpAnyH_take (i := 10) (v := ?_) rfl (by kernel_rfl) (by kernel_rfl) (by kernel_rfl) (fun _ _ _ h => h) (Or.inl ⟨by rfl, ?_⟩) (by assumption) ?_
          rotate_left
          · intro w hSw
            try dsimp only at hSw
            go_simp
            all_goals with_reducible rfl
          simp only [Act.put, List.getElem_toArray, List.getElem_cons_zero, List.getElem_cons_succ, List.setIfInBounds_toArray, List.set_cons_zero, List.set_cons_succ]
          refine wpAnyH_take (i := 11) (v := ?_) rfl (by kernel_rfl) (by kernel_rfl) (by kernel_rfl) (fun _ _ _ h => h) (Or.inl ⟨by rfl, ?_⟩) (by assumption) ?_
          rotate_left
          · intro w hSw
            try dsimp only at hSw
            go_simp
            all_goals with_reducible rfl
          simp only [Act.put, List.getElem_toArray, List.getElem_cons_zero, List.getElem_cons_succ, List.setIfInBounds_toArray, List.set_cons_zero, List.set_cons_succ]
          refine wpAnyH_take (i := 12) (v := ?_) rfl (by kernel_rfl) (by kernel_rfl) (by kernel_rfl) (fun _ _ _ h => h) (Or.inl ⟨by rfl, ?_⟩) (by assumption) ?_
          rotate_left
          · intro w hSw
            try dsimp only at hSw
            go_simp
            all_goals with_reducible rfl
          simp only [Act.put, List.getElem_toArray, List.getElem_cons_zero, List.getElem_cons_succ, List.setIfInBounds_toArray, List.set_cons_zero, List.set_cons_succ]
          refine wpAnyH_take (i := 13) (v := ?_) rfl (by kernel_rfl) (by kernel_rfl) (by kernel_rfl) (fun _ _ _ h => h) (Or.inl ⟨by rfl, ?_⟩) (by assumption) ?_
          rotate_left
          · intro w hSw
            try dsimp only at hSw
            go_simp
            all_goals with_reducible rfl
          simp only [Act.put, List.getElem_toArray, List.getElem_cons_zero, List.getElem_cons_succ, List.setIfInBounds_toArray, List.set_cons_zero, List.set_cons_succ]
          refine wpAnyH_take (i := 14) (v := ?_) rfl (by kernel_rfl) (by kernel_rfl) (by kernel_rfl) (fun _ _ _ h => h) (Or.inl ⟨by rfl, ?_⟩) (by assumption) ?_
          rotate_left
          · intro w hSw
            try dsimp only at hSw
            go_simp
            all_goals with_reducible rfl
          simp only [Act.put, List.getElem_toArray, List.getElem_cons_zero, List.getElem_cons_succ, List.setIfInBounds_toArray, List.set_cons_zero, List.set_cons_succ]
          refine wpAnyH_take (i := 16) (v := ?_) rfl (by kernel_rfl) (by kernel_rfl) (by kernel_rfl) (fun _ _ _ h => h) (Or.inl ⟨by rfl, ?_⟩) (by assumption) ?_
          rotate_left
          · intro w hSw
            try dsimp only at hSw
            go_simp
            all_goals with_reducible rfl
          simp only [Act.put, List.getElem_toArray, List.getElem_cons_zero, List.getElem_cons_succ, List.setIfInBounds_toArray, List.set_cons_zero, List.set_cons_succ]
          refine wpAnyH_take (i := 17) (v := ?_) rfl (by kernel_rfl) (by kernel_rfl) (by kernel_rfl) (fun _ _ _ h => h) (Or.inl ⟨by rfl, ?_⟩) (by assumption) ?_
          rotate_left
          · intro w hSw
            try dsimp only at hSw
            go_simp
            all_goals with_reducible rfl
          simp only [Act.put, List.getElem_toArray, List.getElem_cons_zero, List.getElem_cons_succ, List.setIfInBounds_toArray, List.set_cons_zero, List.set_cons_succ]
          refine wpAnyH_take (i := 18) (v := ?_) rfl (by kernel_rfl) (by kernel_rfl) (by kernel_rfl) (fun _ _ _ h => h) (Or.inl ⟨by rfl, ?_⟩) (by assumption) ?_
          rotate_left
          · intro w hSw
            try dsimp only at hSw
            go_simp
            all_goals with_reducible rfl
          simp only [Act.put, List.getElem_toArray, List.getElem_cons_zero, List.getElem_cons_succ, List.setIfInBounds_toArray, List.set_cons_zero, List.set_cons_succ]
          refine wpAnyH_take (i := 19) (v := ?_) rfl (by kernel_rfl) (by kernel_rfl) (by kernel_rfl) (fun _ _ _ h => h) (Or.inl ⟨by rfl, ?_⟩) (by assumption) ?_
          rotate_left
          · intro w hSw
            try dsimp only at hSw
            go_simp
            all_goals with_reducible rfl
          simp only [Act.put, List.getElem_toArray, List.getElem_cons_zero, List.getElem_cons_succ, List.setIfInBounds_toArray, List.set_cons_zero, List.set_cons_succ]
          refine wpAnyH_ready (rs := [15]) (by kernel_rfl) (by simp) ?_
          refine AllReadyH.cons rfl (fun K9 hK9 => ?_) AllReadyH.nil
          go_simp
          refine hK9.out _ _ ⟨z4, zL⟩ (fun hHeld2 => ?_)
          clear hK9 K9
          refine wpAnyH_take (i := 20) (v := ?_) rfl (by kernel_rfl) (by kernel_rfl) (by kernel_rfl) (fun _ _ _ h => h) (Or.inl ⟨by rfl, ?_⟩) (by assumption) ?_
          rotate_left
          · intro w hSw
            try dsimp only at hSw
            go_simp
            all_goals with_reducible rfl
          simp only [Act.put, List.getElem_toArray, List.getElem_cons_zero, List.getElem_cons_succ, List.setIfInBounds_toArray, List.set_cons_zero, List.set_cons_succ]
          refine wpAnyH_take (i := 21) (v := ?_) rfl (by kernel_rfl) (by kernel_rfl) (by kernel_rfl) (fun _ _ _ h => h) (Or.inl ⟨by rfl, ?_⟩) (by assumption) ?_
          rotate_left
          · intro w hSw
            try dsimp only at hSw
            go_simp
            all_goals with_reducible rfl
          simp only [Act.put, List.getElem_toArray, List.getElem_cons_zero, List.getElem_cons_succ, List.setIfInBounds_toArray, List.set_cons_zero, List.set_cons_succ]
          refine wpAnyH_ready (rs := [22]) (by kernel_rfl) (by simp) ?_
          refine AllReadyH.cons rfl (fun K9 hK9 => ?_) AllReadyH.nil
          go_simp
          refine hK9.out _ _ ⟨y4, yL⟩ (fun hHeld2 => ?_)
          clear hK9 K9
          refine wpAnyH_done (by kernel_rfl) ?_ _
          go_wp2
          refine ⟨⟨j + 1, fun t => if t = j then x9 else f' t, by omega, by go_num, fun t => ?_, Hr.out.set, (Hq.out.setCell (p := ⟨b, j, none⟩) (.inl (by simp)) _).drew⟩, by simp [intOf]; omega⟩
          show (if t = j then x9 else f' t) < 65536
          split
          · exact hx9
          · exact Hb.out t
        · obtain rfl : m = j := by omega
          have hb := HB.out
          have hbk : b < w.heap.size := by rw [EM.out.2]; exact hb.2.2.2.2.2.1 k hlt
          have hYq := hkq.heap HS.out.2.1 (by simp; omega)
          have hBw : B ≤ wr.heap.size := by rw [hb.2.2.2.2.1]; exact Nat.le_trans HS.out.2.2.2.2.size hkq.size
          have hGq := HS.out.2.2.1.keep hkq (fun x hx => by simp at hx; subst hx; omega)
          obtain ⟨vo', vc', rfl⟩ : ∃ vo' vc', V' = .slice vo' k vc' := by
            rcases hGq.own.2 with ⟨e2, h0⟩ | ⟨g2, cap, cur, e2, _⟩
            · exact ⟨none, 0, by rw [e2, h0]⟩
            · exact ⟨_, _, e2⟩
          obtain ⟨g1, c1, ub, e9, kb, hg1, hg1', hmc, hrd⟩ := app_copy wr.drew b m (m + 7) (m + 7) f' hrow (by omega) (by omega)
          have kb' : Kept [] wr ub := ((Kept.refl [] wr).drew).trans kb
          have hGb := hGq.keep kb' (by simp)
          obtain ⟨g2, c2, ud, e11, ho2, kd, hl2⟩ := app_one ub B k _ (slv g1 m c1) (fl f k) hGb.own rfl (Nat.le_trans hBw kb'.size) (by omega)
          have hYb := kb'.heap hYq (by simp)
          have nYd : YB ∉ (Value.slice vo' k vc').ownBlock.toList := by rw [mem_own]; exact own_other hGb.own hYb (by decide)
          have hYd := kd.heap hYb nYd
          have nXd : ∀ x, x < B → x ∉ (Value.slice vo' k vc').ownBlock.toList := fun x hx hm => by rw [mem_own] at hm; have := (own_lt hGb.own x hm).1; omega
          obtain ⟨⟨_, _, _, _, v4⟩, ⟨_, _, _, _, t4⟩⟩ := five hYq
          obtain ⟨⟨_, _, _, _, v4b⟩, ⟨_, _, _, _, _⟩⟩ := five hYb
          obtain ⟨⟨_, _, _, _, v4d⟩, ⟨_, _, _, _, t4d⟩⟩ := five hYd
          have v4a : ((wr.alloc (.cells #[] 65)).drew).cell? ⟨YB, 4, none⟩ = some (.slice vo' k vc') := cell_keep (alloc_kept wr.drew (.cells #[] 65)) (show wr.drew.cell? _ = _ from v4) (by simp)
          have v4c := cell_keep (alloc_kept ub (.cells #[slv g1 m c1] 52)) v4b (by simp)
          have a4 : ((wr.alloc (.cells #[] 65)).drew).cell? ⟨XB, 4, none⟩ = some (slv LB n (n + 2)) := cell_keep (alloc_kept wr.drew (.cells #[] 65)) (show wr.drew.cell? _ = _ from z4) (by simp)
          have aL : ((wr.alloc (.cells #[] 65)).drew).cell? ⟨LB, k, none⟩ = some (slv b m (m + 7)) := cell_keep (alloc_kept wr.drew (.cells #[] 65)) (show wr.drew.cell? _ = _ from zL) (by simp)
          have e9' : Sem.run Try.prog (Builtin.append_ #[52, 52] 52 #[.slice (some ⟨wr.heap.size, 0, none⟩) 0 0, slv b m (m + 7)]) ((wr.alloc (.cells #[] 65)).drew) = .ok (slv g1 m c1) ub := e9
          have b4 := cell_keep kb' z4 (by simp)
          have bL := cell_keep kb' zL (by simp)
          have c4 := cell_keep (alloc_kept ub (.cells #[slv g1 m c1] 52)) b4 (by simp)
          have cL := cell_keep (alloc_kept ub (.cells #[slv g1 m c1] 52)) bL (by simp)
          have d4 := cell_keep kd b4 (nXd XB (by omega))
          have dL := cell_keep kd bL (nXd LB (by omega))
          have kf : Kept [YB] ud (ud.setCell ⟨YB, 4, none⟩ (slv g2 (k + 1) c2)) := (Kept.refl _ _).setCell (p := ⟨YB, 4, none⟩) (.inl (by simp)) _
          have f4 := cell_keep kf d4 (by simp; omega)
          have fL := cell_keep kf dL (by simp; omega)
          have HQ : Hid (∀ wf, wf = ud.setCell ⟨YB, 4, none⟩ (slv g2 (k + 1) c2) → ∃ (f2 : Nat → Value) (G2 : Nat → Nat → Nat), (∀ i j, G2 i j < 65536) ∧ wf.heap[YB]? = some (.cells #[.int .i64 W, .int .i64 H, .int .i64 D, .bool A, slv g2 (k + 1) c2] 38 (0, 0)) ∧ Gy B wf (slv g2 (k + 1) c2) (k + 1) f2 ln G2 ∧ (∀ i, i < n → Row wf (bs i) (ln i + 7) (G2 i)) ∧ Kept (YB :: rbs bs n) w1 wf) := Hid.mk (fun wf hwf => by
            subst hwf
            have hm := EM.out
            have kall : ∀ x, x < w.heap.size → x ≠ YB → ∀ {nn : Nat} {ff : Nat → Nat}, Row wr x nn ff → Row (ud.setCell ⟨YB, 4, none⟩ (slv g2 (k + 1) c2)) x nn ff := fun x hx hxY nn ff h => ((h.keep kb' (by simp)).keep kd (nXd x (by omega))).keep kf (by simpa using hxY)
            refine ⟨fun i => if i = k then slv g1 m c1 else f i, fun i => if i = k then f' else G i, fun i j => ?_, heap_setCell_at hYd, ?_, fun i hi => ?_, ?_⟩
            · show (if i = k then f' else G i) j < 65536
              split
              · exact hfb j
              · exact HS.out.1 i j
            · have hG2 := hGq.congr (G := fun i => if i = k then f' else G i) (fun i hi => by rw [if_neg (by omega)])
              have hst := hG2.step hBw kb' (val := slv g1 m c1) (gn := g1) (c := c1) (by rw [← hm.1]) (by rw [← hm.1]; exact hmc) hg1 hg1' (by rw [← hm.1, if_pos rfl]; exact hrd) ho2 kd hl2
              exact hst.keep kf (fun x hx => by simp at hx; omega)
            · by_cases e : i = k
              · subst e
                show Row _ (bs i) (ln i + 7) (if i = i then f' else G i)
                rw [if_pos rfl, ← hm.1, ← hm.2]
                exact kall b hbk (by omega) hrow
              · show Row _ (bs i) (ln i + 7) (if i = k then f' else G i)
                rw [if_neg e]
                have hi2 := hb.2.2.2.2.2.1 i hi
                refine kall (bs i) hi2 (by omega) ((HS.out.2.2.2.1 i hi).keep hkq ?_)
                rw [hm.2]
                simp
                intro e2
                rcases Nat.lt_trichotomy i k with h1 | h1 | h1
                · have := HL.out.all.mon i k h1 hlt; omega
                · exact e h1
                · have := HL.out.all.mon k i h1 hi; omega
            · have hbm : b ∈ YB :: rbs bs n := by rw [hm.2]; exact List.mem_cons_of_mem _ (mem_rbs.2 ⟨k, hlt, rfl⟩)
              have k3 := HS.out.2.2.2.2.step hkq (fun x hx => by simp at hx; subst hx; exact .inl hbm)
              have k4 := (k3.step kb' (by simp)).step kd (fun x hx => by rw [mem_own] at hx; have := (own_lt hGb.own x hx).1; right; omega)
              exact k4.step kf (fun x hx => by simp at hx; subst hx; exact .inl (by simp)))
          clear hYq hGq hGb hYb hYd kb kb' kd hl2 ho2 hrd hg1 hg1' hmc nYd nXd kf hrow hkq hfb hb hBw hbk
          go_wp2
          refine wp_region_held_drew (S := fun w' => w'.cell? ⟨XB, 4, none⟩ = some (slv LB n (n + 2)) ∧ w'.cell? ⟨LB, k, none⟩ = some (slv b m (m + 7))) (by kernel_rfl) ⟨z4, zL⟩ (fun hHeld => ?_)
          refine wpAnyH_take (i := 0) (v := ?_) rfl (by kernel_rfl) (by kernel_rfl) (by kernel_rfl) (fun _ _ _ h => h) (Or.inl ⟨by rfl, ?_⟩) (by assumption) ?_
          rotate_left
          · intro w hSw
            try dsimp only at hSw
            go_simp
            all_goals with_reducible rfl
          simp only [Act.put, List.getElem_toArray, List.getElem_cons_zero, List.setIfInBounds_toArray, List.set_cons_zero, List.set_cons_succ]
          refine wpAnyH_take (i := 3) (v := ?_) rfl (by kernel_rfl) (by kernel_rfl) (by kernel_rfl) (fun _ _ _ h => h) (Or.inl ⟨by rfl, ?_⟩) (by assumption) ?_
          rotate_left
          · intro w hSw
            try dsimp only at hSw
            go_simp
            all_goals with_reducible rfl
          simp only [Act.put, List.getElem_toArray, List.getElem_cons_zero, List.getElem_cons_succ, List.setIfInBounds_toArray, List.set_cons_zero, List.set_cons_succ]
          refine wpAnyH_take (i := 4) (v := ?_) rfl (by kernel_rfl) (by kernel_rfl) (by kernel_rfl) (fun _ _ _ h => h) (Or.inl ⟨by rfl, ?_⟩) (by assumption) ?_
          rotate_left
          · intro w hSw
            try dsimp only at hSw
            go_simp
            all_goals with_reducible rfl
          simp only [Act.put, List.getElem_toArray, List.getElem_cons_zero, List.getElem_cons_succ, List.setIfInBounds_toArray, List.set_cons_zero, List.set_cons_succ]
          refine wpAnyH_take (i := 5) (v := ?_) rfl (by kernel_rfl) (by kernel_rfl) (by kernel_rfl) (fun _ _ _ h => h) (Or.inl ⟨by rfl, ?_⟩) (by assumption) ?_
          rotate_left
          · intro w hSw
            try dsimp only at hSw
            go_simp
            all_goals with_reducible rfl
          simp only [Act.put, List.getElem_toArray, List.getElem_cons_zero, List.getElem_cons_succ, List.setIfInBounds_toArray, List.set_cons_zero, List.set_cons_succ]
          refine wpAnyH_take (i := 6) (v := ?_) rfl (by kernel_rfl) (by kernel_rfl) (by kernel_rfl) (fun _ _ _ h => h) (Or.inl ⟨by rfl, ?_⟩) (by assumption) ?_
          rotate_left
          · intro w hSw
            try dsimp only at hSw
            go_simp
            all_goals with_reducible rfl
          simp only [Act.put, List.getElem_toArray, List.getElem_cons_zero, List.getElem_cons_succ, List.setIfInBounds_toArray, List.set_cons_zero, List.set_cons_succ]
          refine wpAnyH_take (i := 7) (v := ?_) rfl (by kernel_rfl) (by kernel_rfl) (by kernel_rfl) (fun _ _ _ h => h) (Or.inl ⟨by rfl, ?_⟩) (by assumption) ?_
          rotate_left
          · intro w hSw
            try dsimp only at hSw
            go_simp
            all_goals with_reducible rfl
          simp only [Act.put, List.getElem_toArray, List.getElem_cons_zero, List.getElem_cons_succ, List.setIfInBounds_toArray, List.set_cons_zero, List.set_cons_succ]
          refine wpAnyH_take (i := 8) (v := ?_) rfl (by kernel_rfl) (by kernel_rfl) (by kernel_rfl) (fun _ _ _ h => h) (Or.inl ⟨by rfl, ?_⟩) (by assumption) ?_
          rotate_left
          · intro w hSw
            try dsimp only at hSw
            go_simp
            all_goals with_reducible rfl
          simp only [Act.put, List.getElem_toArray, List.getElem_cons_zero, List.getElem_cons_succ, List.setIfInBounds_toArray, List.set_cons_zero, List.set_cons_succ]
          refine wpAnyH_ready (rs := [1, 2]) (by kernel_rfl) (by simp) ?_
          refine AllReadyH.cons rfl (fun K9 hK9 => ?_) (AllReadyH.cons rfl (fun K9 hK9 => ?_) AllReadyH.nil)
          · go_simp
            refine hK9.out _ _ ⟨z4, zL⟩ (fun hHeld2 => ?_)
            clear hK9 K9
            refine wpAnyH_ready (rs := [2]) (by kernel_rfl) (by simp) ?_
            refine AllReadyH.cons rfl (fun K9 hK9 => ?_) AllReadyH.nil
            go_simp
            refine hK9.out _ _ ⟨a4, aL⟩ (fun hHeld2 => ?_)
            clear hK9 K9
            refine wpAnyH_ready (rs := [9]) (by kernel_rfl) (by simp) ?_
            refine AllReadyH.cons rfl (fun K9 hK9 => ?_) AllReadyH.nil
            refine step_app rfl _ _ 52 rfl _ _ _ _ rfl rfl e9' ?_
            simp only [Act.put, List.getElem_toArray, List.getElem_cons_zero, List.getElem_cons_succ, List.setIfInBounds_toArray, List.set_cons_zero, List.set_cons_succ]
            refine hK9.out _ _ ⟨b4, bL⟩ (fun hHeld2 => ?_)
            clear hK9 K9
            refine wpAnyH_ready (rs := [10]) (by kernel_rfl) (by simp) ?_
            refine AllReadyH.cons rfl (fun K9 hK9 => ?_) AllReadyH.nil
            go_simp
            refine hK9.out _ _ ⟨c4, cL⟩ (fun hHeld2 => ?_)
            clear hK9 K9
            refine wpAnyH_ready (rs := [11]) (by kernel_rfl) (by simp) ?_
            refine AllReadyH.cons rfl (fun K9 hK9 => ?_) AllReadyH.nil
            refine step_app rfl _ _ 36 rfl _ _ _ _ rfl rfl e11 ?_
            simp only [Act.put, List.getElem_toArray, List.getElem_cons_zero, List.getElem_cons_succ, List.setIfInBounds_toArray, List.set_cons_zero, List.set_cons_succ]
            refine hK9.out _ _ ⟨d4, dL⟩ (fun hHeld2 => ?_)
            clear hK9 K9
            refine wpAnyH_take (i := 12) (v := ?_) rfl (by kernel_rfl) (by kernel_rfl) (by kernel_rfl) (fun _ _ _ h => h) (Or.inl ⟨by rfl, ?_⟩) (by assumption) ?_
            rotate_left
            · intro w hSw
              try dsimp only at hSw
              go_simp
              all_goals with_reducible rfl
            simp only [Act.put, List.getElem_toArray, List.getElem_cons_zero, List.getElem_cons_succ, List.setIfInBounds_toArray, List.set_cons_zero, List.set_cons_succ]
            refine wpAnyH_ready (rs := [13]) (by kernel_rfl) (by simp) ?_
            refine AllReadyH.cons rfl (fun K9 hK9 => ?_) AllReadyH.nil
            go_simp
            refine hK9.out _ _ ⟨f4, fL⟩ (fun hHeld2 => ?_)
            clear hK9 K9
            refine wpAnyH_done (by kernel_rfl) ?_ _
            go_wp2
            obtain ⟨f2, G2, q1, q2, q3, q4, q5⟩ := HQ.out _ rfl
            exact ⟨⟨k + 1, _, f2, G2, by omega, by go_num, q1, q2, q3, q4, q5⟩, by simp [intOf]; omega⟩
          · go_simp
            refine hK9.out _ _ ⟨a4, aL⟩ (fun hHeld2 => ?_)
            clear hK9 K9
            refine wpAnyH_ready (rs := [1, 9]) (by kernel_rfl) (by simp) ?_
            refine AllReadyH.cons rfl (fun K9 hK9 => ?_) (AllReadyH.cons rfl (fun K9 hK9 => ?_) AllReadyH.nil)
            · go_simp
              refine hK9.out _ _ ⟨a4, aL⟩ (fun hHeld2 => ?_)
              clear hK9 K9
              refine wpAnyH_ready (rs := [9]) (by kernel_rfl) (by simp) ?_
              refine AllReadyH.cons rfl (fun K9 hK9 => ?_) AllReadyH.nil
              refine step_app rfl _ _ 52 rfl _ _ _ _ rfl rfl e9' ?_
              simp only [Act.put, List.getElem_toArray, List.getElem_cons_zero, List.getElem_cons_succ, List.setIfInBounds_toArray, List.set_cons_zero, List.set_cons_succ]
              refine hK9.out _ _ ⟨b4, bL⟩ (fun hHeld2 => ?_)
              clear hK9 K9
              refine wpAnyH_ready (rs := [10]) (by kernel_rfl) (by simp) ?_
              refine AllReadyH.cons rfl (fun K9 hK9 => ?_) AllReadyH.nil
              go_simp
              refine hK9.out _ _ ⟨c4, cL⟩ (fun hHeld2 => ?_)
              clear hK9 K9
              refine wpAnyH_ready (rs := [11]) (by kernel_rfl) (by simp) ?_
              refine AllReadyH.cons rfl (fun K9 hK9 => ?_) AllReadyH.nil
              refine step_app rfl _ _ 36 rfl _ _ _ _ rfl rfl e11 ?_
              simp only [Act.put, List.getElem_toArray, List.getElem_cons_zero, List.getElem_cons_succ, List.setIfInBounds_toArray, List.set_cons_zero, List.set_cons_succ]
              refine hK9.out _ _ ⟨d4, dL⟩ (fun hHeld2 => ?_)
              clear hK9 K9
              refine wpAnyH_take (i := 12) (v := ?_) rfl (by kernel_rfl) (by kernel_rfl) (by kernel_rfl) (fun _ _ _ h => h) (Or.inl ⟨by rfl, ?_⟩) (by assumption) ?_
              rotate_left
              · intro w hSw
                try dsimp only at hSw
                go_simp
                all_goals with_reducible rfl
              simp only [Act.put, List.getElem_toArray, List.getElem_cons_zero, List.getElem_cons_succ, List.setIfInBounds_toArray, List.set_cons_zero, List.set_cons_succ]
              refine wpAnyH_ready (rs := [13]) (by kernel_rfl) (by simp) ?_
              refine AllReadyH.cons rfl (fun K9 hK9 => ?_) AllReadyH.nil
              go_simp
              refine hK9.out _ _ ⟨f4, fL⟩ (fun hHeld2 => ?_)
              clear hK9 K9
              refine wpAnyH_done (by kernel_rfl) ?_ _
              go_wp2
              obtain ⟨f2, G2, q1, q2, q3, q4, q5⟩ := HQ.out _ rfl
              exact ⟨⟨k + 1, _, f2, G2, by omega, by go_num, q1, q2, q3, q4, q5⟩, by simp [intOf]; omega⟩
            · refine step_app rfl _ _ 52 rfl _ _ _ _ rfl rfl e9' ?_
              simp only [Act.put, List.getElem_toArray, List.getElem_cons_zero, List.getElem_cons_succ, List.setIfInBounds_toArray, List.set_cons_zero, List.set_cons_succ]
              refine hK9.out _ _ ⟨b4, bL⟩ (fun hHeld2 => ?_)
              clear hK9 K9
              refine wpAnyH_ready (rs := [1, 10]) (by kernel_rfl) (by simp) ?_
              refine AllReadyH.cons rfl (fun K9 hK9 => ?_) (AllReadyH.cons rfl (fun K9 hK9 => ?_) AllReadyH.nil)
              · go_simp
                refine hK9.out _ _ ⟨b4, bL⟩ (fun hHeld2 => ?_)
                clear hK9 K9
                refine wpAnyH_ready (rs := [10]) (by kernel_rfl) (by simp) ?_
                refine AllReadyH.cons rfl (fun K9 hK9 => ?_) AllReadyH.nil
                go_simp
                refine hK9.out _ _ ⟨c4, cL⟩ (fun hHeld2 => ?_)
                clear hK9 K9
                refine wpAnyH_ready (rs := [11]) (by kernel_rfl) (by simp) ?_
                refine AllReadyH.cons rfl (fun K9 hK9 => ?_) AllReadyH.nil
                refine step_app rfl _ _ 36 rfl _ _ _ _ rfl rfl e11 ?_
                simp only [Act.put, List.getElem_toArray, List.getElem_cons_zero, List.getElem_cons_succ, List.setIfInBounds_toArray, List.set_cons_zero, List.set_cons_succ]
                refine hK9.out _ _ ⟨d4, dL⟩ (fun hHeld2 => ?_)
                clear hK9 K9
                refine wpAnyH_take (i := 12) (v := ?_) rfl (by kernel_rfl) (by kernel_rfl) (by kernel_rfl) (fun _ _ _ h => h) (Or.inl ⟨by rfl, ?_⟩) (by assumption) ?_
                rotate_left
                · intro w hSw
                  try dsimp only at hSw
                  go_simp
                  all_goals with_reducible rfl
                simp only [Act.put, List.getElem_toArray, List.getElem_cons_zero, List.getElem_cons_succ, List.setIfInBounds_toArray, List.set_cons_zero, List.set_cons_succ]
                refine wpAnyH_ready (rs := [13]) (by kernel_rfl) (by simp) ?_
                refine AllReadyH.cons rfl (fun K9 hK9 => ?_) AllReadyH.nil
                go_simp
                refine hK9.out _ _ ⟨f4, fL⟩ (fun hHeld2 => ?_)
                clear hK9 K9
                refine wpAnyH_done (by kernel_rfl) ?_ _
                go_wp2
                obtain ⟨f2, G2, q1, q2, q3, q4, q5⟩ := HQ.out _ rfl
                exact ⟨⟨k + 1, _, f2, G2, by omega, by go_num, q1, q2, q3, q4, q5⟩, by simp [intOf]; omega⟩
              · go_simp
                refine hK9.out _ _ ⟨c4, cL⟩ (fun hHeld2 => ?_)
                clear hK9 K9
                refine wpAnyH_ready (rs := [1]) (by kernel_rfl) (by simp) ?_
                refine AllReadyH.cons rfl (fun K9 hK9 => ?_) AllReadyH.nil
                go_simp
                refine hK9.out _ _ ⟨c4, cL⟩ (fun hHeld2 => ?_)
                clear hK9 K9
                refine wpAnyH_ready (rs := [11]) (by kernel_rfl) (by simp) ?_
                refine AllReadyH.cons rfl (fun K9 hK9 => ?_) AllReadyH.nil
                refine step_app rfl _ _ 36 rfl _ _ _ _ rfl rfl e11 ?_
                simp only [Act.put, List.getElem_toArray, List.getElem_cons_zero, List.getElem_cons_succ, List.setIfInBounds_toArray, List.set_cons_zero, List.set_cons_succ]
                refine hK9.out _ _ ⟨d4, dL⟩ (fun hHeld2 => ?_)
                clear hK9 K9
                refine wpAnyH_take (i := 12) (v := ?_) rfl (by kernel_rfl) (by kernel_rfl) (by kernel_rfl) (fun _ _ _ h => h) (Or.inl ⟨by rfl, ?_⟩) (by assumption) ?_
                rotate_left
                · intro w hSw
                  try dsimp only at hSw
                  go_simp
                  all_goals with_reducible rfl
                simp only [Act.put, List.getElem_toArray, List.getElem_cons_zero, List.getElem_cons_succ, List.setIfInBounds_toArray, List.set_cons_zero, List.set_cons_succ]
                refine wpAnyH_ready (rs := [13]) (by kernel_rfl) (by simp) ?_
                refine AllReadyH.cons rfl (fun K9 hK9 => ?_) AllReadyH.nil
                go_simp
                refine hK9.out _ _ ⟨f4, fL⟩ (fun hHeld2 => ?_)
                clear hK9 K9
                refine wpAnyH_done (by kernel_rfl) ?_ _
                go_wp2
                obtain ⟨f2, G2, q1, q2, q3, q4, q5⟩ := HQ.out _ rfl
                exact ⟨⟨k + 1, _, f2, G2, by omega, by go_num, q1, q2, q3, q4, q5⟩, by simp [intOf]; omega⟩
    · obtain rfl : n = k := by omega
      obtain ⟨ao, gc, rfl, _⟩ := hG.pc
      obtain ⟨⟨v0, v1, v2, v3, v4⟩, _⟩ := five hY
      obtain ⟨⟨r0, r1, r2, r3, r4⟩, ⟨s0, s1, s2, s3, s4⟩⟩ := five hR
      have HZ := Hid.mk (And.intro hGb (And.intro hY (And.intro hG (And.intro hrows (And.intro hkr (And.intro hR hlst))))))
      clear hGb hY hG hrows hkr hR hlst hX nX nR nL hb
      go_wp2
      obtain ⟨hGb, hY, hG, hrows, hkr, hR, hlst⟩ := HZ.out
      have hb := HB.out
      have q5 := set5 (.int .i64 W) (.int .i64 H) (.int .i64 D) (.bool A) (.slice ao n gc) hR
      have hk2 : Kept (rbs bs n) w _ := (P1.out.2.2.mono (l2 := rbs bs n) (by simp)).step hkr (fun x hx => by
        rcases List.mem_cons.1 hx with h | h
        · right; omega
        · exact .inl h)
      have hk3 := hk2.step q5.2 (fun x hx => by simp at hx; right; omega)
      have hG5 := hG.keep q5.2 (fun x hx => by simp at hx; omega)
      obtain ⟨ao2, c2, e2, hpc⟩ := hG5.pc
      simp only [Value.slice.injEq, true_and] at e2
      obtain ⟨rfl, rfl⟩ := e2
      refine bodyPost_ret (v := frv W H D A ao n gc) ?_ rfl ⟨ao, gc, G, rfl, hGb, ?_, fun w2 ks hks hlo => ?_, hk3⟩
      · exact results_cell_row rfl _ _ RB 38 _ (0, 0) _ rfl q5.1 Try.underlying38 rfl Try.info38
      · have hL := HL.out
        refine ⟨q5.2.heap hlst (by simp; omega), ⟨hk3.row hL.all.own (fun g hg hm => ?_), fun i hi => (hrows i hi).keep q5.2 (by have := hb.2.2.2.2.2.1 i hi; simp; omega), hL.all.mon, hL.all.lo⟩, hL.new, hL.oth, hL.kept.step hk3 (fun x hx => ?_)⟩
        · obtain ⟨i, hi, e⟩ := mem_rbs.1 hm
          rw [← e] at hg
          exact own_row hL.all.own (hL.all.row i hi) hg
        · obtain ⟨i, hi, e⟩ := mem_rbs.1 hx
          rw [← e]
          exact .inr (hL.all.lo i hi)
      · obtain ⟨ao3, c3, e3, hpc3⟩ := (hG5.keep hks (fun x hx => by have := hlo x hx; omega)).pc
        simp only [Value.slice.injEq, true_and] at e3
        obtain ⟨rfl, rfl⟩ := e3
        exact hpc3
end Go.Proofs.Ythihennifigchaa
