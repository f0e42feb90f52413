import Derived.Test.YthhegomjipbdbaaGreatDoorpKZ
namespace Go.Proofs.YthhegomjipbdbaaGreatDoor.Pc
open Go.RowKit

/-- Values that are read. -/
def Vals (w : World) (ao : Option Addr) (ys : List Value) : Prop := ys = [] ∨ ∃ g off, ao = some ⟨g, off, none⟩ ∧ ∀ j, j < ys.length → w.cell? ⟨g, off + j, none⟩ = some (ys.getD j undef)
theorem Vals.keep {w w' : World} {ao : Option Addr} {ys : List Value} (h : Vals w ao ys) (hk : Kept [] w w') : Vals w' ao ys := by
  rcases h with h | ⟨g, off, e, hc⟩
  · exact .inl h
  · exact .inr ⟨g, off, e, fun j hj => Tl.cell_keep hk (hc j hj) (by simp)⟩
theorem wpList_appV (w : World) {ops : Array Oper} {rest : List Oper} {o : Oper} {a : Act} {Q : Exit → Act → World → Prop} (hgd : o.guard = none) (s x : Operand) (t : TypeId)
    (ho : o.op = .call { callee := .builtin .append, args := #[s, x], argTypes := #[t, t] }) (B e : Nat) (i : TypeInfo) (z : Value) (by_ : Nat) (ht : Tryz.prog.underlying t = some (.slice e)) (hi : Tryz.prog.info? e = some i) (hz : i.zero = some z) (hsize : i.size = 1) (hby : i.bytes = by_) (hzs : z.cells.size = 1)
    (v : Value) (n : Nat) (xs : List Value) (hs : a.eval s = v) (hown : w.ownsRow B e 1 v n xs) (so : Option Addr) (m c : Nat) (ys : List Value) (hx : a.eval x = .slice so m c) (hr : Vals w so ys) (hm : ys.length = m) (hc : so = none → c = 0) (h1 : ∀ u ∈ ys, u.oneCell' = true) (hB : B ≤ w.heap.size)
    (h63 : n + m ≤ maxLen) (hb : (n + m) * by_ ≤ 140737488355328)
    (h : ∀ v' w', w'.ownsRow B e 1 v' (n + m) (xs ++ ys) → Kept v.ownBlock.toList w w' → wpList Tryz.prog ops Q rest (a.put o.dst v') w') :
    wpList Tryz.prog ops Q (o :: rest) a w := by
  cases so with
  | none =>
    have hl : ys = [] := by
      rcases hr with h | ⟨g, off, h, _⟩
      · exact h
      · cases h
    subst hl
    obtain rfl : c = 0 := hc rfl
    obtain rfl : m = 0 := hm.symm
    refine wpList_plain hgd fun K hK => ?_
    have hrun := run_append_owned_none (P := Tryz.prog) (w := w) B t o.type e i 1 ht hi v n xs hown
    unfold Oper.wp execOp
    simp only [ho, resolve, invoke, builtin, Sem.run_bind, Sem.run_pure, Result.andThen_ok, List.map_toArray, List.map_cons, List.map_nil, hs, hx, hrun]
    exact hK _ _ (h v w (by simpa using hown) (Kept.refl _ _))
  | some ad =>
    refine wpList_append_own_at w hgd s x t ho B e i z 1 by_ ht hi hz hsize hby hzs (by decide) v n xs hs hown ad m c ys hx (by omega) (fun j u hj => ?_) h1 h63 hb hB ?_
    · rcases hr with h | ⟨g, off, h, hcc⟩
      · subst h; simp at hj
      · cases h
        have hlt : j < ys.length := by
          rcases Nat.lt_or_ge j ys.length with h | h
          · exact h
          · rw [List.getElem?_eq_none h] at hj; cases hj
        have h1 := hcc j hlt
        rw [List.getD_eq_getElem?_getD, hj] at h1
        by_cases j0 : j = 0
        · subst j0; simpa [Addr.add] using h1
        · simpa [Addr.add, j0] using h1
    intro v' w' h2 h3 _ h5
    exact h v' w' h2 (Kept.of_grown h3)
/-- Pieces that are read. -/
def Vcs (w : World) (ao : Option Addr) (P : List (List Value)) : Prop := P = [] ∨ ∃ g off, ao = some ⟨g, off, none⟩ ∧ ∀ i, i < P.length → ∃ bo cap, w.cell? ⟨g, off + i, none⟩ = some (.slice bo (P.getD i []).length cap) ∧ (bo = none → cap = 0) ∧ Vals w bo (P.getD i [])
theorem Vcs.keep {w w' : World} {ao : Option Addr} {P : List (List Value)} (h : Vcs w ao P) (hk : Kept [] w w') : Vcs w' ao P := by
  rcases h with h | ⟨g, off, e, hc⟩
  · exact .inl h
  · exact .inr ⟨g, off, e, fun j hj => by obtain ⟨bo, cap, h1, h2, h3⟩ := hc j hj; exact ⟨bo, cap, Tl.cell_keep hk h1 (by simp), h2, h3.keep hk⟩⟩
theorem Vcs.at {w : World} {ao : Option Addr} {P : List (List Value)} (h : Vcs w ao P) {i : Nat} (hi : i < P.length) : ∃ g off bo cap, ao = some ⟨g, off, none⟩ ∧ w.cell? ⟨g, off + i, none⟩ = some (.slice bo (P.getD i []).length cap) ∧ (bo = none → cap = 0) ∧ Vals w bo (P.getD i []) := by
  rcases h with h | ⟨g, off, e, hc⟩
  · subst h; simp at hi
  · obtain ⟨bo, cap, h1, h2, h3⟩ := hc i hi
    exact ⟨g, off, bo, cap, e, h1, h2, h3⟩
/-- The first k pieces, one behind the other. -/
def cat (P : List (List Value)) : Nat → List Value
  | 0 => []
  | k + 1 => cat P k ++ P.getD k []
theorem cat_le {P : List (List Value)} {T : Nat} (h : (cat P P.length).length ≤ T) {k : Nat} (hk : k ≤ P.length) : (cat P k).length ≤ T := by
  have : ∀ j, k + j ≤ P.length → (cat P k).length ≤ (cat P (k + j)).length := by
    intro j
    induction j with
    | zero => intro _; exact Nat.le_refl _
    | succ j ih => intro hj; have := ih (by omega); rw [← Nat.add_assoc]; simp only [cat, List.length_append]; omega
  have h9 := this (P.length - k) (by omega)
  rw [show k + (P.length - k) = P.length by omega] at h9
  omega

theorem Tryz.infoGB : (Tryz.prog.info? 5).map (fun i => (i.zero, i.size, i.bytes)) = some (some (.int .u8 0), 1, 1) := by kernel_rfl
set_option maxHeartbeats 4000000 in
set_option maxRecDepth 1000000 in
theorem growB (n : Nat) (hn : n ≤ 1000000000) (w : World) :
    Calls Tryz.prog 121 #[.slice none 0 0, .int .i64 (n : Int)] w fun e w' => ∃ V, e = .returned V ∧ w'.ownsRow w.heap.size 5 1 V 0 [] ∧ Kept [] w w' := by
  obtain ⟨i0, hi, hz0, hz1, hz2⟩ := info_parts Tryz.infoGB
  by_cases h0 : n = 0
  · subst h0
    go_enter Tryz.func121, Tryz.ntmps121
    go_wp2
    go_ret
    exact ⟨_, rfl, ⟨rfl, .inl ⟨rfl, rfl⟩⟩, Kept.refl _ _⟩
  · have hpos : decide ((0 : Int) < (n : Int)) = true := by simp; omega
    have hneg : decide ((n : Int) < 0) = false := by simp
    have H0 : Hid (w.ownsRow w.heap.size 5 1 (.slice none 0 0) 0 []) := Hid.mk ⟨rfl, .inl ⟨rfl, rfl⟩⟩
    have hno : ¬ 281474976710656 < Builtin.nextslicecap n 0 * Tryz.t5.bytes := by
      have h1 : Builtin.nextslicecap n 0 = n := by unfold Builtin.nextslicecap; rw [if_pos (by omega)]
      have h2 : Tryz.t5.bytes = 1 := rfl
      rw [h1, h2]; omega
    have hyes : (n : Int) * (Tryz.t5.bytes : Int) ≤ 281474976710656 := by
      have h2 : Tryz.t5.bytes = 1 := rfl
      rw [h2]; omega
    go_enter Tryz.func121, Tryz.ntmps121
    go_wp2
    have hge := grownCap_ge w n 0 5
    have hle := grownCap_le_maxLen w n 0 5 (by unfold maxLen; omega)
    go_ret
    refine ⟨_, rfl, ⟨rfl, .inr ⟨w.heap.size, grownCap w n 0 5, _, rfl, Nat.le_refl _, heap_alloc_new _ _, Nat.zero_le _, hle, ?_, by simp⟩⟩, ((Kept.refl _ _).alloc _).drew⟩
    rw [Array.size_append, size_zeroCells, size_zeroCells]
    show n * 1 + (grownCap w n 0 5 - n) * 1 = grownCap w n 0 5 * 1
    omega

set_option maxHeartbeats 8000000 in
set_option maxRecDepth 1000000 in
theorem concatB (ao : Option Addr) (N ca T : Nat) (P : List (List Value)) (w : World) (hP : Vcs w ao P) (hN : P.length = N) (hN2 : N ≤ 1000000) (hT : (cat P N).length = T) (hT2 : T ≤ 900000000) (h1 : ∀ i, i < N → ∀ u ∈ P.getD i [], u.oneCell' = true) :
    Calls Tryz.prog 97 #[.slice ao N ca] w fun e w' => ∃ V, e = .returned V ∧ w'.ownsRow w.heap.size 5 1 V T (cat P N) ∧ Kept [] w w' := by
  obtain ⟨i0, hi, hz0, hz1, hz2⟩ := info_parts Tryz.infoGB
  have HP := Hid.mk hP
  have HN := Hid.mk hN
  have HT := Hid.mk hT
  have H1 := Hid.mk h1
  have HLE : Hid (∀ k, k ≤ N → (cat P k).length ≤ T) := Hid.mk (fun k hk => cat_le (by rw [hN, hT]; exact Nat.le_refl _) (by omega))
  have C := Hid.mk (fun u => growB T (by omega) u)
  obtain ⟨S, eS⟩ : ∃ S, w.heap.size = S := ⟨_, rfl⟩
  have ES := Hid.mk eS
  have HT2 := Hid.mk hT2
  clear hP hN hT h1 eS hT2
  go_enter Tryz.func97, Tryz.ntmps97
  go_wp2
  go_loopw [3, 11] (fun t i wr => ∃ k y : Nat, k ≤ N ∧ i = .int .i64 (k : Int) ∧ t = .int .i64 (y : Int) ∧ wr = w ∧ Hid (y = (cat P k).length)) (fun _ i _ => N - (intOf i).toNat)
  case atStart => exact ⟨0, 0, Nat.zero_le _, rfl, rfl, rfl, Hid.mk rfl⟩
  case round =>
    obtain ⟨k, y, hk, rfl, rfl, hw, HI⟩ := hrel
    obtain rfl := hw.symm
    by_cases hlt : k < N
    · obtain ⟨g, off, bo, cap, rfl, hc, -, -⟩ := HP.out.at (i := k) (by rw [HN.out]; exact hlt)
      have ik : (k : Int) < (N : Int) := by omega
      have HS : Hid ((cat P (k + 1)).length = (cat P k).length + (P.getD k []).length) := Hid.mk (by simp [cat])
      have HB := Hid.mk (HLE.out (k + 1) (by omega))
      obtain ⟨x, ex⟩ : ∃ x, (P.getD k []).length = x := ⟨_, rfl⟩
      rw [ex] at hc HS
      obtain ⟨z, ez⟩ : ∃ z, y + x = z := ⟨_, rfl⟩
      have HZ : Hid (z ≤ 900000000) := Hid.mk (by have := HB.out; have := HS.out; have := HI.out; have := HT2.out; omega)
      have hz : wrap64 ((y : Int) + (x : Int)) = (z : Int) := by
        have h9 := HZ.out
        rw [← Int.natCast_add, ez]; exact Tl.w64_in (by omega) (by omega)
      have dz : decide ((z : Int) < 0) = false := by simp
      have EZ := Hid.mk ez
      clear ex ez
      go_wp2
      (try rw [hz])
      clear hz
      go_roundw
      case rel => exact ⟨k + 1, z, by omega, by go_num, rfl, by first | rfl | trivial, Hid.mk (by have := EZ.out; have := HS.out; have := HI.out; omega)⟩
      case measure => simp [intOf]; omega
    · obtain rfl : N = k := by omega
      have HY : Hid (y = T) := Hid.mk (by rw [HI.out, HT.out])
      obtain rfl := HY.out
      clear hk hlt
      go_wp2_with (fail)
      refine (C.out _).mono ?_
      rintro e w1 ⟨V, rfl, hV, k1⟩
      rw [ES.out] at hV
      have HV := Hid.mk hV
      have K1 := Hid.mk k1
      clear hV k1
      go_wp2
      go_loopw [6, 27] (fun v i wr => ∃ k m : Nat, k ≤ N ∧ i = .int .i64 (k : Int) ∧ Hid (m = (cat P k).length ∧ wr.ownsRow S 5 1 v m (cat P k) ∧ Kept [] w wr)) (fun _ i _ => N - (intOf i).toNat)
      case atStart => exact ⟨0, 0, Nat.zero_le _, rfl, Hid.mk ⟨rfl, HV.out, K1.out⟩⟩
      case round =>
        obtain ⟨k, m, hk, rfl, HI⟩ := hrel
        by_cases hlt : k < N
        · obtain ⟨g, off, bo, cap, rfl, hc, hc2, hc3⟩ := (HP.out.keep HI.out.2.2).at (i := k) (by rw [HN.out]; exact hlt)
          have ik : (k : Int) < (N : Int) := by omega
          have HS : Hid ((cat P (k + 1)).length = (cat P k).length + (P.getD k []).length) := Hid.mk (by simp [cat])
          have HB := Hid.mk (HLE.out (k + 1) (by omega))
          have HU := Hid.mk (H1.out k hlt)
          have HV3 := Hid.mk hc3
          have HC2 := Hid.mk hc2
          obtain ⟨x, ex⟩ : ∃ x, (P.getD k []).length = x := ⟨_, rfl⟩
          rw [ex] at hc HS
          have EX := Hid.mk ex
          have HZ : Hid (m + x ≤ 900000000) := Hid.mk (by have := HB.out; have := HS.out; have := HI.out.1; have := HT2.out; omega)
          have HSw : Hid (S ≤ wr.heap.size) := Hid.mk (by rw [← ES.out]; exact HI.out.2.2.size)
          have Hlo : Hid (∀ z, u6.ownBlock = some z → S ≤ z) := Hid.mk (fun z hz => (own_lo HI.out.2.1 hz).1)
          clear ex hc3 hc2
          go_wp2_with (at_builtin; refine wpList_appV wr rfl _ _ 28 rfl S 5 i0 (.int .u8 0) 1 Tryz.underlying28 hi hz0 hz1 hz2 rfl u6 m _ rfl HI.out.2.1 bo x cap (P.getD k []) rfl HV3.out EX.out HC2.out HU.out HSw.out (by have := HZ.out; unfold maxLen; omega) (by have := HZ.out; omega) ?_; intro v' w' h2 h3)
          have HO := Hid.mk h2
          have K3 : Hid (Kept [] w w') := Hid.mk (HI.out.2.2.step h3 (fun z hz => .inr (by rw [ES.out]; exact Hlo.out z (by simpa using hz))))
          clear h2 h3
          go_roundw
          case rel => exact ⟨k + 1, m + x, by omega, by go_num, Hid.mk ⟨by have := HS.out; have := HI.out.1; omega, HO.out, K3.out⟩⟩
          case measure => simp [intOf]; omega
        · obtain rfl : N = k := by omega
          have HE : Hid (wr.ownsRow S 5 1 u6 y (cat P N)) := Hid.mk (by rw [HT.out.symm, ← HI.out.1]; exact HI.out.2.1)
          have HKE := Hid.mk HI.out.2.2
          clear hk hlt HI
          go_wp2
          go_ret
          exact ⟨_, rfl, by rw [ES.out]; exact HE.out, HKE.out⟩

theorem Tryz.infoGR : (Tryz.prog.info? 28).map (fun i => (i.zero, i.size, i.bytes)) = some (some (.slice none 0 0), 1, 24) := by kernel_rfl
set_option maxHeartbeats 4000000 in
set_option maxRecDepth 1000000 in
theorem growR (n : Nat) (hn : n ≤ 1000000000) (w : World) :
    Calls Tryz.prog 122 #[.slice none 0 0, .int .i64 (n : Int)] w fun e w' => ∃ V, e = .returned V ∧ w'.ownsRow w.heap.size 28 1 V 0 [] ∧ Kept [] w w' := by
  obtain ⟨i0, hi, hz0, hz1, hz2⟩ := info_parts Tryz.infoGR
  by_cases h0 : n = 0
  · subst h0
    go_enter Tryz.func122, Tryz.ntmps122
    go_wp2
    go_ret
    exact ⟨_, rfl, ⟨rfl, .inl ⟨rfl, rfl⟩⟩, Kept.refl _ _⟩
  · have hpos : decide ((0 : Int) < (n : Int)) = true := by simp; omega
    have hneg : decide ((n : Int) < 0) = false := by simp
    have H0 : Hid (w.ownsRow w.heap.size 28 1 (.slice none 0 0) 0 []) := Hid.mk ⟨rfl, .inl ⟨rfl, rfl⟩⟩
    have hno : ¬ 281474976710656 < Builtin.nextslicecap n 0 * Tryz.t28.bytes := by
      have h1 : Builtin.nextslicecap n 0 = n := by unfold Builtin.nextslicecap; rw [if_pos (by omega)]
      have h2 : Tryz.t28.bytes = 24 := rfl
      rw [h1, h2]; omega
    have hyes : (n : Int) * (Tryz.t28.bytes : Int) ≤ 281474976710656 := by
      have h2 : Tryz.t28.bytes = 24 := rfl
      rw [h2]; omega
    go_enter Tryz.func122, Tryz.ntmps122
    go_wp2
    have hge := grownCap_ge w n 0 28
    have hle := grownCap_le_maxLen w n 0 28 (by unfold maxLen; omega)
    go_ret
    refine ⟨_, rfl, ⟨rfl, .inr ⟨w.heap.size, grownCap w n 0 28, _, rfl, Nat.le_refl _, heap_alloc_new _ _, Nat.zero_le _, hle, ?_, by simp⟩⟩, ((Kept.refl _ _).alloc _).drew⟩
    rw [Array.size_append, size_zeroCells, size_zeroCells]
    show n * 1 + (grownCap w n 0 28 - n) * 1 = grownCap w n 0 28 * 1
    omega

set_option maxHeartbeats 8000000 in
set_option maxRecDepth 1000000 in
theorem concatR (ao : Option Addr) (N ca T : Nat) (P : List (List Value)) (w : World) (hP : Vcs w ao P) (hN : P.length = N) (hN2 : N ≤ 1000000) (hT : (cat P N).length = T) (hT2 : T ≤ 900000000) (h1 : ∀ i, i < N → ∀ u ∈ P.getD i [], u.oneCell' = true) :
    Calls Tryz.prog 98 #[.slice ao N ca] w fun e w' => ∃ V, e = .returned V ∧ w'.ownsRow w.heap.size 28 1 V T (cat P N) ∧ Kept [] w w' := by
  obtain ⟨i0, hi, hz0, hz1, hz2⟩ := info_parts Tryz.infoGR
  have HP := Hid.mk hP
  have HN := Hid.mk hN
  have HT := Hid.mk hT
  have H1 := Hid.mk h1
  have HLE : Hid (∀ k, k ≤ N → (cat P k).length ≤ T) := Hid.mk (fun k hk => cat_le (by rw [hN, hT]; exact Nat.le_refl _) (by omega))
  have C := Hid.mk (fun u => growR T (by omega) u)
  obtain ⟨S, eS⟩ : ∃ S, w.heap.size = S := ⟨_, rfl⟩
  have ES := Hid.mk eS
  have HT2 := Hid.mk hT2
  clear hP hN hT h1 eS hT2
  go_enter Tryz.func98, Tryz.ntmps98
  go_wp2
  go_loopw [3, 11] (fun t i wr => ∃ k y : Nat, k ≤ N ∧ i = .int .i64 (k : Int) ∧ t = .int .i64 (y : Int) ∧ wr = w ∧ Hid (y = (cat P k).length)) (fun _ i _ => N - (intOf i).toNat)
  case atStart => exact ⟨0, 0, Nat.zero_le _, rfl, rfl, rfl, Hid.mk rfl⟩
  case round =>
    obtain ⟨k, y, hk, rfl, rfl, hw, HI⟩ := hrel
    obtain rfl := hw.symm
    by_cases hlt : k < N
    · obtain ⟨g, off, bo, cap, rfl, hc, -, -⟩ := HP.out.at (i := k) (by rw [HN.out]; exact hlt)
      have ik : (k : Int) < (N : Int) := by omega
      have HS : Hid ((cat P (k + 1)).length = (cat P k).length + (P.getD k []).length) := Hid.mk (by simp [cat])
      have HB := Hid.mk (HLE.out (k + 1) (by omega))
      obtain ⟨x, ex⟩ : ∃ x, (P.getD k []).length = x := ⟨_, rfl⟩
      rw [ex] at hc HS
      obtain ⟨z, ez⟩ : ∃ z, y + x = z := ⟨_, rfl⟩
      have HZ : Hid (z ≤ 900000000) := Hid.mk (by have := HB.out; have := HS.out; have := HI.out; have := HT2.out; omega)
      have hz : wrap64 ((y : Int) + (x : Int)) = (z : Int) := by
        have h9 := HZ.out
        rw [← Int.natCast_add, ez]; exact Tl.w64_in (by omega) (by omega)
      have dz : decide ((z : Int) < 0) = false := by simp
      have EZ := Hid.mk ez
      clear ex ez
      go_wp2
      (try rw [hz])
      clear hz
      go_roundw
      case rel => exact ⟨k + 1, z, by omega, by go_num, rfl, by first | rfl | trivial, Hid.mk (by have := EZ.out; have := HS.out; have := HI.out; omega)⟩
      case measure => simp [intOf]; omega
    · obtain rfl : N = k := by omega
      have HY : Hid (y = T) := Hid.mk (by rw [HI.out, HT.out])
      obtain rfl := HY.out
      clear hk hlt
      go_wp2_with (fail)
      refine (C.out _).mono ?_
      rintro e w1 ⟨V, rfl, hV, k1⟩
      rw [ES.out] at hV
      have HV := Hid.mk hV
      have K1 := Hid.mk k1
      clear hV k1
      go_wp2
      go_loopw [6, 27] (fun v i wr => ∃ k m : Nat, k ≤ N ∧ i = .int .i64 (k : Int) ∧ Hid (m = (cat P k).length ∧ wr.ownsRow S 28 1 v m (cat P k) ∧ Kept [] w wr)) (fun _ i _ => N - (intOf i).toNat)
      case atStart => exact ⟨0, 0, Nat.zero_le _, rfl, Hid.mk ⟨rfl, HV.out, K1.out⟩⟩
      case round =>
        obtain ⟨k, m, hk, rfl, HI⟩ := hrel
        by_cases hlt : k < N
        · obtain ⟨g, off, bo, cap, rfl, hc, hc2, hc3⟩ := (HP.out.keep HI.out.2.2).at (i := k) (by rw [HN.out]; exact hlt)
          have ik : (k : Int) < (N : Int) := by omega
          have HS : Hid ((cat P (k + 1)).length = (cat P k).length + (P.getD k []).length) := Hid.mk (by simp [cat])
          have HB := Hid.mk (HLE.out (k + 1) (by omega))
          have HU := Hid.mk (H1.out k hlt)
          have HV3 := Hid.mk hc3
          have HC2 := Hid.mk hc2
          obtain ⟨x, ex⟩ : ∃ x, (P.getD k []).length = x := ⟨_, rfl⟩
          rw [ex] at hc HS
          have EX := Hid.mk ex
          have HZ : Hid (m + x ≤ 900000000) := Hid.mk (by have := HB.out; have := HS.out; have := HI.out.1; have := HT2.out; omega)
          have HSw : Hid (S ≤ wr.heap.size) := Hid.mk (by rw [← ES.out]; exact HI.out.2.2.size)
          have Hlo : Hid (∀ z, u6.ownBlock = some z → S ≤ z) := Hid.mk (fun z hz => (own_lo HI.out.2.1 hz).1)
          clear ex hc3 hc2
          go_wp2_with (at_builtin; refine wpList_appV wr rfl _ _ 103 rfl S 28 i0 (.slice none 0 0) 24 Tryz.underlying103 hi hz0 hz1 hz2 rfl u6 m _ rfl HI.out.2.1 bo x cap (P.getD k []) rfl HV3.out EX.out HC2.out HU.out HSw.out (by have := HZ.out; unfold maxLen; omega) (by have := HZ.out; omega) ?_; intro v' w' h2 h3)
          have HO := Hid.mk h2
          have K3 : Hid (Kept [] w w') := Hid.mk (HI.out.2.2.step h3 (fun z hz => .inr (by rw [ES.out]; exact Hlo.out z (by simpa using hz))))
          clear h2 h3
          go_roundw
          case rel => exact ⟨k + 1, m + x, by omega, by go_num, Hid.mk ⟨by have := HS.out; have := HI.out.1; omega, HO.out, K3.out⟩⟩
          case measure => simp [intOf]; omega
        · obtain rfl : N = k := by omega
          have HE : Hid (wr.ownsRow S 28 1 u6 y (cat P N)) := Hid.mk (by rw [HT.out.symm, ← HI.out.1]; exact HI.out.2.1)
          have HKE := Hid.mk HI.out.2.2
          clear hk hlt HI
          go_wp2
          go_ret
          exact ⟨_, rfl, by rw [ES.out]; exact HE.out, HKE.out⟩
end Go.Proofs.YthhegomjipbdbaaGreatDoor.Pc

namespace Go.Proofs.YthhegomjipbdbaaGreatDoor.Pc
open Go.RowKit

theorem vals_of_reads {w : World} {bo : Option Addr} {l : List Nat} (h : Reads w bo l) : Vals w bo (l.map byt) := by
  rcases h with h | ⟨g, off, e, hc⟩
  · exact .inl (by rw [h]; rfl)
  · refine .inr ⟨g, off, e, fun j hj => ?_⟩
    have hj2 : j < l.length := by simpa using hj
    rw [hc j hj2, List.getD_eq_getElem?_getD, List.getD_eq_getElem?_getD, List.getElem?_map, List.getElem?_eq_getElem hj2]
    rfl
/-- Slices as values, and what they hold. -/
def SVs (w : World) (sv : List Value) (Q : List (List Nat)) : Prop := sv.length = Q.length ∧ ∀ i, i < Q.length → ∃ bo cap, sv.getD i undef = .slice bo (Q.getD i []).length cap ∧ (bo = none → cap = 0) ∧ Reads w bo (Q.getD i [])
theorem SVs.keep {w w' : World} {sv : List Value} {Q : List (List Nat)} (h : SVs w sv Q) (hk : Kept [] w w') : SVs w' sv Q :=
  ⟨h.1, fun i hi => by obtain ⟨bo, cap, h1, h2, h3⟩ := h.2 i hi; exact ⟨bo, cap, h1, h2, h3.keep hk⟩⟩
theorem getD_app {α : Type} (a b : List α) (d : α) (i : Nat) : (a ++ b).getD i d = if i < a.length then a.getD i d else b.getD (i - a.length) d := by
  simp only [List.getD_eq_getElem?_getD, List.getElem?_append]
  split <;> rfl
theorem SVs.app {w : World} {a b : List Value} {A B : List (List Nat)} (h : SVs w a A) (k : SVs w b B) : SVs w (a ++ b) (A ++ B) := by
  refine ⟨by rw [List.length_append, List.length_append, h.1, k.1], fun i hi => ?_⟩
  rw [getD_app, getD_app, h.1]
  by_cases h1 : i < A.length
  · rw [if_pos h1, if_pos h1]; exact h.2 i h1
  · rw [if_neg h1, if_neg h1]; exact k.2 _ (by rw [List.length_append] at hi; omega)
theorem SVs.nil (w : World) : SVs w [] [] := ⟨rfl, fun i hi => by simp at hi⟩
theorem SVs.one {w : World} {bo : Option Addr} {n cap : Nat} {l : List Nat} (h : Reads w bo l) (hn : l.length = n) (hc : bo = none → cap = 0) : SVs w [.slice bo n cap] [l] := by
  subst hn
  refine ⟨rfl, fun i hi => ?_⟩
  have : i = 0 := by simpa using hi
  subst this
  exact ⟨bo, cap, rfl, hc, h⟩
theorem own_none {w : World} {B e n c : Nat} {ao : Option Addr} {xs : List Value} (h : w.ownsRow B e 1 (.slice ao n c) n xs) : ao = none → c = 0 := by
  rintro rfl
  rcases h.2 with ⟨h1, _⟩ | ⟨g, cap, cur, h1, _⟩
  · cases h1; rfl
  · cases h1
/-- Rows that are read, as values. -/
theorem mc_vals {w : World} {go : Option Addr} {L : List (List Nat)} (h : Py.MC w go L) (hne : ∀ i, i < L.length → L.getD i [] ≠ []) : ∃ vs, SVs w vs L ∧ Vals w go vs := by
  rcases h with h | ⟨g, off, rfl, hc⟩
  · subst h; exact ⟨[], SVs.nil w, .inl rfl⟩
  · have h1 : ∀ i : Nat, ∃ q : Option Addr × Nat, i < L.length → w.cell? ⟨g, off + i, none⟩ = some (.slice q.1 (L.getD i []).length q.2) ∧ (q.1 = none → q.2 = 0) ∧ Reads w q.1 (L.getD i []) := fun i => by
      by_cases hi : i < L.length
      · obtain ⟨bo, cap, a1, a2, a3⟩ := hc i hi
        refine ⟨(bo, cap), fun _ => ⟨a1, fun hb => ?_, a3⟩⟩
        rcases a3 with h | ⟨g', o', h, _⟩
        · exact absurd h (hne i hi)
        · simp only at hb; rw [hb] at h; cases h
      · exact ⟨(none, 0), fun h => absurd h hi⟩
    obtain ⟨q, hq⟩ := Classical.axiomOfChoice h1
    have hl : ((List.range L.length).map fun i => Value.slice (q i).1 (L.getD i []).length (q i).2).length = L.length := by simp
    have hg : ∀ i, i < L.length → ((List.range L.length).map fun i => Value.slice (q i).1 (L.getD i []).length (q i).2).getD i undef = .slice (q i).1 (L.getD i []).length (q i).2 := fun i hi => by
      rw [List.getD_eq_getElem?_getD, List.getElem?_map, List.getElem?_range hi]; rfl
    refine ⟨(List.range L.length).map fun i => .slice (q i).1 (L.getD i []).length (q i).2, ⟨hl, fun i hi => ⟨(q i).1, (q i).2, hg i hi, (hq i hi).2.1, (hq i hi).2.2⟩⟩, .inr ⟨g, off, rfl, fun j hj => ?_⟩⟩
    rw [hl] at hj
    rw [hg j hj]
    exact (hq j hj).1
theorem SVs.vcs {w : World} {sv : List Value} {Q : List (List Nat)} {B c g : Nat} (h : SVs w sv Q) (ho : w.ownsRow B 28 1 (.slice (some ⟨g, 0, none⟩) sv.length c) sv.length sv) : Vcs w (some ⟨g, 0, none⟩) (Q.map fun l => l.map byt) := by
  refine .inr ⟨g, 0, rfl, fun i hi => ?_⟩
  rw [List.length_map] at hi
  obtain ⟨bo, cap, h1, h2, h3⟩ := h.2 i hi
  have e : (Q.map fun l => l.map byt).getD i [] = (Q.getD i []).map byt := by
    rw [List.getD_eq_getElem?_getD, List.getD_eq_getElem?_getD, List.getElem?_map, List.getElem?_eq_getElem hi]; rfl
  rw [e, List.length_map]
  refine ⟨bo, cap, ?_, h2, vals_of_reads h3⟩
  have hs : i < sv.length := by rw [h.1]; exact hi
  have h4 : sv[i]? = some (.slice bo (Q.getD i []).length cap) := by
    rw [← h1, List.getD_eq_getElem?_getD, List.getElem?_eq_getElem hs]; rfl
  have h5 := ho.cells rfl i _ h4
  rw [Nat.zero_add]
  by_cases i0 : i = 0
  · subst i0; simpa [Addr.add] using h5
  · simpa [Addr.add, i0] using h5
theorem cat_take (P : List (List Value)) (k : Nat) : cat P k = (P.take k).flatten := by
  induction k with
  | zero => rfl
  | succ k ih =>
    simp only [cat]
    rw [ih, List.take_add_one, List.flatten_append, List.getD_eq_getElem?_getD]
    cases P[k]? <;> simp
theorem cat_all (P : List (List Value)) : cat P P.length = P.flatten := by rw [cat_take, List.take_length]
/-- A record's bytes. -/
def recB (W H D sw sh : Nat) (A : Bool) (r : Nat → Nat) (p : Nat) (L R : List (List Nat)) : List Nat :=
  hdB W H D sw sh A r L.length p (rcl (lnf L) L.length p) ++ (tbB L R ++ (L.flatten ++ R.flatten))

set_option maxHeartbeats 8000000 in
set_option maxRecDepth 1000000 in
theorem record_any (W H D sw sh : Nat) (A : Bool) (r : Nat → Nat) (N p ln : Nat) (go : Option Addr) (gc : Nat) (L R : List (List Nat)) (w : World)
    (hL : Py.MC w go L) (hgn : go = none → gc = 0) (hN : L.length = N) (h1 : 1 ≤ N) (h2 : N ≤ 70000) (hp : R.length = p) (hp2 : p ≤ 16) (hl : ∀ i, i < N → lnf L i ≤ 20000000) (hne : ∀ i, i < L.length → L.getD i [] ≠ []) (bL : ∀ i, i < N → Byts (L.getD i [])) (bR : ∀ i, i < p → Byts (R.getD i [])) (lR : ∀ i, i < p → (R.getD i []).length ≤ 20000000)
    (hW : W < 65536) (hH : H < 65536) (hD : D < 256) (hsw : sw < 65536) (hsh : sh < 65536) (hr : ∀ i, i < 4 → r i < 256) (hln : ln = rcl (lnf L) N p) (hln2 : ln ≤ 134217727) (hlen : (recB W H D sw sh A r p L R).length = ln)
    (HM : 1 ≤ p → ∀ u, Kept [] w u → Calls Tryz.prog 95 #[.slice go N gc, .int .i64 (p : Int)] u fun e w' => ∃ ro, e = .returned (.tuple #[.slice ro p p, .int .i64 0]) ∧ ro ≠ none ∧ Py.MC w' ro R ∧ (∀ i, i < R.length → R.getD i [] ≠ []) ∧ Kept [] u w') :
    Calls Tryz.prog 73 #[.agg #[.int .i64 (W : Int), .int .i64 (H : Int), .int .i64 (D : Int), .bool A, .int .i64 (sw : Int), .int .i64 (sh : Int), .int .i64 (r 0 : Int), .int .i64 (r 1 : Int), .int .i64 (r 2 : Int), .int .i64 (r 3 : Int), .int .i64 (N : Int), .int .i64 (p : Int), .int .i64 (ln : Int), .slice go N gc]] w fun e w' => ∃ V, e = .returned V ∧ w'.ownsRow w.heap.size 5 1 V ln ((recB W H D sw sh A r p L R).map byt) ∧ Kept [] w w' := by
  obtain ⟨w1, e1⟩ : ∃ w1, w.alloc (.cells #[.int .i64 (W : Int), .int .i64 (H : Int), .int .i64 (D : Int), .bool A, .int .i64 (sw : Int), .int .i64 (sh : Int), .int .i64 (r 0 : Int), .int .i64 (r 1 : Int), .int .i64 (r 2 : Int), .int .i64 (r 3 : Int), .int .i64 (N : Int), .int .i64 (p : Int), .int .i64 (ln : Int), .slice go N gc] 105 (0, 0)) = w1 := ⟨_, rfl⟩
  obtain ⟨B, eB⟩ : ∃ B, w.heap.size = B := ⟨_, rfl⟩
  have k1 : Kept [] w w1 := by rw [← e1]; exact (Kept.refl [] w).alloc _
  have hb : w1.heap[B]? = some (.cells #[.int .i64 (W : Int), .int .i64 (H : Int), .int .i64 (D : Int), .bool A, .int .i64 (sw : Int), .int .i64 (sh : Int), .int .i64 (r 0 : Int), .int .i64 (r 1 : Int), .int .i64 (r 2 : Int), .int .i64 (r 3 : Int), .int .i64 (N : Int), .int .i64 (p : Int), .int .i64 (ln : Int), .slice go N gc] 105 (0, 0)) := by rw [← e1, ← eB]; exact heap_alloc_new _ _
  have RK : Hid (∀ u, Kept [] w1 u → u.cell? ⟨B, 0, none⟩ = some (.int .i64 (W : Int)) ∧ u.cell? ⟨B, 1, none⟩ = some (.int .i64 (H : Int)) ∧ u.cell? ⟨B, 2, none⟩ = some (.int .i64 (D : Int)) ∧ u.cell? ⟨B, 3, none⟩ = some (.bool A) ∧ u.cell? ⟨B, 4, none⟩ = some (.int .i64 (sw : Int)) ∧ u.cell? ⟨B, 5, none⟩ = some (.int .i64 (sh : Int)) ∧ u.cell? ⟨B, 6, none⟩ = some (.int .i64 (r 0 : Int)) ∧ u.cell? ⟨B, 7, none⟩ = some (.int .i64 (r 1 : Int)) ∧ u.cell? ⟨B, 8, none⟩ = some (.int .i64 (r 2 : Int)) ∧ u.cell? ⟨B, 9, none⟩ = some (.int .i64 (r 3 : Int)) ∧ u.cell? ⟨B, 10, none⟩ = some (.int .i64 (N : Int)) ∧ u.cell? ⟨B, 11, none⟩ = some (.int .i64 (p : Int)) ∧ u.cell? ⟨B, 12, none⟩ = some (.int .i64 (ln : Int)) ∧ u.cell? ⟨B, 13, none⟩ = some (.slice go N gc)) := Hid.mk (fun u ku => cel14 (ku.heap hb (by simp)))
  have RK0 := RK.out w1 (Kept.refl _ _)
  have K1 := Hid.mk k1
  have HL := Hid.mk (hL.keep k1)
  have CM := Hid.mk (fun h9 => HM h9 w1 k1)
  have EB := Hid.mk eB
  have CH := Hid.mk (fun u => headBytes_any W H D sw sh A r N p ln u hW hH hD hsw hsh hr (by omega) (by omega) (by omega))
  have CT := Hid.mk (fun ro rc u (h8 : Py.MC u go L) (h9 : Py.MC u ro R) => tableBytes_any go ro N gc p rc L R u h8 hN h9 hp h2 hp2 hl bL bR lR)
  have HNE := Hid.mk hne
  have HGN := Hid.mk hgn
  have HNN := Hid.mk hN
  have HPP := Hid.mk hp
  have HLN := Hid.mk hlen
  have HL2 := Hid.mk hln2
  have HRB : Hid (recB W H D sw sh A r p L R = hdB W H D sw sh A r N p ln ++ (tbB L R ++ (L.flatten ++ R.flatten))) := Hid.mk (by unfold recB; rw [hN, ← hln])
  obtain ⟨hd, ehd⟩ : ∃ hd, hdB W H D sw sh A r N p ln = hd := ⟨_, rfl⟩
  have HH32 : Hid (hd.length = 32) := Hid.mk (by rw [← ehd]; exact hdB_len ..)
  rw [ehd] at CH HRB
  have HTL := Hid.mk (tbB_len L R)
  rw [hN, hp] at HTL
  obtain ⟨rb, erb⟩ : ∃ rb, recB W H D sw sh A r p L R = rb := ⟨_, rfl⟩
  rw [erb] at HRB HLN ⊢
  have HS : Hid (1 ≤ N ∧ N ≤ 70000 ∧ p ≤ 16) := Hid.mk ⟨h1, h2, hp2⟩
  have ip : (p : Int) ≤ 16 := by omega
  clear hL hgn hN hp hl hne bL bR lR hW hH hD hsw hsh hr hln hln2 hlen HM k1 hb ehd erb hp2 h2
  go_enter Tryz.func73, Tryz.ntmps73
  go_upto_if 8 with (fail)
  clear e1
  go_cut [3] (fun s wc => ∃ ro rc, s = .slice ro p rc ∧ Hid (ro = none → rc = 0) ∧ Hid (Py.MC wc ro R ∧ (∀ i, i < R.length → R.getD i [] ≠ []) ∧ Kept [] w1 wc))
  case first =>
    obtain ⟨c0, c1, c2, c3, c4, c5, c6, c7, c8, c9, c10, c11, c12, c13⟩ := RK0
    by_cases hp1 : 1 ≤ p
    · have hpos : decide ((0 : Int) < (p : Int)) = true := by simp; omega
      have C := Hid.mk (CM.out hp1)
      go_wp2_with (fail)
      refine C.out.mono ?_
      rintro e w2 ⟨ro, rfl, hro, hm, hn, k2⟩
      have HRO : Hid (ro = none → p = 0) := Hid.mk (fun h => absurd h hro)
      have HX := Hid.mk (And.intro hm (And.intro hn k2))
      clear hm hn k2 hro
      go_wp2
      go_meet
      exact ⟨ro, p, rfl, HRO, HX⟩
    · obtain rfl : p = 0 := by omega
      have hpos : decide ((0 : Int) < ((0 : Nat) : Int)) = false := by decide
      have hR0 : R = [] := List.eq_nil_of_length_eq_zero HPP.out
      subst hR0
      go_wp2
      go_meet
      exact ⟨none, 0, rfl, Hid.mk (fun _ => rfl), Hid.mk ⟨.inl rfl, fun i hi => by simp at hi, Kept.refl _ _⟩⟩
  case rest =>
    obtain ⟨ro, rc, rfl, HRN, HX⟩ := hcut
    clear RK0 CM
    have RC : Hid (∀ u, Kept [] wc u → u.cell? ⟨B, 0, none⟩ = some (.int .i64 (W : Int)) ∧ u.cell? ⟨B, 1, none⟩ = some (.int .i64 (H : Int)) ∧ u.cell? ⟨B, 2, none⟩ = some (.int .i64 (D : Int)) ∧ u.cell? ⟨B, 3, none⟩ = some (.bool A) ∧ u.cell? ⟨B, 4, none⟩ = some (.int .i64 (sw : Int)) ∧ u.cell? ⟨B, 5, none⟩ = some (.int .i64 (sh : Int)) ∧ u.cell? ⟨B, 6, none⟩ = some (.int .i64 (r 0 : Int)) ∧ u.cell? ⟨B, 7, none⟩ = some (.int .i64 (r 1 : Int)) ∧ u.cell? ⟨B, 8, none⟩ = some (.int .i64 (r 2 : Int)) ∧ u.cell? ⟨B, 9, none⟩ = some (.int .i64 (r 3 : Int)) ∧ u.cell? ⟨B, 10, none⟩ = some (.int .i64 (N : Int)) ∧ u.cell? ⟨B, 11, none⟩ = some (.int .i64 (p : Int)) ∧ u.cell? ⟨B, 12, none⟩ = some (.int .i64 (ln : Int)) ∧ u.cell? ⟨B, 13, none⟩ = some (.slice go N gc)) := Hid.mk (fun u ku => RK.out u (HX.out.2.2.trans ku))
    have RC0 := RC.out wc (Kept.refl _ _)
    go_wp2_with (fail)
    go_cut [4] (fun s wd => ∃ (Sx : Nat) (bh bt : Option Addr) (ch ct nt : Nat), s = .slice (some ⟨Sx, 0, none⟩) 2 2 ∧ Hid (wd.heap[Sx]? = some (.cells #[.slice bh 32 ch, .slice bt nt ct] 28 (0, 0)) ∧ nt = (tbB L R).length ∧ Reads wd bh hd ∧ Reads wd bt (tbB L R) ∧ (bh = none → ch = 0) ∧ (bt = none → ct = 0) ∧ Kept [] wc wd))
    case first =>
      refine wp_region_held_drew (S := fun u => u.cell? ⟨B, 0, none⟩ = some (.int .i64 (W : Int)) ∧ u.cell? ⟨B, 1, none⟩ = some (.int .i64 (H : Int)) ∧ u.cell? ⟨B, 2, none⟩ = some (.int .i64 (D : Int)) ∧ u.cell? ⟨B, 3, none⟩ = some (.bool A) ∧ u.cell? ⟨B, 4, none⟩ = some (.int .i64 (sw : Int)) ∧ u.cell? ⟨B, 5, none⟩ = some (.int .i64 (sh : Int)) ∧ u.cell? ⟨B, 6, none⟩ = some (.int .i64 (r 0 : Int)) ∧ u.cell? ⟨B, 7, none⟩ = some (.int .i64 (r 1 : Int)) ∧ u.cell? ⟨B, 8, none⟩ = some (.int .i64 (r 2 : Int)) ∧ u.cell? ⟨B, 9, none⟩ = some (.int .i64 (r 3 : Int)) ∧ u.cell? ⟨B, 10, none⟩ = some (.int .i64 (N : Int)) ∧ u.cell? ⟨B, 11, none⟩ = some (.int .i64 (p : Int)) ∧ u.cell? ⟨B, 12, none⟩ = some (.int .i64 (ln : Int)) ∧ u.cell? ⟨B, 13, none⟩ = some (.slice go N gc)) (by kernel_rfl) RC0 (fun hHeld => ?_)
      refine wpAnyH_take (i := 0) (oi := _) (v := ?_) rfl (by kernel_rfl) (by kernel_rfl) (by kernel_rfl) (fun _ _ _ h => h) (Or.inl ⟨by rfl, ?y0⟩) (by assumption) ?r0
      case y0 => (intro w hSw; (try dsimp only at hSw); go_simp; try with_reducible rfl)
      refine wpAnyH_take (i := 1) (oi := _) (v := ?_) rfl (by kernel_rfl) (by kernel_rfl) (by kernel_rfl) (fun _ _ _ h => h) (Or.inl ⟨by rfl, ?y1⟩) (by assumption) ?r1
      case y1 => (intro w hSw; (try dsimp only at hSw); go_simp; try with_reducible rfl)
      refine wpAnyH_take (i := 3) (oi := _) (v := ?_) rfl (by kernel_rfl) (by kernel_rfl) (by kernel_rfl) (fun _ _ _ h => h) (Or.inl ⟨by rfl, ?y3⟩) (by assumption) ?r3
      case y3 => (intro w hSw; (try dsimp only at hSw); go_simp; try with_reducible rfl)
      refine wpAnyH_take (i := 4) (oi := _) (v := ?_) rfl (by kernel_rfl) (by kernel_rfl) (by kernel_rfl) (fun _ _ _ h => h) (Or.inl ⟨by rfl, ?y4⟩) (by assumption) ?r4
      case y4 => (intro w hSw; (try dsimp only at hSw); go_simp; try with_reducible rfl)
      refine wpAnyH_take (i := 5) (oi := _) (v := ?_) rfl (by kernel_rfl) (by kernel_rfl) (by kernel_rfl) (fun _ _ _ h => h) (Or.inl ⟨by rfl, ?y5⟩) (by assumption) ?r5
      case y5 => (intro w hSw; (try dsimp only at hSw); go_simp; try with_reducible rfl)
      refine wpAnyH_ready (rs := [2]) (by kernel_rfl) (by simp) ?_
      refine AllReadyH.cons rfl (fun K hK => ?_) AllReadyH.nil
      · go_simp
        go_at_call 54
        refine (CH.out _).mono ?_
        rintro e w3 ⟨V3, rfl, ho3, k3⟩
        obtain ⟨b3, c3, rfl⟩ := row_form ho3
        have K3 : Hid (Kept [] wc w3) := Hid.mk (((Kept.refl [] wc).drew).trans k3)
        have HN3 := Hid.mk (own_none ho3)
        have HR3 := Hid.mk (reads_row ho3)
        clear ho3 k3
        refine hK.out _ _ (RC.out _ K3.out) (fun hHeld => ?_)
        clear hK K
        refine wpAnyH_ready (rs := [6]) (by kernel_rfl) (by simp) ?_
        refine AllReadyH.cons rfl (fun K hK => ?_) AllReadyH.nil
        go_simp
        go_at_call 96
        refine (CT.out ro rc w3 ((HL.out.keep HX.out.2.2).keep K3.out) (HX.out.1.keep K3.out)).mono ?_
        rintro e w4 ⟨V4, rfl, ho4, k4⟩
        obtain ⟨nt, ent⟩ : ∃ nt, (tbB L R).length = nt := ⟨_, rfl⟩
        rw [ent] at ho4
        obtain ⟨b4, c4, rfl⟩ := row_form ho4
        have K4 : Hid (Kept [] wc w4) := Hid.mk (K3.out.trans k4)
        have HR4 := Hid.mk (reads_row ho4)
        have HN4 := Hid.mk (own_none ho4)
        have HR3' := Hid.mk (HR3.out.keep k4)
        have ENT := Hid.mk ent
        clear ho4 k4 ent
        refine hK.out _ _ (RC.out _ K4.out) (fun hHeld => ?_)
        clear hK K
        refine wpAnyH_ready (rs := [7]) (by kernel_rfl) (by simp) ?_
        refine AllReadyH.cons rfl (fun K hK => ?_) AllReadyH.nil
        go_simp
        refine hK.out _ _ (RC.out _ (K4.out.alloc _)) (fun hHeld => ?_)
        clear hK K
        refine wpAnyH_take (i := 8) (oi := _) (v := ?_) rfl (by kernel_rfl) (by kernel_rfl) (by kernel_rfl) (fun _ _ _ h => h) (Or.inl ⟨by rfl, ?y8⟩) (by assumption) ?r8
        case y8 => (intro w hSw; (try dsimp only at hSw); go_simp; try with_reducible rfl)
        refine wpAnyH_done (by kernel_rfl) ?_ _
        go_wp2
        go_meet
        exact ⟨_, b3, b4, c3, c4, nt, rfl, Hid.mk ⟨heap_alloc_new _ _, ENT.out.symm, HR3'.out.keep ((Kept.refl [] w4).alloc _), HR4.out.keep ((Kept.refl [] w4).alloc _), HN3.out, HN4.out, K4.out.alloc _⟩⟩
    case rest =>
      obtain ⟨Sx, bh, bt, ch, ct, nt, rfl, HY⟩ := hcut
      clear RC0
      obtain ⟨c0, c1, c2, c3, c4, c5, c6, c7, c8, c9, c10, c11, c12, c13⟩ := RC.out wc HY.out.2.2.2.2.2.2
      have HKW : Hid (Kept [] w1 wc) := Hid.mk (HX.out.2.2.trans HY.out.2.2.2.2.2.2)
      have HLw := HL.out.keep HKW.out
      have HRw := HX.out.1.keep HY.out.2.2.2.2.2.2
      obtain ⟨lv, slv, vlv⟩ := mc_vals HLw HNE.out
      obtain ⟨rv, srv, vrv⟩ := mc_vals HRw HX.out.2.1
      have SF : SVs wc [.slice bh 32 ch, .slice bt nt ct] [hd, tbB L R] := SVs.app (SVs.one HY.out.2.2.1 HH32.out HY.out.2.2.2.2.1) (SVs.one HY.out.2.2.2.1 HY.out.2.1.symm HY.out.2.2.2.2.2.1)
      have hgn : go = none → gc = 0 := HGN.out
      have hrn : ro = none → rc = 0 := HRN.out
      have hlvN : lv.length = N := by rw [slv.1]; exact HNN.out
      have hrvp : rv.length = p := by rw [srv.1]; exact HPP.out
      obtain ⟨w5, e5⟩ : ∃ w5, wc.alloc (.cells #[.slice (some ⟨Sx, 0, none⟩) 2 2, .slice go N gc, .slice ro p rc] 103 (0, 0)) = w5 := ⟨_, rfl⟩
      have k5 : Kept [] wc w5 := by rw [← e5]; exact (Kept.refl [] wc).alloc _
      have b5 : w5.heap[wc.heap.size]? = some (.cells #[.slice (some ⟨Sx, 0, none⟩) 2 2, .slice go N gc, .slice ro p rc] 103 (0, 0)) := by rw [← e5]; exact heap_alloc_new _ _
      have hV3 : Vcs w5 (some ⟨wc.heap.size, 0, none⟩) [[.slice bh 32 ch, .slice bt nt ct], lv, rv] := .inr ⟨wc.heap.size, 0, rfl, fun i hi => by
        have hi : i < 3 := hi
        rw [Nat.zero_add]
        rcases (show i = 0 ∨ i = 1 ∨ i = 2 by omega) with rfl | rfl | rfl
        · refine ⟨some ⟨Sx, 0, none⟩, 2, cellAt b5 rfl, (by simp), .inr ⟨Sx, 0, rfl, fun j hj => ?_⟩⟩
          have hj : j < 2 := hj
          rw [Nat.zero_add]
          rcases (show j = 0 ∨ j = 1 by omega) with rfl | rfl
          · exact cellAt (k5.heap HY.out.1 (by simp)) rfl
          · exact cellAt (k5.heap HY.out.1 (by simp)) rfl
        · exact ⟨go, gc, by rw [show ([[Value.slice bh 32 ch, .slice bt nt ct], lv, rv].getD 1 []).length = N from hlvN]; exact cellAt b5 rfl, hgn, vlv.keep k5⟩
        · exact ⟨ro, rc, by rw [show ([[Value.slice bh 32 ch, .slice bt nt ct], lv, rv].getD 2 []).length = p from hrvp]; exact cellAt b5 rfl, hrn, vrv.keep k5⟩⟩
      have hcat : cat [[.slice bh 32 ch, .slice bt nt ct], lv, rv] 3 = [.slice bh 32 ch, .slice bt nt ct] ++ lv ++ rv := by
        simp [cat]
      have hone : ∀ (q : List Value) (Q : List (List Nat)) (u : World), SVs u q Q → ∀ x ∈ q, x.oneCell' = true := fun q Q u hq x hx => by
        obtain ⟨i, hi, rfl⟩ := List.getElem_of_mem hx
        obtain ⟨bo, cap, e9, _, _⟩ := hq.2 i (by rw [← hq.1]; exact hi)
        rw [List.getD_eq_getElem?_getD, List.getElem?_eq_getElem hi] at e9
        simp only [Option.getD_some] at e9
        rw [e9]; rfl
      have CR := Hid.mk (concatR (some ⟨wc.heap.size, 0, none⟩) 3 3 (2 + N + p) _ w5 hV3 rfl (by decide) (by rw [hcat]; simp only [List.length_append, List.length_cons, List.length_nil, hlvN, hrvp]) (by have := HS.out; omega) (fun i hi => by
        rcases (show i = 0 ∨ i = 1 ∨ i = 2 by omega) with rfl | rfl | rfl
        · exact hone _ _ _ SF
        · exact hone _ _ _ slv
        · exact hone _ _ _ srv))
      rw [hcat] at CR
      have SALL := Hid.mk (((SF.app slv).app srv).keep k5)
      have HAL : Hid (([Value.slice bh 32 ch, .slice bt nt ct] ++ lv ++ rv).length = 2 + N + p) := Hid.mk (by simp only [List.length_append, List.length_cons, List.length_nil, hlvN, hrvp])
      have K5 := Hid.mk (HKW.out.trans k5)
      clear hV3 hcat hone SF slv srv vlv vrv HLw HRw hgn hrn b5 k5 hlvN hrvp
      obtain ⟨sv, esv⟩ : ∃ sv, [Value.slice bh 32 ch, .slice bt nt ct] ++ lv ++ rv = sv := ⟨_, rfl⟩
      rw [esv] at CR SALL HAL
      clear esv
      go_wp2_with (fail)
      clear e5 c0 c1 c2 c3 c4 c5 c6 c7 c8 c9 c10 c11 c12 c13
      refine CR.out.mono ?_
      rintro e w6 ⟨V6, rfl, ho6, k6⟩
      obtain ⟨g6, cp6, rfl⟩ := own_some ho6 (by have := HS.out; omega)
      have S6 := SALL.out.keep k6
      have hQ : ([hd, tbB L R] ++ L ++ R).length = 2 + N + p := by rw [← SALL.out.1]; exact HAL.out
      have V6 := S6.vcs (by rw [HAL.out]; exact ho6)
      have hcatB : cat (([hd, tbB L R] ++ L ++ R).map fun l => l.map byt) (2 + N + p) = rb.map byt := by
        rw [← hQ, ← List.length_map (f := fun l : List Nat => l.map byt), cat_all, ← List.map_flatten, HRB.out]
        congr 1
        simp
      have CB := Hid.mk (concatB (some ⟨g6, 0, none⟩) (2 + N + p) cp6 ln _ w6 V6 (by rw [List.length_map]; exact hQ) (by have := HS.out; omega) (by rw [hcatB, List.length_map]; exact HLN.out) (by have := HL2.out; omega) (fun i hi x hx => by
        have hi2 : i < ([hd, tbB L R] ++ L ++ R).length := by rw [hQ]; exact hi
        rw [List.getD_eq_getElem?_getD, List.getElem?_map, List.getElem?_eq_getElem hi2] at hx
        simp only [Option.map_some, Option.getD_some, List.mem_map] at hx
        obtain ⟨b, _, rfl⟩ := hx
        rfl))
      rw [hcatB] at CB
      have K6 := Hid.mk (K5.out.trans k6)
      clear ho6 k6 S6 hQ V6 hcatB
      go_wp2_with (fail)
      refine CB.out.mono ?_
      rintro e w7 ⟨V7, rfl, ho7, k7⟩
      have HE := Hid.mk (own_base ho7 (Nat.le_trans K1.out.size K6.out.size))
      have K7 := Hid.mk ((K1.out.trans K6.out).trans k7)
      clear ho7 k7
      go_wp2
      go_ret
      exact ⟨_, rfl, HE.out, K7.out⟩
end Go.Proofs.YthhegomjipbdbaaGreatDoor.Pc
