import Derived.Test.YtbhhkcgicajlcaaGreatDoorpKZ
namespace Go.Proofs.YtbhhkcgicajlcaaGreatDoor.Pc
open Go.RowKit

/-- Values that are read. -/
def Vals (w : World) (ao : Option Addr) (ys : List Value) : Prop := ys = [] ∨ ∃ g off, ao = some ⟨g, off, none⟩ ∧ ∀ j, j < ys.length → w.cell? ⟨g, off + j, none⟩ = some (ys.getD j undef)
theorem Vals.keep {w w' : World} {ao : Option Addr} {ys : List Value} (h : Vals w ao ys) (hk : Kept [] w w') : Vals w' ao ys := by
  rcases h with h | ⟨g, off, e, hc⟩
  · exact .inl h
  · exact .inr ⟨g, off, e, fun j hj => Tl.cell_keep hk (hc j hj) (by simp)⟩
theorem wpList_appV (w : World) {ops : Array Oper} {rest : List Oper} {o : Oper} {a : Act} {Q : Exit → Act → World → Prop} (hgd : o.guard = none) (s x : Operand) (t : TypeId)
    (ho : o.op = .call { callee := .builtin .append, args := #[s, x], argTypes := #[t, t] }) (B e : Nat) (i : TypeInfo) (z : Value) (by_ : Nat) (ht : Tryz.prog.underlying t = some (.slice e)) (hi : Tryz.prog.info? e = some i) (hz : i.zero = some z) (hsize : i.size = 1) (hby : i.bytes = by_) (hzs : z.cells.size = 1)
    (v : Value) (n : Nat) (xs : List Value) (hs : a.eval s = v) (hown : w.ownsRow B e 1 v n xs) (so : Option Addr) (m c : Nat) (ys : List Value) (hx : a.eval x = .slice so m c) (hr : Vals w so ys) (hm : ys.length = m) (hc : so = none → c = 0) (h1 : ∀ u ∈ ys, u.oneCell' = true) (hB : B ≤ w.heap.size)
    (h63 : n + m ≤ maxLen) (hb : (n + m) * by_ ≤ 140737488355328)
    (h : ∀ v' w', w'.ownsRow B e 1 v' (n + m) (xs ++ ys) → Kept v.ownBlock.toList w w' → wpList Tryz.prog ops Q rest (a.put o.dst v') w') :
    wpList Tryz.prog ops Q (o :: rest) a w := by
  cases so with
  | none =>
    have hl : ys = [] := by
      rcases hr with h | ⟨g, off, h, _⟩
      · exact h
      · cases h
    subst hl
    obtain rfl : c = 0 := hc rfl
    obtain rfl : m = 0 := hm.symm
    refine wpList_plain hgd fun K hK => ?_
    have hrun := run_append_owned_none (P := Tryz.prog) (w := w) B t o.type e i 1 ht hi v n xs hown
    unfold Oper.wp execOp
    simp only [ho, resolve, invoke, builtin, Sem.run_bind, Sem.run_pure, Result.andThen_ok, List.map_toArray, List.map_cons, List.map_nil, hs, hx, hrun]
    exact hK _ _ (h v w (by simpa using hown) (Kept.refl _ _))
  | some ad =>
    refine wpList_append_own_at w hgd s x t ho B e i z 1 by_ ht hi hz hsize hby hzs (by decide) v n xs hs hown ad m c ys hx (by omega) (fun j u hj => ?_) h1 h63 hb hB ?_
    · rcases hr with h | ⟨g, off, h, hcc⟩
      · subst h; simp at hj
      · cases h
        have hlt : j < ys.length := by
          rcases Nat.lt_or_ge j ys.length with h | h
          · exact h
          · rw [List.getElem?_eq_none h] at hj; cases hj
        have h1 := hcc j hlt
        rw [List.getD_eq_getElem?_getD, hj] at h1
        by_cases j0 : j = 0
        · subst j0; simpa [Addr.add] using h1
        · simpa [Addr.add, j0] using h1
    intro v' w' h2 h3 _ h5
    exact h v' w' h2 (Kept.of_grown h3)
/-- Pieces that are read. -/
def Vcs (w : World) (ao : Option Addr) (P : List (List Value)) : Prop := P = [] ∨ ∃ g off, ao = some ⟨g, off, none⟩ ∧ ∀ i, i < P.length → ∃ bo cap, w.cell? ⟨g, off + i, none⟩ = some (.slice bo (P.getD i []).length cap) ∧ (bo = none → cap = 0) ∧ Vals w bo (P.getD i [])
theorem Vcs.keep {w w' : World} {ao : Option Addr} {P : List (List Value)} (h : Vcs w ao P) (hk : Kept [] w w') : Vcs w' ao P := by
  rcases h with h | ⟨g, off, e, hc⟩
  · exact .inl h
  · exact .inr ⟨g, off, e, fun j hj => by obtain ⟨bo, cap, h1, h2, h3⟩ := hc j hj; exact ⟨bo, cap, Tl.cell_keep hk h1 (by simp), h2, h3.keep hk⟩⟩
theorem Vcs.at {w : World} {ao : Option Addr} {P : List (List Value)} (h : Vcs w ao P) {i : Nat} (hi : i < P.length) : ∃ g off bo cap, ao = some ⟨g, off, none⟩ ∧ w.cell? ⟨g, off + i, none⟩ = some (.slice bo (P.getD i []).length cap) ∧ (bo = none → cap = 0) ∧ Vals w bo (P.getD i []) := by
  rcases h with h | ⟨g, off, e, hc⟩
  · subst h; simp at hi
  · obtain ⟨bo, cap, h1, h2, h3⟩ := hc i hi
    exact ⟨g, off, bo, cap, e, h1, h2, h3⟩
/-- The first k pieces, one behind the other. -/
def cat (P : List (List Value)) : Nat → List Value
  | 0 => []
  | k + 1 => cat P k ++ P.getD k []
theorem cat_le {P : List (List Value)} {T : Nat} (h : (cat P P.length).length ≤ T) {k : Nat} (hk : k ≤ P.length) : (cat P k).length ≤ T := by
  have : ∀ j, k + j ≤ P.length → (cat P k).length ≤ (cat P (k + j)).length := by
    intro j
    induction j with
    | zero => intro _; exact Nat.le_refl _
    | succ j ih => intro hj; have := ih (by omega); rw [← Nat.add_assoc]; simp only [cat, List.length_append]; omega
  have h9 := this (P.length - k) (by omega)
  rw [show k + (P.length - k) = P.length by omega] at h9
  omega

theorem Tryz.infoGB : (Tryz.prog.info? 5).map (fun i => (i.zero, i.size, i.bytes)) = some (some (.int .u8 0), 1, 1) := by kernel_rfl
set_option maxHeartbeats 4000000 in
set_option maxRecDepth 1000000 in
theorem growB (n : Nat) (hn : n ≤ 1000000000) (w : World) :
    Calls Tryz.prog 92 #[.slice none 0 0, .int .i64 (n : Int)] w fun e w' => ∃ V, e = .returned V ∧ w'.ownsRow w.heap.size 5 1 V 0 [] ∧ Kept [] w w' := by
  obtain ⟨i0, hi, hz0, hz1, hz2⟩ := info_parts Tryz.infoGB
  by_cases h0 : n = 0
  · subst h0
    go_enter Tryz.func92, Tryz.ntmps92
    go_wp2
    go_ret
    exact ⟨_, rfl, ⟨rfl, .inl ⟨rfl, rfl⟩⟩, Kept.refl _ _⟩
  · have hpos : decide ((0 : Int) < (n : Int)) = true := by simp; omega
    have hneg : decide ((n : Int) < 0) = false := by simp
    have H0 : Hid (w.ownsRow w.heap.size 5 1 (.slice none 0 0) 0 []) := Hid.mk ⟨rfl, .inl ⟨rfl, rfl⟩⟩
    have hno : ¬ 281474976710656 < Builtin.nextslicecap n 0 * Tryz.t5.bytes := by
      have h1 : Builtin.nextslicecap n 0 = n := by unfold Builtin.nextslicecap; rw [if_pos (by omega)]
      have h2 : Tryz.t5.bytes = 1 := rfl
      rw [h1, h2]; omega
    have hyes : (n : Int) * (Tryz.t5.bytes : Int) ≤ 281474976710656 := by
      have h2 : Tryz.t5.bytes = 1 := rfl
      rw [h2]; omega
    go_enter Tryz.func92, Tryz.ntmps92
    go_wp2
    have hge := grownCap_ge w n 0 5
    have hle := grownCap_le_maxLen w n 0 5 (by unfold maxLen; omega)
    go_ret
    refine ⟨_, rfl, ⟨rfl, .inr ⟨w.heap.size, grownCap w n 0 5, _, rfl, Nat.le_refl _, heap_alloc_new _ _, Nat.zero_le _, hle, ?_, by simp⟩⟩, ((Kept.refl _ _).alloc _).drew⟩
    rw [Array.size_append, size_zeroCells, size_zeroCells]
    show n * 1 + (grownCap w n 0 5 - n) * 1 = grownCap w n 0 5 * 1
    omega

set_option maxHeartbeats 8000000 in
set_option maxRecDepth 1000000 in
theorem concatB (ao : Option Addr) (N ca T : Nat) (P : List (List Value)) (w : World) (hP : Vcs w ao P) (hN : P.length = N) (hN2 : N ≤ 1000000) (hT : (cat P N).length = T) (hT2 : T ≤ 900000000) (h1 : ∀ i, i < N → ∀ u ∈ P.getD i [], u.oneCell' = true) :
    Calls Tryz.prog 72 #[.slice ao N ca] w fun e w' => ∃ V, e = .returned V ∧ w'.ownsRow w.heap.size 5 1 V T (cat P N) ∧ Kept [] w w' := by
  obtain ⟨i0, hi, hz0, hz1, hz2⟩ := info_parts Tryz.infoGB
  have HP := Hid.mk hP
  have HN := Hid.mk hN
  have HT := Hid.mk hT
  have H1 := Hid.mk h1
  have HLE : Hid (∀ k, k ≤ N → (cat P k).length ≤ T) := Hid.mk (fun k hk => cat_le (by rw [hN, hT]; exact Nat.le_refl _) (by omega))
  have C := Hid.mk (fun u => growB T (by omega) u)
  obtain ⟨S, eS⟩ : ∃ S, w.heap.size = S := ⟨_, rfl⟩
  have ES := Hid.mk eS
  have HT2 := Hid.mk hT2
  clear hP hN hT h1 eS hT2
  go_enter Tryz.func72, Tryz.ntmps72
  go_wp2
  go_loopw [3, 11] (fun t i wr => ∃ k y : Nat, k ≤ N ∧ i = .int .i64 (k : Int) ∧ t = .int .i64 (y : Int) ∧ wr = w ∧ Hid (y = (cat P k).length)) (fun _ i _ => N - (intOf i).toNat)
  case atStart => exact ⟨0, 0, Nat.zero_le _, rfl, rfl, rfl, Hid.mk rfl⟩
  case round =>
    obtain ⟨k, y, hk, rfl, rfl, hw, HI⟩ := hrel
    obtain rfl := hw.symm
    by_cases hlt : k < N
    · obtain ⟨g, off, bo, cap, rfl, hc, -, -⟩ := HP.out.at (i := k) (by rw [HN.out]; exact hlt)
      have ik : (k : Int) < (N : Int) := by omega
      have HS : Hid ((cat P (k + 1)).length = (cat P k).length + (P.getD k []).length) := Hid.mk (by simp [cat])
      have HB := Hid.mk (HLE.out (k + 1) (by omega))
      obtain ⟨x, ex⟩ : ∃ x, (P.getD k []).length = x := ⟨_, rfl⟩
      rw [ex] at hc HS
      obtain ⟨z, ez⟩ : ∃ z, y + x = z := ⟨_, rfl⟩
      have HZ : Hid (z ≤ 900000000) := Hid.mk (by have := HB.out; have := HS.out; have := HI.out; have := HT2.out; omega)
      have hz : wrap64 ((y : Int) + (x : Int)) = (z : Int) := by
        have h9 := HZ.out
        rw [← Int.natCast_add, ez]; exact Tl.w64_in (by omega) (by omega)
      have dz : decide ((z : Int) < 0) = false := by simp
      have EZ := Hid.mk ez
      clear ex ez
      go_wp2
      (try rw [hz])
      clear hz
      go_roundw
      case rel => exact ⟨k + 1, z, by omega, by go_num, rfl, by first | rfl | trivial, Hid.mk (by have := EZ.out; have := HS.out; have := HI.out; omega)⟩
      case measure => simp [intOf]; omega
    · obtain rfl : N = k := by omega
      have HY : Hid (y = T) := Hid.mk (by rw [HI.out, HT.out])
      obtain rfl := HY.out
      clear hk hlt
      go_wp2_with (fail)
      refine (C.out _).mono ?_
      rintro e w1 ⟨V, rfl, hV, k1⟩
      rw [ES.out] at hV
      have HV := Hid.mk hV
      have K1 := Hid.mk k1
      clear hV k1
      go_wp2
      go_loopw [6, 27] (fun v i wr => ∃ k m : Nat, k ≤ N ∧ i = .int .i64 (k : Int) ∧ Hid (m = (cat P k).length ∧ wr.ownsRow S 5 1 v m (cat P k) ∧ Kept [] w wr)) (fun _ i _ => N - (intOf i).toNat)
      case atStart => exact ⟨0, 0, Nat.zero_le _, rfl, Hid.mk ⟨rfl, HV.out, K1.out⟩⟩
      case round =>
        obtain ⟨k, m, hk, rfl, HI⟩ := hrel
        by_cases hlt : k < N
        · obtain ⟨g, off, bo, cap, rfl, hc, hc2, hc3⟩ := (HP.out.keep HI.out.2.2).at (i := k) (by rw [HN.out]; exact hlt)
          have ik : (k : Int) < (N : Int) := by omega
          have HS : Hid ((cat P (k + 1)).length = (cat P k).length + (P.getD k []).length) := Hid.mk (by simp [cat])
          have HB := Hid.mk (HLE.out (k + 1) (by omega))
          have HU := Hid.mk (H1.out k hlt)
          have HV3 := Hid.mk hc3
          have HC2 := Hid.mk hc2
          obtain ⟨x, ex⟩ : ∃ x, (P.getD k []).length = x := ⟨_, rfl⟩
          rw [ex] at hc HS
          have EX := Hid.mk ex
          have HZ : Hid (m + x ≤ 900000000) := Hid.mk (by have := HB.out; have := HS.out; have := HI.out.1; have := HT2.out; omega)
          have HSw : Hid (S ≤ wr.heap.size) := Hid.mk (by rw [← ES.out]; exact HI.out.2.2.size)
          have Hlo : Hid (∀ z, u6.ownBlock = some z → S ≤ z) := Hid.mk (fun z hz => (own_lo HI.out.2.1 hz).1)
          clear ex hc3 hc2
          go_wp2_with (at_builtin; refine wpList_appV wr rfl _ _ 30 rfl S 5 i0 (.int .u8 0) 1 Tryz.underlying30 hi hz0 hz1 hz2 rfl u6 m _ rfl HI.out.2.1 bo x cap (P.getD k []) rfl HV3.out EX.out HC2.out HU.out HSw.out (by have := HZ.out; unfold maxLen; omega) (by have := HZ.out; omega) ?_; intro v' w' h2 h3)
          have HO := Hid.mk h2
          have K3 : Hid (Kept [] w w') := Hid.mk (HI.out.2.2.step h3 (fun z hz => .inr (by rw [ES.out]; exact Hlo.out z (by simpa using hz))))
          clear h2 h3
          go_roundw
          case rel => exact ⟨k + 1, m + x, by omega, by go_num, Hid.mk ⟨by have := HS.out; have := HI.out.1; omega, HO.out, K3.out⟩⟩
          case measure => simp [intOf]; omega
        · obtain rfl : N = k := by omega
          have HE : Hid (wr.ownsRow S 5 1 u6 y (cat P N)) := Hid.mk (by rw [HT.out.symm, ← HI.out.1]; exact HI.out.2.1)
          have HKE := Hid.mk HI.out.2.2
          clear hk hlt HI
          go_wp2
          go_ret
          exact ⟨_, rfl, by rw [ES.out]; exact HE.out, HKE.out⟩

theorem Tryz.infoGR : (Tryz.prog.info? 30).map (fun i => (i.zero, i.size, i.bytes)) = some (some (.slice none 0 0), 1, 24) := by kernel_rfl
set_option maxHeartbeats 4000000 in
set_option maxRecDepth 1000000 in
theorem growR (n : Nat) (hn : n ≤ 1000000000) (w : World) :
    Calls Tryz.prog 93 #[.slice none 0 0, .int .i64 (n : Int)] w fun e w' => ∃ V, e = .returned V ∧ w'.ownsRow w.heap.size 30 1 V 0 [] ∧ Kept [] w w' := by
  obtain ⟨i0, hi, hz0, hz1, hz2⟩ := info_parts Tryz.infoGR
  by_cases h0 : n = 0
  · subst h0
    go_enter Tryz.func93, Tryz.ntmps93
    go_wp2
    go_ret
    exact ⟨_, rfl, ⟨rfl, .inl ⟨rfl, rfl⟩⟩, Kept.refl _ _⟩
  · have hpos : decide ((0 : Int) < (n : Int)) = true := by simp; omega
    have hneg : decide ((n : Int) < 0) = false := by simp
    have H0 : Hid (w.ownsRow w.heap.size 30 1 (.slice none 0 0) 0 []) := Hid.mk ⟨rfl, .inl ⟨rfl, rfl⟩⟩
    have hno : ¬ 281474976710656 < Builtin.nextslicecap n 0 * Tryz.t30.bytes := by
      have h1 : Builtin.nextslicecap n 0 = n := by unfold Builtin.nextslicecap; rw [if_pos (by omega)]
      have h2 : Tryz.t30.bytes = 24 := rfl
      rw [h1, h2]; omega
    have hyes : (n : Int) * (Tryz.t30.bytes : Int) ≤ 281474976710656 := by
      have h2 : Tryz.t30.bytes = 24 := rfl
      rw [h2]; omega
    go_enter Tryz.func93, Tryz.ntmps93
    go_wp2
    have hge := grownCap_ge w n 0 30
    have hle := grownCap_le_maxLen w n 0 30 (by unfold maxLen; omega)
    go_ret
    refine ⟨_, rfl, ⟨rfl, .inr ⟨w.heap.size, grownCap w n 0 30, _, rfl, Nat.le_refl _, heap_alloc_new _ _, Nat.zero_le _, hle, ?_, by simp⟩⟩, ((Kept.refl _ _).alloc _).drew⟩
    rw [Array.size_append, size_zeroCells, size_zeroCells]
    show n * 1 + (grownCap w n 0 30 - n) * 1 = grownCap w n 0 30 * 1
    omega

set_option maxHeartbeats 8000000 in
set_option maxRecDepth 1000000 in
theorem concatR (ao : Option Addr) (N ca T : Nat) (P : List (List Value)) (w : World) (hP : Vcs w ao P) (hN : P.length = N) (hN2 : N ≤ 1000000) (hT : (cat P N).length = T) (hT2 : T ≤ 900000000) (h1 : ∀ i, i < N → ∀ u ∈ P.getD i [], u.oneCell' = true) :
    Calls Tryz.prog 73 #[.slice ao N ca] w fun e w' => ∃ V, e = .returned V ∧ w'.ownsRow w.heap.size 30 1 V T (cat P N) ∧ Kept [] w w' := by
  obtain ⟨i0, hi, hz0, hz1, hz2⟩ := info_parts Tryz.infoGR
  have HP := Hid.mk hP
  have HN := Hid.mk hN
  have HT := Hid.mk hT
  have H1 := Hid.mk h1
  have HLE : Hid (∀ k, k ≤ N → (cat P k).length ≤ T) := Hid.mk (fun k hk => cat_le (by rw [hN, hT]; exact Nat.le_refl _) (by omega))
  have C := Hid.mk (fun u => growR T (by omega) u)
  obtain ⟨S, eS⟩ : ∃ S, w.heap.size = S := ⟨_, rfl⟩
  have ES := Hid.mk eS
  have HT2 := Hid.mk hT2
  clear hP hN hT h1 eS hT2
  go_enter Tryz.func73, Tryz.ntmps73
  go_wp2
  go_loopw [3, 11] (fun t i wr => ∃ k y : Nat, k ≤ N ∧ i = .int .i64 (k : Int) ∧ t = .int .i64 (y : Int) ∧ wr = w ∧ Hid (y = (cat P k).length)) (fun _ i _ => N - (intOf i).toNat)
  case atStart => exact ⟨0, 0, Nat.zero_le _, rfl, rfl, rfl, Hid.mk rfl⟩
  case round =>
    obtain ⟨k, y, hk, rfl, rfl, hw, HI⟩ := hrel
    obtain rfl := hw.symm
    by_cases hlt : k < N
    · obtain ⟨g, off, bo, cap, rfl, hc, -, -⟩ := HP.out.at (i := k) (by rw [HN.out]; exact hlt)
      have ik : (k : Int) < (N : Int) := by omega
      have HS : Hid ((cat P (k + 1)).length = (cat P k).length + (P.getD k []).length) := Hid.mk (by simp [cat])
      have HB := Hid.mk (HLE.out (k + 1) (by omega))
      obtain ⟨x, ex⟩ : ∃ x, (P.getD k []).length = x := ⟨_, rfl⟩
      rw [ex] at hc HS
      obtain ⟨z, ez⟩ : ∃ z, y + x = z := ⟨_, rfl⟩
      have HZ : Hid (z ≤ 900000000) := Hid.mk (by have := HB.out; have := HS.out; have := HI.out; have := HT2.out; omega)
      have hz : wrap64 ((y : Int) + (x : Int)) = (z : Int) := by
        have h9 := HZ.out
        rw [← Int.natCast_add, ez]; exact Tl.w64_in (by omega) (by omega)
      have dz : decide ((z : Int) < 0) = false := by simp
      have EZ := Hid.mk ez
      clear ex ez
      go_wp2
      (try rw [hz])
      clear hz
      go_roundw
      case rel => exact ⟨k + 1, z, by omega, by go_num, rfl, by first | rfl | trivial, Hid.mk (by have := EZ.out; have := HS.out; have := HI.out; omega)⟩
      case measure => simp [intOf]; omega
    · obtain rfl : N = k := by omega
      have HY : Hid (y = T) := Hid.mk (by rw [HI.out, HT.out])
      obtain rfl := HY.out
      clear hk hlt
      go_wp2_with (fail)
      refine (C.out _).mono ?_
      rintro e w1 ⟨V, rfl, hV, k1⟩
      rw [ES.out] at hV
      have HV := Hid.mk hV
      have K1 := Hid.mk k1
      clear hV k1
      go_wp2
      go_loopw [6, 27] (fun v i wr => ∃ k m : Nat, k ≤ N ∧ i = .int .i64 (k : Int) ∧ Hid (m = (cat P k).length ∧ wr.ownsRow S 30 1 v m (cat P k) ∧ Kept [] w wr)) (fun _ i _ => N - (intOf i).toNat)
      case atStart => exact ⟨0, 0, Nat.zero_le _, rfl, Hid.mk ⟨rfl, HV.out, K1.out⟩⟩
      case round =>
        obtain ⟨k, m, hk, rfl, HI⟩ := hrel
        by_cases hlt : k < N
        · obtain ⟨g, off, bo, cap, rfl, hc, hc2, hc3⟩ := (HP.out.keep HI.out.2.2).at (i := k) (by rw [HN.out]; exact hlt)
          have ik : (k : Int) < (N : Int) := by omega
          have HS : Hid ((cat P (k + 1)).length = (cat P k).length + (P.getD k []).length) := Hid.mk (by simp [cat])
          have HB := Hid.mk (HLE.out (k + 1) (by omega))
          have HU := Hid.mk (H1.out k hlt)
          have HV3 := Hid.mk hc3
          have HC2 := Hid.mk hc2
          obtain ⟨x, ex⟩ : ∃ x, (P.getD k []).length = x := ⟨_, rfl⟩
          rw [ex] at hc HS
          have EX := Hid.mk ex
          have HZ : Hid (m + x ≤ 900000000) := Hid.mk (by have := HB.out; have := HS.out; have := HI.out.1; have := HT2.out; omega)
          have HSw : Hid (S ≤ wr.heap.size) := Hid.mk (by rw [← ES.out]; exact HI.out.2.2.size)
          have Hlo : Hid (∀ z, u6.ownBlock = some z → S ≤ z) := Hid.mk (fun z hz => (own_lo HI.out.2.1 hz).1)
          clear ex hc3 hc2
          go_wp2_with (at_builtin; refine wpList_appV wr rfl _ _ 70 rfl S 30 i0 (.slice none 0 0) 24 Tryz.underlying70 hi hz0 hz1 hz2 rfl u6 m _ rfl HI.out.2.1 bo x cap (P.getD k []) rfl HV3.out EX.out HC2.out HU.out HSw.out (by have := HZ.out; unfold maxLen; omega) (by have := HZ.out; omega) ?_; intro v' w' h2 h3)
          have HO := Hid.mk h2
          have K3 : Hid (Kept [] w w') := Hid.mk (HI.out.2.2.step h3 (fun z hz => .inr (by rw [ES.out]; exact Hlo.out z (by simpa using hz))))
          clear h2 h3
          go_roundw
          case rel => exact ⟨k + 1, m + x, by omega, by go_num, Hid.mk ⟨by have := HS.out; have := HI.out.1; omega, HO.out, K3.out⟩⟩
          case measure => simp [intOf]; omega
        · obtain rfl : N = k := by omega
          have HE : Hid (wr.ownsRow S 30 1 u6 y (cat P N)) := Hid.mk (by rw [HT.out.symm, ← HI.out.1]; exact HI.out.2.1)
          have HKE := Hid.mk HI.out.2.2
          clear hk hlt HI
          go_wp2
          go_ret
          exact ⟨_, rfl, by rw [ES.out]; exact HE.out, HKE.out⟩
end Go.Proofs.YtbhhkcgicajlcaaGreatDoor.Pc
