import Derived.Test.YtpfpmnlklhjggaaS3
import Derived.Deep.RegionHeld3
namespace Go.Proofs.Ytpfpmnlklhjggaa
open Go.RowKit

theorem Try.size26 : (Try.prog.info? 26).map (·.size) = some 256 := (zero_of_info Try.info26).2

theorem tab_loadVar (w : World) (A : Nat) (h : w.heap[A]? = some (.cells tabA 26 (0, 0))) : Sem.run Try.prog (loadVar 26 ⟨A, 0, none⟩) w = .ok (.agg tabA) w :=
  run_loadVar_row w A 26 26 tabA (0, 0) (.array 256 23) h Try.underlying26 rfl (by rw [tabA_size]; exact Try.size26)
theorem tab_load (w : World) (A : Nat) (h : w.heap[A]? = some (.cells tabA 26 (0, 0))) : Sem.run Try.prog (Instr.loadAt 26 (.pointer (some ⟨A, 0, none⟩))) w = .ok (.agg tabA) w := by
  simp only [Instr.loadAt, Instr.sureAddr, Sem.run_bind, Sem.run_pure, Result.andThen, tab_loadVar w A h]

theorem block_range {w : World} {b : Nat} {cs : List Value} {t : TypeId} (h : w.heap[b]? = some (.cells cs.toArray t (0, 0))) : w.rangeAt b 0 cs := by
  intro j v hv
  simp [World.cell?, h, hv]

theorem range_kept {w w' : World} {b : Nat} {cs : List Value} (h : w.rangeAt b 0 cs) (hk : Kept [] w w') : w'.rangeAt b 0 cs := by
  intro j v hv
  have h1 := h j v hv
  exact (World.cell?_of_block (a := ⟨b, 0 + j, none⟩) (hk.block b (World.block_lt_of_cell? w _ h1) (by simp))).trans h1

theorem row_load (w : World) (A : Nat) (T : List Value) (h : w.heap[A]? = some (.cells T.toArray 26 (0, 0))) (hl : T.length = 256) : Sem.run Try.prog (Instr.loadAt 26 (.pointer (some ⟨A, 0, none⟩))) w = .ok (.agg T.toArray) w := by
  simp only [Instr.loadAt, Instr.sureAddr, Sem.run_bind, Sem.run_pure, Result.andThen]
  exact run_loadVar_row w A 26 26 T.toArray (0, 0) (.array 256 23) h Try.underlying26 rfl (by rw [List.size_toArray, hl]; exact Try.size26)

set_option maxHeartbeats 1000000 in
set_option maxRecDepth 1000000 in
theorem sums_any (ao bo : Option Addr) (ca cb m n : Nat) (l k : List Nat) (s : BitVec 32) (w : World) (hr : Reads w ao l) (hs : Reads w bo k) (hb : Byts l) (hc : Byts k) (hm : l.length = m) (hn : k.length = n) (hl : m ≤ 140737488351232) (hl2 : n ≤ 140737488351232) :
    Calls Try.prog 3 #[.slice ao m ca, .slice bo n cb, .int .u32 (nm s)] w fun e w' => e = .returned (.bool true) ∧ Kept [] w w' := by
  obtain ⟨hv26, hi26⟩ := zero_of_info Try.info26
  have Hi := Hid.mk hi26
  clear hi26
  have hsc := table_stored
  have heq := tab_eql
  go_enter Try.func3, Try.ntmps3
  go_wp2_with (go_at_call 9; refine (shown_any _).mono ?_; rintro e w1 ⟨rfl, hk1⟩)
  have Hk := Hid.mk hk1
  replace hr := hr.keep hk1
  replace hs := hs.keep hk1
  clear hk1
  go_wp2_with (go_at_call 10; refine (exact_any _ _ _ ?_ _ _ ?_ ?_ ?_ ?_).mono ?_; rotate_left; assumption; assumption; assumption; assumption; rintro e w2 ⟨rfl, hk2⟩; replace hr := hr.keep hk2; replace hs := hs.keep hk2; replace Hk := Hid.mk (Hk.out.trans hk2); clear hk2)
  clear hr hs hb hc hm hn hl hl2
  refine (table_any _).mono ?_
  rintro e w3 ⟨rfl, hk3⟩
  replace Hk := Hid.mk (Hk.out.trans hk3)
  clear hk3
  go_wp2_with (go_at_call 11; refine (table_any _).mono ?_; rintro e w4 ⟨rfl, hk4⟩)
  have h1 : (w4.alloc (.cells tabA 26)).heap[w3.heap.size]? = some (.cells tabA 26 (0, 0)) := ((Kept.refl [] w4).alloc _).heap (hk4.heap (heap_alloc_new w3 _) (by simp)) (by simp)
  have h2 : (w4.alloc (.cells tabA 26)).heap[w4.heap.size]? = some (.cells tabA 26 (0, 0)) := heap_alloc_new w4 _
  replace Hk := Hid.mk (((Hk.out.alloc _).trans hk4).alloc (.cells tabA 26))
  obtain ⟨A, hA⟩ : ∃ A, A = w3.heap.size := ⟨_, rfl⟩
  obtain ⟨B, hB⟩ : ∃ B, B = w4.heap.size := ⟨_, rfl⟩
  rw [← hA] at h1 ⊢
  rw [← hB] at h2 ⊢
  obtain ⟨w5, hw5⟩ : ∃ w5, w5 = w4.alloc (.cells tabA 26) := ⟨_, rfl⟩
  rw [← hw5] at h1 h2 Hk ⊢
  clear hA hB hw5 hk4 hsc hv26
  obtain ⟨T, hT⟩ : ∃ T : List Value, T = tabC 256 := ⟨_, rfl⟩
  have hTA : tabA = T.toArray := by rw [hT]; rfl
  have hlen : T.length = 256 := by rw [hT, tabC_length]
  have hi : (Try.prog.info? 26).map (·.size) = some T.length := by rw [hlen]; exact Try.size26
  have hu := Try.underlying26
  rw [hTA] at h1 h2 heq
  rw [hTA]
  have s1 : w5.drew.rangeAt A 0 T := block_range h1
  have s2 : w5.drew.rangeAt B 0 T := block_range h2
  have HA := Hid.mk hTA
  clear h1 h2 hT hTA hlen
  refine wp_region_held_drew (S := fun w' => w'.rangeAt A 0 T ∧ w'.rangeAt B 0 T) (by kernel_rfl) ⟨s1, s2⟩ (fun hS => ?_)
  refine wpAnyH_take (i := 0) (oi := { dst := some 25, op := Op.move (Operand.tmp 7), type := 4, pos := "crc.go:75", after := #[], guard := none }) (v := .bool true) rfl (by kernel_rfl) (by kernel_rfl) (by kernel_rfl) (fun _ _ _ h => h) (Or.inl ⟨by rfl, fun w _ => ?_⟩) hS ?_
  · go_simp
  simp only [Act.put, List.setIfInBounds_toArray, List.set_cons_zero, List.set_cons_succ]
  refine wpAnyH_take (i := 1) (oi := { dst := some 26, op := Op.move (Operand.tmp 25), type := 4, pos := "crc.go:75", after := #[{ on := 0, ground := Ground.data }], guard := none }) (v := .bool true) rfl (by kernel_rfl) (by kernel_rfl) (by kernel_rfl) (fun _ _ _ h => h) (Or.inl ⟨by rfl, fun w _ => ?_⟩) hS ?_
  · go_simp
  simp only [Act.put, List.setIfInBounds_toArray, List.set_cons_zero, List.set_cons_succ]
  refine wpAnyH_take (i := 2) (oi := { dst := some 27, op := Op.move (Operand.tmp 8), type := 4, pos := "crc.go:75", after := #[{ on := 1, ground := Ground.guard }], guard := some (1, true) }) (v := .bool true) rfl (by kernel_rfl) (by kernel_rfl) (by kernel_rfl) (fun _ _ _ h => h) (Or.inl ⟨by rfl, fun w _ => ?_⟩) hS ?_
  · go_simp
  simp only [Act.put, List.setIfInBounds_toArray, List.set_cons_zero, List.set_cons_succ]
  refine wpAnyH_take (i := 3) (oi := { dst := some 28, op := Op.pick (Operand.tmp 26) (Operand.tmp 27) (Operand.const (Value.bool false)), type := 4, pos := "crc.go:75", after := #[{ on := 1, ground := Ground.data }, { on := 2, ground := Ground.data }], guard := none }) (v := .bool true) rfl (by kernel_rfl) (by kernel_rfl) (by kernel_rfl) (fun _ _ _ h => h) (Or.inl ⟨by rfl, fun w _ => ?_⟩) hS ?_
  · go_simp
  simp only [Act.put, List.setIfInBounds_toArray, List.set_cons_zero, List.set_cons_succ]
  refine wpAnyH_take (i := 4) (oi := { dst := some 29, op := Op.move (Operand.tmp 28), type := 4, pos := "crc.go:75", after := #[{ on := 3, ground := Ground.data }, { on := 1, ground := Ground.chain }], guard := none }) (v := .bool true) rfl (by kernel_rfl) (by kernel_rfl) (by kernel_rfl) (fun _ _ _ h => h) (Or.inl ⟨by rfl, fun w _ => ?_⟩) hS ?_
  · go_simp
  simp only [Act.put, List.setIfInBounds_toArray, List.set_cons_zero, List.set_cons_succ]
  refine wpAnyH_take (i := 5) (oi := { dst := some 30, op := Op.move (Operand.tmp 9), type := 4, pos := "crc.go:75", after := #[{ on := 4, ground := Ground.guard }], guard := some (4, true) }) (v := .bool true) rfl (by kernel_rfl) (by kernel_rfl) (by kernel_rfl) (fun _ _ _ h => h) (Or.inl ⟨by rfl, fun w _ => ?_⟩) hS ?_
  · go_simp
  simp only [Act.put, List.setIfInBounds_toArray, List.set_cons_zero, List.set_cons_succ]
  refine wpAnyH_take (i := 6) (oi := { dst := some 31, op := Op.pick (Operand.tmp 29) (Operand.tmp 30) (Operand.const (Value.bool false)), type := 4, pos := "crc.go:75", after := #[{ on := 4, ground := Ground.data }, { on := 5, ground := Ground.data }], guard := none }) (v := .bool true) rfl (by kernel_rfl) (by kernel_rfl) (by kernel_rfl) (fun _ _ _ h => h) (Or.inl ⟨by rfl, fun w _ => ?_⟩) hS ?_
  · go_simp
  simp only [Act.put, List.setIfInBounds_toArray, List.set_cons_zero, List.set_cons_succ]
  refine wpAnyH_take (i := 7) (oi := { dst := some 32, op := Op.move (Operand.tmp 31), type := 4, pos := "crc.go:75", after := #[{ on := 6, ground := Ground.data }, { on := 4, ground := Ground.chain }], guard := none }) (v := .bool true) rfl (by kernel_rfl) (by kernel_rfl) (by kernel_rfl) (fun _ _ _ h => h) (Or.inl ⟨by rfl, fun w _ => ?_⟩) hS ?_
  · go_simp
  simp only [Act.put, List.setIfInBounds_toArray, List.set_cons_zero, List.set_cons_succ]
  refine wpAnyH_take (i := 8) (oi := { dst := some 33, op := Op.move (Operand.tmp 10), type := 4, pos := "crc.go:75", after := #[{ on := 7, ground := Ground.guard }], guard := some (7, true) }) (v := .bool true) rfl (by kernel_rfl) (by kernel_rfl) (by kernel_rfl) (fun _ _ _ h => h) (Or.inl ⟨by rfl, fun w _ => ?_⟩) hS ?_
  · go_simp
  simp only [Act.put, List.setIfInBounds_toArray, List.set_cons_zero, List.set_cons_succ]
  refine wpAnyH_take (i := 9) (oi := { dst := some 34, op := Op.pick (Operand.tmp 32) (Operand.tmp 33) (Operand.const (Value.bool false)), type := 4, pos := "crc.go:75", after := #[{ on := 7, ground := Ground.data }, { on := 8, ground := Ground.data }], guard := none }) (v := .bool true) rfl (by kernel_rfl) (by kernel_rfl) (by kernel_rfl) (fun _ _ _ h => h) (Or.inl ⟨by rfl, fun w _ => ?_⟩) hS ?_
  · go_simp
  simp only [Act.put, List.setIfInBounds_toArray, List.set_cons_zero, List.set_cons_succ]
  refine wpAnyH_take (i := 10) (oi := { dst := some 35, op := Op.move (Operand.tmp 34), type := 4, pos := "crc.go:75", after := #[{ on := 9, ground := Ground.data }, { on := 7, ground := Ground.chain }], guard := none }) (v := .bool true) rfl (by kernel_rfl) (by kernel_rfl) (by kernel_rfl) (fun _ _ _ h => h) (Or.inl ⟨by rfl, fun w _ => ?_⟩) hS ?_
  · go_simp
  simp only [Act.put, List.setIfInBounds_toArray, List.set_cons_zero, List.set_cons_succ]
  refine wpAnyH_take (i := 11) (oi := { dst := some 36, op := Op.load 26 (Operand.tmp 11), type := 26, pos := "crc.go:75", after := #[{ on := 10, ground := Ground.guard }], guard := some (10, true) }) (v := .agg T.toArray) rfl (by kernel_rfl) (by kernel_rfl) (by kernel_rfl) (fun _ _ _ h => h) (yieldsIf_load_mid (by rfl) 26 _ rfl _ 0 rfl T (.array 256 23) (fun w hw => hw.1) hu rfl hi) hS ?_
  simp only [Act.put, List.setIfInBounds_toArray, List.set_cons_zero, List.set_cons_succ]
  refine wpAnyH_ready (rs := [12]) (by kernel_rfl) (by simp) ?_
  refine AllReadyH.cons (o := { dst := some 37, op := Op.call { callee := Callee.value (Operand.func 12), args := #[], argTypes := #[] }, type := 26, pos := "crc.go:75", after := #[{ on := 10, ground := Ground.chain }, { on := 10, ground := Ground.guard }], guard := some (10, true) }) rfl (fun K hK => ?_) AllReadyH.nil
  rw [if_pos (by rfl)]
  go_wp2_with (go_at_call 12; refine (tableD_any _).mono ?_; rw [HA.out]; rintro e w6 ⟨rfl, hk6⟩)
  refine hK.out _ _ ⟨range_kept s1 hk6, range_kept s2 hk6⟩ (fun hS6 => ?_)
  refine wpAnyH_take (i := 13) (oi := { dst := some 38, op := Op.binOp BinOp.eql 26 (Operand.tmp 36) (Operand.tmp 37) 26, type := 4, pos := "crc.go:75", after := #[{ on := 11, ground := Ground.data }, { on := 12, ground := Ground.data }, { on := 10, ground := Ground.guard }], guard := some (10, true) }) (v := .bool true) rfl (by kernel_rfl) (by kernel_rfl) (by kernel_rfl) (fun _ _ _ h => h) (Or.inl ⟨by rfl, fun w _ => ?_⟩) hS6 ?_
  · go_simp
  simp only [Act.put, List.setIfInBounds_toArray, List.set_cons_zero, List.set_cons_succ]
  refine wpAnyH_take (i := 14) (oi := { dst := some 39, op := Op.pick (Operand.tmp 35) (Operand.tmp 38) (Operand.const (Value.bool false)), type := 4, pos := "crc.go:75", after := #[{ on := 10, ground := Ground.data }, { on := 13, ground := Ground.data }], guard := none }) (v := .bool true) rfl (by kernel_rfl) (by kernel_rfl) (by kernel_rfl) (fun _ _ _ h => h) (Or.inl ⟨by rfl, fun w _ => ?_⟩) hS6 ?_
  · go_simp
  simp only [Act.put, List.setIfInBounds_toArray, List.set_cons_zero, List.set_cons_succ]
  refine wpAnyH_take (i := 15) (oi := { dst := some 40, op := Op.move (Operand.tmp 39), type := 4, pos := "crc.go:75", after := #[{ on := 14, ground := Ground.data }, { on := 12, ground := Ground.chain }], guard := none }) (v := .bool true) rfl (by kernel_rfl) (by kernel_rfl) (by kernel_rfl) (fun _ _ _ h => h) (Or.inl ⟨by rfl, fun w _ => ?_⟩) hS6 ?_
  · go_simp
  simp only [Act.put, List.setIfInBounds_toArray, List.set_cons_zero, List.set_cons_succ]
  refine wpAnyH_take (i := 16) (oi := { dst := some 41, op := Op.load 26 (Operand.tmp 12), type := 26, pos := "crc.go:75", after := #[{ on := 15, ground := Ground.guard }], guard := some (15, true) }) (v := .agg T.toArray) rfl (by kernel_rfl) (by kernel_rfl) (by kernel_rfl) (fun _ _ _ h => h) (yieldsIf_load_mid (by rfl) 26 _ rfl _ 0 rfl T (.array 256 23) (fun w hw => hw.2) hu rfl hi) hS6 ?_
  simp only [Act.put, List.setIfInBounds_toArray, List.set_cons_zero, List.set_cons_succ]
  refine wpAnyH_take (i := 17) (oi := { dst := some 42, op := Op.load 26 (Operand.tmp 11), type := 26, pos := "crc.go:75", after := #[{ on := 15, ground := Ground.guard }], guard := some (15, true) }) (v := .agg T.toArray) rfl (by kernel_rfl) (by kernel_rfl) (by kernel_rfl) (fun _ _ _ h => h) (yieldsIf_load_mid (by rfl) 26 _ rfl _ 0 rfl T (.array 256 23) (fun w hw => hw.1) hu rfl hi) hS6 ?_
  simp only [Act.put, List.setIfInBounds_toArray, List.set_cons_zero, List.set_cons_succ]
  refine wpAnyH_take (i := 18) (oi := { dst := some 43, op := Op.binOp BinOp.eql 26 (Operand.tmp 41) (Operand.tmp 42) 26, type := 4, pos := "crc.go:75", after := #[{ on := 16, ground := Ground.data }, { on := 17, ground := Ground.data }, { on := 15, ground := Ground.guard }], guard := some (15, true) }) (v := .bool true) rfl (by kernel_rfl) (by kernel_rfl) (by kernel_rfl) (fun _ _ _ h => h) (Or.inl ⟨by rfl, fun w _ => ?_⟩) hS6 ?_
  · go_simp
  simp only [Act.put, List.setIfInBounds_toArray, List.set_cons_zero, List.set_cons_succ]
  refine wpAnyH_take (i := 19) (oi := { dst := some 44, op := Op.pick (Operand.tmp 40) (Operand.tmp 43) (Operand.const (Value.bool false)), type := 4, pos := "crc.go:75", after := #[{ on := 15, ground := Ground.data }, { on := 18, ground := Ground.data }], guard := none }) (v := .bool true) rfl (by kernel_rfl) (by kernel_rfl) (by kernel_rfl) (fun _ _ _ h => h) (Or.inl ⟨by rfl, fun w _ => ?_⟩) hS6 ?_
  · go_simp
  simp only [Act.put, List.setIfInBounds_toArray, List.set_cons_zero, List.set_cons_succ]
  refine wpAnyH_take (i := 20) (oi := { dst := some 6, op := Op.assign (Operand.tmp 44), type := 4, pos := "crc.go:75", after := #[{ on := 19, ground := Ground.data }, { on := 15, ground := Ground.chain }, { on := 0, ground := Ground.phase }, { on := 1, ground := Ground.phase }, { on := 2, ground := Ground.phase }, { on := 3, ground := Ground.phase }, { on := 4, ground := Ground.phase }, { on := 5, ground := Ground.phase }, { on := 6, ground := Ground.phase }, { on := 7, ground := Ground.phase }, { on := 8, ground := Ground.phase }, { on := 9, ground := Ground.phase }, { on := 10, ground := Ground.phase }, { on := 11, ground := Ground.phase }, { on := 12, ground := Ground.phase }, { on := 13, ground := Ground.phase }, { on := 14, ground := Ground.phase }, { on := 15, ground := Ground.phase }, { on := 16, ground := Ground.phase }, { on := 17, ground := Ground.phase }, { on := 18, ground := Ground.phase }, { on := 19, ground := Ground.phase }], guard := none }) (v := .bool true) rfl (by kernel_rfl) (by kernel_rfl) (by kernel_rfl) (fun _ _ _ h => h) (Or.inl ⟨by rfl, fun w _ => ?_⟩) hS6 ?_
  · go_simp
  simp only [Act.put, List.setIfInBounds_toArray, List.set_cons_zero, List.set_cons_succ]
  refine wpAnyH_done (by kernel_rfl) ?_ _
  go_wp2
  go_ret
  exact ⟨rfl, Hk.out.trans hk6.undrew⟩
end Go.Proofs.Ytpfpmnlklhjggaa
