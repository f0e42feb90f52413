import Derived.Test.YtplpjpijmnglfaaA1
namespace Go.Proofs.Ytplpjpijmnglfaa
open Go.RowKit

/-- A list of n numbers v, in a block of its own. -/
def Zr (k : IntKind) (e : TypeId) (w : World) (G n : Nat) (v : Int) : Prop := w.heap[G]? = some (.cells (List.replicate n (.int k v)).toArray e (0, 0))
theorem Zr.keep {k : IntKind} {e : TypeId} {w w' : World} {G n : Nat} {v : Int} {l : List Nat} (h : Zr k e w G n v) (hk : Kept l w w') (hn : G ∉ l) : Zr k e w' G n v := hk.heap h hn
theorem Zr.lt {k : IntKind} {e : TypeId} {w : World} {G n : Nat} {v : Int} (h : Zr k e w G n v) : G < w.heap.size := lt_of_block h
theorem Zr.at {k : IntKind} {e : TypeId} {w : World} {G n : Nat} {v : Int} (h : Zr k e w G n v) (i : Nat) (hi : i < n) : w.cell? ⟨G, i, none⟩ = some (.int k v) := by
  rw [cell_of_row _ _ _ _ _ _ h]; simp [hi]

/-- What giving tells. -/
def gvE (m g n s : Int) : Int := if n < 0 then 1 else if (m - g) / s < n then 111 else 0
/-- What giving n things of s bytes leaves. -/
def GPost (k : IntKind) (e : TypeId) (P : Nat) (m g t n s : Int) (w : World) (r : Ending) (w' : World) : Prop :=
  (gvE m g n s ≠ 0 ∧ r = .returned (.tuple #[.slice none 0 0, .int .i64 (gvE m g n s)]) ∧ Ar 62 w' P m g t ∧ Kept [] w w') ∨
  (gvE m g n s = 0 ∧ ∃ (G : Nat) (c : Nat), n = (c : Int) ∧ r = .returned (.tuple #[.slice (some ⟨G, 0, none⟩) c c, .int .i64 0]) ∧ Ar 62 w' P m (g + n * s) (mx t (g + n * s)) ∧ Zr k e w' G c 0 ∧ w.heap.size ≤ G ∧ Kept [P] w w')

theorem Try.info5 : (Try.prog.info? 5).map (fun i => (i.zero, i.size, i.bytes)) = some (some (.int .u8 0), 1, 1) := by kernel_rfl
theorem Try.info50 : (Try.prog.info? 50).map (fun i => (i.zero, i.size, i.bytes)) = some (some (.int .u16 0), 1, 2) := by kernel_rfl
theorem make_b (r : Nat) (w : World) (hr : r ≤ 1073741824) : ∃ w', Sem.run Try.prog (Instr.makeSlice 45 (.int .i64 (r : Int)) (.int .i64 (r : Int))) w = .ok (.slice (some ⟨w.heap.size, 0, none⟩) r r) w' ∧ Zr .u8 5 w' w.heap.size r 0 ∧ Kept [] w w' := by
  obtain ⟨j0, gi, gz0, gz1, gz2⟩ := info_parts Try.info5
  obtain ⟨w', hrun, r1, r2⟩ := run_make_full (P := Try.prog) w 0 45 5 j0 (.int .u8 0) 1 Try.underlying45 gi gz0 gz1 .i64 .i64 r (by rw [gz2]; omega) (by unfold maxLen; omega) (by omega)
  have hr3 := row_heap r1 rfl
  rw [show (madeCells (Value.int .u8 0).cells (r * 1)).toList = List.replicate r (.int .u8 0) by rw [Nat.mul_one]; exact toList_madeCells_one _ _] at hr3
  exact ⟨w', hrun, hr3, (Kept.of_grown r2).mono (by simp)⟩
theorem make_s (r : Nat) (w : World) (hr : r ≤ 1073741824) : ∃ w', Sem.run Try.prog (Instr.makeSlice 41 (.int .i64 (r : Int)) (.int .i64 (r : Int))) w = .ok (.slice (some ⟨w.heap.size, 0, none⟩) r r) w' ∧ Zr .u16 50 w' w.heap.size r 0 ∧ Kept [] w w' := by
  obtain ⟨j0, gi, gz0, gz1, gz2⟩ := info_parts Try.info50
  obtain ⟨w', hrun, r1, r2⟩ := run_make_full (P := Try.prog) w 0 41 50 j0 (.int .u16 0) 1 Try.underlying41 gi gz0 gz1 .i64 .i64 r (by rw [gz2]; omega) (by unfold maxLen; omega) (by omega)
  have hr3 := row_heap r1 rfl
  rw [show (madeCells (Value.int .u16 0).cells (r * 1)).toList = List.replicate r (.int .u16 0) by rw [Nat.mul_one]; exact toList_madeCells_one _ _] at hr3
  exact ⟨w', hrun, hr3, (Kept.of_grown r2).mono (by simp)⟩

theorem set2 {w : World} {P ty : Nat} {a b c : Value} (c' : Value) (h : w.heap[P]? = some (.cells #[a, b, c] ty (0, 0))) :
    (w.setCell ⟨P, 2, none⟩ c').heap[P]? = some (.cells #[a, b, c'] ty (0, 0)) ∧ Kept [P] w (w.setCell ⟨P, 2, none⟩ c') :=
  ⟨heap_setCell_at h, (Kept.refl [P] w).setCell (p := ⟨P, 2, none⟩) (.inl (by simp)) _⟩

set_option maxHeartbeats 4000000 in
theorem give24 (P : Nat) (m g t n : Int) (w : World) (h : Ar 62 w P m g t) (G : Gm m g t) :
    Calls Try.prog 24 #[.pointer (some ⟨P, 0, none⟩), .int .i64 n, .int .i64 1] w fun e w' => GPost .u8 5 P m g t n 1 w e w' := by
  obtain ⟨⟨c0, c1, c2⟩, f0, f1, f2⟩ := three h
  have HA := Hid.mk h
  obtain ⟨g0, g1, g2, g3⟩ := G
  clear h
  by_cases h0 : n < 0
  · have E : gvE m g n 1 = 1 := if_pos h0
    go_enter Try.func24, Try.ntmps24
    go_wp2
    go_ret2
    exact .inl ⟨by omega, by rw [E]; rfl, HA.out, Kept.refl _ _⟩
  · by_cases h1 : (m - g) / 1 < n
    · have E : gvE m g n 1 = 111 := by unfold gvE; rw [if_neg h0, if_pos h1]
      have HE := Hid.mk E
      clear E
      go_enter Try.func24, Try.ntmps24
      go_wp2
      go_quiet (fail)
      go_wp2
      go_ret2
      exact .inl ⟨by rw [HE.out]; omega, by rw [HE.out]; rfl, HA.out.drewN _, (Kept.refl _ _).drewN _⟩
    · have E : gvE m g n 1 = 0 := by unfold gvE; rw [if_neg h0, if_neg h1]
      have HE := Hid.mk E
      clear E
      obtain ⟨c, rfl⟩ : ∃ c : Nat, n = (c : Int) := ⟨n.toNat, by omega⟩
      have hc : (c : Int) ≤ m - g := by omega
      clear h0
      go_enter Try.func24, Try.ntmps24
      go_wp2
      go_quiet (fail)
      go_wp2
      obtain ⟨w1, hw1, HA1, HK1⟩ : ∃ w1, (w.drewN nq).setCell ⟨P, 1, none⟩ (.int .i64 (g + (c : Int))) = w1 ∧ Hid (Ar 62 w1 P m (g + (c : Int)) t) ∧ Hid (Kept [P] w w1) :=
        ⟨_, rfl, Hid.mk (set1 _ (HA.out.drewN nq)).1, Hid.mk (((Kept.refl [P] w).drewN nq).trans (set1 _ (HA.out.drewN nq)).2)⟩
      rw [hw1]
      clear hw1 c0 c1 c2 f0 f1 f2
      obtain ⟨⟨c0, c1, c2⟩, f0, f1, f2⟩ := three HA1.out
      have hmx : (if g + (c : Int) > t then g + (c : Int) else t) = mx t (g + (c : Int)) := rfl
      go_region_law (fail)
      all_goals
        obtain ⟨w2, hw2, HA2, HK2⟩ : ∃ w2, (w1.setCell ⟨P, 2, none⟩ (.int .i64 (mx t (g + (c : Int))))).drew = w2 ∧ Hid (Ar 62 w2 P m (g + (c : Int)) (mx t (g + (c : Int)))) ∧ Hid (Kept [P] w1 w2) :=
          ⟨_, rfl, Hid.mk (set2 _ HA1.out).1, Hid.mk (set2 _ HA1.out).2.drew⟩
        rw [hw2]
        obtain ⟨w3, hrun, hz, hk3⟩ := make_b c w2 (by omega)
        have HZ := Hid.mk hz
        have HK3 := Hid.mk hk3
        clear hw2 c0 c1 c2 f0 f1 f2 hmx hz hk3
        go_wp2
        go_ret2
        have hl := HA2.out.lt
        have hs1 := HK1.out.size
        have hs2 := HK2.out.size
        refine .inr ⟨HE.out, _, c, rfl, rfl, ?_, HZ.out, by omega, (HK1.out.trans HK2.out).trans (HK3.out.mono (by simp))⟩
        rw [Int.mul_one]
        exact HA2.out.keep HK3.out (by simp)

set_option maxHeartbeats 4000000 in
theorem give23 (P : Nat) (m g t n : Int) (w : World) (h : Ar 62 w P m g t) (G : Gm m g t) :
    Calls Try.prog 23 #[.pointer (some ⟨P, 0, none⟩), .int .i64 n, .int .i64 2] w fun e w' => GPost .u16 50 P m g t n 2 w e w' := by
  obtain ⟨⟨c0, c1, c2⟩, f0, f1, f2⟩ := three h
  have HA := Hid.mk h
  obtain ⟨g0, g1, g2, g3⟩ := G
  clear h
  by_cases h0 : n < 0
  · have E : gvE m g n 2 = 1 := if_pos h0
    go_enter Try.func23, Try.ntmps23
    go_wp2
    go_ret2
    exact .inl ⟨by omega, by rw [E]; rfl, HA.out, Kept.refl _ _⟩
  · by_cases h1 : (m - g) / 2 < n
    · have E : gvE m g n 2 = 111 := by unfold gvE; rw [if_neg h0, if_pos h1]
      have HE := Hid.mk E
      clear E
      go_enter Try.func23, Try.ntmps23
      go_wp2
      go_quiet (fail)
      go_wp2
      go_ret2
      exact .inl ⟨by rw [HE.out]; omega, by rw [HE.out]; rfl, HA.out.drewN _, (Kept.refl _ _).drewN _⟩
    · have E : gvE m g n 2 = 0 := by unfold gvE; rw [if_neg h0, if_neg h1]
      have HE := Hid.mk E
      clear E
      obtain ⟨c, rfl⟩ : ∃ c : Nat, n = (c : Int) := ⟨n.toNat, by omega⟩
      have hc : (c : Int) * 2 ≤ m - g := by omega
      clear h0
      go_enter Try.func23, Try.ntmps23
      go_wp2
      go_quiet (fail)
      go_wp2
      obtain ⟨w1, hw1, HA1, HK1⟩ : ∃ w1, (w.drewN nq).setCell ⟨P, 1, none⟩ (.int .i64 (g + (c : Int) * 2)) = w1 ∧ Hid (Ar 62 w1 P m (g + (c : Int) * 2) t) ∧ Hid (Kept [P] w w1) :=
        ⟨_, rfl, Hid.mk (set1 _ (HA.out.drewN nq)).1, Hid.mk (((Kept.refl [P] w).drewN nq).trans (set1 _ (HA.out.drewN nq)).2)⟩
      rw [hw1]
      clear hw1 c0 c1 c2 f0 f1 f2
      obtain ⟨⟨c0, c1, c2⟩, f0, f1, f2⟩ := three HA1.out
      have hmx : (if g + (c : Int) * 2 > t then g + (c : Int) * 2 else t) = mx t (g + (c : Int) * 2) := rfl
      go_region_law (fail)
      all_goals
        obtain ⟨w2, hw2, HA2, HK2⟩ : ∃ w2, (w1.setCell ⟨P, 2, none⟩ (.int .i64 (mx t (g + (c : Int) * 2)))).drew = w2 ∧ Hid (Ar 62 w2 P m (g + (c : Int) * 2) (mx t (g + (c : Int) * 2))) ∧ Hid (Kept [P] w1 w2) :=
          ⟨_, rfl, Hid.mk (set2 _ HA1.out).1, Hid.mk (set2 _ HA1.out).2.drew⟩
        rw [hw2]
        obtain ⟨w3, hrun, hz, hk3⟩ := make_s c w2 (by omega)
        have HZ := Hid.mk hz
        have HK3 := Hid.mk hk3
        clear hw2 c0 c1 c2 f0 f1 f2 hmx hz hk3
        go_wp2
        go_ret2
        have hl := HA2.out.lt
        have hs1 := HK1.out.size
        have hs2 := HK2.out.size
        refine .inr ⟨HE.out, _, c, rfl, rfl, ?_, HZ.out, by omega, (HK1.out.trans HK2.out).trans (HK3.out.mono (by simp))⟩
        exact HA2.out.keep HK3.out (by simp)

set_option maxHeartbeats 2000000 in
theorem bytes_any (P : Nat) (m g t n : Int) (w : World) (h : Ar 62 w P m g t) (G : Gm m g t) :
    Calls Try.prog 14 #[.pointer (some ⟨P, 0, none⟩), .int .i64 n] w fun e w' => GPost .u8 5 P m g t n 1 w e w' := by
  have C := Hid.mk (give24 P m g t n w h G)
  clear h G
  go_enter Try.func14, Try.ntmps14
  go_wp2_with (fail)
  refine C.out.mono ?_
  rintro e w' (⟨hE, rfl, hA, hK⟩ | ⟨hE, G, c, hn, rfl, hA, hZ, hG, hK⟩)
  · have HE := Hid.mk hE
    clear hE
    go_wp2
    go_ret2
    exact .inl ⟨HE.out, rfl, hA, hK⟩
  · have HE := Hid.mk hE
    have HN := Hid.mk hn
    clear hE hn
    go_wp2
    go_ret2
    exact .inr ⟨HE.out, G, c, HN.out, rfl, hA, hZ, hG, hK⟩
set_option maxHeartbeats 2000000 in
theorem samples_any (P : Nat) (m g t n : Int) (w : World) (h : Ar 62 w P m g t) (G : Gm m g t) :
    Calls Try.prog 12 #[.pointer (some ⟨P, 0, none⟩), .int .i64 n] w fun e w' => GPost .u16 50 P m g t n 2 w e w' := by
  have C := Hid.mk (give23 P m g t n w h G)
  clear h G
  go_enter Try.func12, Try.ntmps12
  go_wp2_with (fail)
  refine C.out.mono ?_
  rintro e w' (⟨hE, rfl, hA, hK⟩ | ⟨hE, G, c, hn, rfl, hA, hZ, hG, hK⟩)
  · have HE := Hid.mk hE
    clear hE
    go_wp2
    go_ret2
    exact .inl ⟨HE.out, rfl, hA, hK⟩
  · have HE := Hid.mk hE
    have HN := Hid.mk hn
    clear hE hn
    go_wp2
    go_ret2
    exact .inr ⟨HE.out, G, c, HN.out, rfl, hA, hZ, hG, hK⟩
end Go.Proofs.Ytplpjpijmnglfaa
