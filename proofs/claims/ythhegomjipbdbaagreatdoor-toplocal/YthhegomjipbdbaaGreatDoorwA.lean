import Derived.Test.YthhegomjipbdbaaGreatDoorqJZ
import Derived.Test.YthhegomjipbdbaaGreatDoorpEZ
import Derived.Laws.BitsAllLaws
import Derived.BigRegion
namespace Go.Proofs.YthhegomjipbdbaaGreatDoor.Pc
open Go.RowKit

theorem cell_kw {w : World} (q : KW w) {a : Addr} {v : Value} (h : w.cell? a = some v) : q.u.cell? a = some v :=
  (World.cell?_of_block (a := a) (q.h.block a.block (World.block_lt_of_cell? w _ h) (by simp))).trans h
theorem w64n {x : Int} {z : Nat} (e : x = (z : Int)) (h : z ≤ 9000000000000000000) : wrap64 x = (z : Int) := by rw [e]; unfold wrap64; omega
theorem win {x : Int} {z : Nat} (e : x = (z : Int)) (h : z ≤ 9000000000000000000) : IntKind.i64.wrap x = (z : Int) := by rw [e]; unfold IntKind.wrap; simp [IntKind.bits, IntKind.signed]; omega
theorem make_bytes (n : Nat) (w : World) (hn : n ≤ 140737488355300) : ∃ w', Sem.run Tryz.prog (Instr.makeSlice 28 (.int .i64 (n : Int)) (.int .i64 (n : Int))) w = .ok (.slice (some ⟨w.heap.size, 0, none⟩) n n) w' ∧ w'.heap[w.heap.size]? = some (.cells (List.replicate n (byt 0)).toArray 5 (0, 0)) ∧ Kept [] w w' := by
  obtain ⟨j0, gi, gz0, gz1, gz2⟩ := info_parts Tryz.info5
  obtain ⟨w', hrun, r1, r2⟩ := run_make_full (P := Tryz.prog) w 0 28 5 j0 (.int .u8 0) 1 Tryz.underlying28 gi gz0 gz1 .i64 .i64 n (by rw [gz2]; omega) (by unfold maxLen; omega) (by omega)
  have hr3 := row_heap r1 rfl
  rw [madeBytes] at hr3
  exact ⟨w', hrun, hr3, (Kept.of_grown r2).mono (by simp)⟩
theorem xor17 (x : Nat) (h : x < 256) : bits BinOp.xor IntKind.u8 (x : Int) 17 = ((x ^^^ 17 : Nat) : Int) := by
  have := u8_xor (x : Int) 17 (by omega) (by omega) (by decide) (by decide)
  simpa using this
/-- A list by its elements. -/
def rgf (f : Nat → Nat) (T : Nat) : List Nat := (List.range T).map f
theorem rgf_len (f : Nat → Nat) (T : Nat) : (rgf f T).length = T := by simp [rgf]
theorem rgf_at (f : Nat → Nat) (T i : Nat) (h : i < T) : (rgf f T)[i]? = some (f i) := by simp [rgf, h]
theorem rgf_getD (f : Nat → Nat) (T i : Nat) (h : i < T) : (rgf f T).getD i 0 = f i := by rw [List.getD_eq_getElem?_getD, rgf_at f T i h]; rfl
theorem rgf_ext {l : List Nat} {f : Nat → Nat} (h : ∀ i, i < l.length → l.getD i 0 = f i) : l = rgf f l.length := by
  apply List.ext_getElem?
  intro i
  by_cases hi : i < l.length
  · rw [rgf_at _ _ _ hi, ← h i hi, List.getD_eq_getElem?_getD, List.getElem?_eq_getElem hi]; rfl
  · rw [List.getElem?_eq_none (by omega), List.getElem?_eq_none (by rw [rgf_len]; omega)]
/-- A row of bytes in the block g. -/
def Rw (w : World) (g : Nat) (f : Nat → Nat) (T : Nat) : Prop := w.heap[g]? = some (.cells ((rgf f T).map byt).toArray 5 (0, 0))
theorem Rw.at {w : World} {g T : Nat} {f : Nat → Nat} (h : Rw w g f T) {i : Nat} (hi : i < T) : w.cell? ⟨g, i, none⟩ = some (.int .u8 (f i : Int)) := by
  have hh : w.heap[g]? = some (.cells ((rgf f T).map byt).toArray 5 (0, 0)) := h
  simp only [World.cell?, hh]
  rw [List.getElem?_toArray, List.getElem?_map, rgf_at f T i hi]
  rfl
theorem Rw.fz {w : World} {g T : Nat} {f : Nat → Nat} (h : Rw w g f T) (i : Nat) : w.frozen? ⟨g, i, none⟩ = false := by
  have hh : w.heap[g]? = some (.cells ((rgf f T).map byt).toArray 5 (0, 0)) := h
  simp [World.frozen?, hh]
theorem Rw.keep {w w' : World} {g T : Nat} {f : Nat → Nat} {ks : List Nat} (h : Rw w g f T) (hk : Kept ks w w') (hn : g ∉ ks) : Rw w' g f T := hk.heap h hn
theorem Rw.set {w : World} {g T : Nat} {f : Nat → Nat} (h : Rw w g f T) (i v : Nat) : Rw (w.setCell ⟨g, i, none⟩ (.int .u8 (v : Int))) g (fun j => if j = i then v else f j) T := by
  unfold Rw
  rw [heap_setCell_at h]
  congr 2
  rw [List.setIfInBounds_toArray]
  congr 1
  apply List.ext_getElem?
  intro j
  rw [List.getElem?_set]
  by_cases hj : j < T
  · rw [List.getElem?_map, List.getElem?_map, rgf_at _ _ _ hj, rgf_at _ _ _ hj]
    by_cases e : i = j
    · subst e; simp [rgf_len, hj, byt]
    · have e' : ¬ j = i := fun q => e q.symm
      simp [e, e']
  · rw [List.getElem?_eq_none (by simp [rgf_len]; omega), List.getElem?_eq_none (by simp [rgf_len]; omega)]
    by_cases e : i = j
    · subst e; simp [rgf_len, hj]
    · simp [e]
theorem Rw.reads {w : World} {g T : Nat} {f : Nat → Nat} (h : Rw w g f T) {m : Nat} (hm : m ≤ T) : Reads w (some ⟨g, 0, none⟩) (rgf f m) :=
  .inr ⟨g, 0, rfl, fun i hi => by
    rw [rgf_len] at hi
    rw [Nat.zero_add, h.at (by omega), rgf_getD f m i hi]; rfl⟩
theorem Rw.of {w : World} {g : Nat} {l : List Nat} (h : w.heap[g]? = some (.cells (l.map byt).toArray 5 (0, 0))) : Rw w g (fun i => l.getD i 0) l.length := by
  unfold Rw
  rw [← rgf_ext (l := l) (f := fun i => l.getD i 0) (fun i _ => rfl)]
  exact h

theorem rw_reads {w : World} {g T : Nat} {f : Nat → Nat} {l : List Nat} (h : Rw w g f T) (hT : l.length ≤ T) (hf : ∀ i, i < l.length → f i = l.getD i 0) : Reads w (some ⟨g, 0, none⟩) l := by
  have h1 := h.reads (m := l.length) hT
  rwa [← rgf_ext (l := l) (f := f) (fun i hi => (hf i hi).symm)] at h1

set_option maxHeartbeats 8000000 in
set_option maxRecDepth 1000000 in
theorem lentBytes_any (bo : Option Addr) (m cb : Nat) (l : List Nat) (w : World) (hr : Reads w bo l) (hm : l.length = m) (hl : m ≤ 140737488351232) :
    Calls Tryz.prog 6 #[.slice bo m cb] w fun e w' => ∃ g f, e = .returned (.slice (some ⟨g, 0, none⟩) (m + 9) (m + 9)) ∧ w.heap.size ≤ g ∧ Rw w' g f (m + 9) ∧ (∀ j, j < m → f j = l.getD j 0) ∧ (∀ j, m ≤ j → j < m + 9 → f j = 201) ∧ Kept [] w w' := by
  have HR := Hid.mk hr
  clear hr
  obtain ⟨T, eT⟩ : ∃ T, m + 9 = T := ⟨_, rfl⟩
  have v1 : wrap64 ((m : Int) + 9) = (T : Int) := w64n (by omega) (by omega)
  have v2 : IntKind.i64.wrap ((m : Int) + 9) = (T : Int) := win (by omega) (by omega)
  rw [eT]
  obtain ⟨w2, m2, b2, k2⟩ := make_bytes T w (by omega)
  obtain ⟨g, eg⟩ : ∃ g, w.heap.size = g := ⟨_, rfl⟩
  rw [eg] at m2 b2
  obtain ⟨w3, m3, b3, k3⟩ := copy_run w2 g T T bo m cb (List.replicate T (byt 0)) (l.map byt) b2 (by simp) (by simp [hm]) (by omega) (fun h0 => by
    rcases (HR.out.keep k2) with h | ⟨sg, off, e, hcc⟩
    · subst h; simp at hm; omega
    · subst e
      refine ⟨_, rfl, fun j u hj => ?_⟩
      have hjl : j < l.length := by
        rcases Nat.lt_or_ge j l.length with h | h
        · exact h
        · rw [List.getElem?_eq_none (by simpa using h)] at hj; cases hj
      rw [show (⟨sg, off, none⟩ : Addr).add j = ⟨sg, off + j, none⟩ by unfold Addr.add; split <;> simp_all, hcc j hjl]
      rw [List.getElem?_map, List.getElem?_eq_getElem hjl] at hj
      simp only [Option.map_some, Option.some.injEq] at hj
      rw [← hj, List.getD_eq_getElem?_getD, List.getElem?_eq_getElem hjl]; rfl) (bytes_one l)
  have B3 : Hid (Rw w3 g (fun i => (l ++ List.replicate 9 0).getD i 0) T) := Hid.mk (by
    have h9 : l.map byt ++ (List.replicate T (byt 0)).drop m = (l ++ List.replicate 9 0).map byt := by
      rw [List.map_append, List.drop_replicate, show T - m = 9 by omega]; simp
    rw [h9] at b3
    have h8 := Rw.of b3
    have h7 : (l ++ List.replicate 9 0).length = T := by simp; omega
    rwa [h7] at h8)
  have K3 : Hid (Kept [] w w3) := Hid.mk (k2.step k3 (fun x hx => by simp at hx; subst hx; exact .inr (Nat.le_of_eq eg)))
  have m3' : Sem.run Tryz.prog (Builtin.copy_ #[28, 28] 3 #[.slice (some ⟨g, 0, none⟩) T T, .slice bo m cb]) w2 = .ok (.int .i64 (m : Int)) w3 := m3
  have GW : Hid (w.heap.size ≤ g) := Hid.mk (Nat.le_of_eq eg)
  clear k2 k3 b2 b3 m3 eg
  go_enter Tryz.func6, Tryz.ntmps6
  go_wp2
  clear m2 m3' v1 v2
  go_loopw [4] (fun i wr => ∃ (k : Nat) (f : Nat → Nat), k ≤ T ∧ m ≤ k ∧ i = .int .i64 (k : Int) ∧ Hid (Rw wr g f T ∧ Kept [] w wr ∧ (∀ j, j < m → f j = l.getD j 0) ∧ (∀ j, m ≤ j → j < k → f j = 201))) (fun i _ => T - (intOf i).toNat)
  case atStart => exact ⟨m, _, by omega, Nat.le_refl _, rfl, Hid.mk ⟨B3.out, K3.out, fun j hj => by
    simp only [List.getD_eq_getElem?_getD]
    rw [List.getElem?_append_left (by omega)], fun j h1 h2 => by omega⟩⟩
  case round =>
    obtain ⟨k, f, hk, hmk, rfl, HI⟩ := hrel
    by_cases hlt : k < T
    · have ik : (k : Int) < (T : Int) := by omega
      have c1 := HI.out.1.at hlt
      have f1 := HI.out.1.fz k
      have KI : Hid (Kept [] w (wr.setCell ⟨g, k, none⟩ (.int .u8 201))) := Hid.mk (HI.out.2.1.setCell (p := ⟨g, k, none⟩) (.inr GW.out) _)
      have RI := Hid.mk (HI.out.1.set k 201)
      go_wp2
      go_roundw
      case rel => exact ⟨k + 1, _, by omega, by omega, by go_num, Hid.mk ⟨RI.out, KI.out, fun j hj => by
        rw [if_neg (by omega)]; exact HI.out.2.2.1 j hj, fun j h1 h2 => by
        by_cases e : j = k
        · rw [if_pos e]
        · rw [if_neg e]; exact HI.out.2.2.2 j h1 (by omega)⟩⟩
      case measure => simp [intOf]; omega
    · obtain rfl : T = k := by omega
      clear hlt hk hmk
      go_wp2
      go_ret
      exact ⟨g, f, rfl, GW.out, HI.out.1, HI.out.2.2.1, HI.out.2.2.2, HI.out.2.1⟩

set_option maxHeartbeats 8000000 in
set_option maxRecDepth 1000000 in
theorem bytesStay_any (g : Nat) (bo : Option Addr) (m cb : Nat) (l : List Nat) (f : Nat → Nat) (w : World) (hR : Rw w g f (m + 9)) (hf : ∀ j, j < m → f j = l.getD j 0) (hf2 : ∀ j, m ≤ j → j < m + 9 → f j = 201) (hr : Reads w bo l) (hby : Byts l) (hgb : ∀ bg boff, bo = some ⟨bg, boff, none⟩ → 0 < m → bg ≠ g) (hm : l.length = m) (hl : m ≤ 140737488351232) :
    Calls Tryz.prog 8 #[.slice (some ⟨g, 0, none⟩) (m + 9) (m + 9), .slice bo m cb] w fun e w' => ∃ f', e = .returned (.bool true) ∧ Rw w' g f' (m + 9) ∧ (∀ j, j < m → f' j = l.getD j 0 ^^^ 17) ∧ Kept [g] w w' := by
  obtain ⟨T, eT⟩ : ∃ T, m + 9 = T := ⟨_, rfl⟩
  rw [eT] at hR ⊢
  have HR := Hid.mk hR
  have HF := Hid.mk hf
  have HF2 := Hid.mk hf2
  have HB := Hid.mk hr
  have HG := Hid.mk hgb
  have HGS : Hid (g < w.heap.size) := Hid.mk (lt_of_block hR)
  clear hR hf hf2 hr hgb
  go_enter Tryz.func8, Tryz.ntmps8
  go_wp2
  go_loopw [5, 6] (fun ok i wr => ∃ (k : Nat) (h : Nat → Nat), k ≤ T ∧ ok = .bool true ∧ i = .int .i64 (k : Int) ∧ Hid (Rw wr g h T ∧ Kept [g] w wr ∧ (∀ j, k ≤ j → j < T → h j = f j) ∧ (∀ j, j < k → h j = f j ^^^ 17))) (fun _ i _ => T - (intOf i).toNat)
  case atStart => exact ⟨0, f, Nat.zero_le _, rfl, rfl, Hid.mk ⟨HR.out, Kept.refl _ _, fun j _ _ => rfl, fun j hj => by omega⟩⟩
  case round =>
    obtain ⟨k, h, hk, rfl, rfl, HI⟩ := hrel
    by_cases hlt : k < T
    · have ik : (k : Int) < (T : Int) := by omega
      have c1 := HI.out.1.at hlt
      have f1 := HI.out.1.fz k
      have hh := HI.out.2.2.1 k (Nat.le_refl _) hlt
      obtain ⟨x, ex⟩ : ∃ x, h k = x := ⟨_, rfl⟩
      have hx : x < 256 := by
        rw [← ex, hh]
        by_cases q : k < m
        · rw [HF.out k q]; exact getD_lt l k hby
        · rw [HF2.out k (by omega) (by omega)]; omega
      rw [ex] at c1
      have HXF : Hid (x = f k) := Hid.mk (by rw [← ex, hh])
      have x17 := xor17 x hx
      obtain ⟨y, ey⟩ : ∃ y, x ^^^ 17 = y := ⟨_, rfl⟩
      rw [ey] at x17
      have HY : Hid (y = f k ^^^ 17) := Hid.mk (by rw [← ey, HXF.out])
      by_cases hkm : k < m
      · have dk1 : decide ((m : Int) ≤ (k : Int)) = false := by simp; omega
        have dk2 : decide ((k : Int) < (m : Int)) = true := by simp; omega
        have dk3 : decide (m ≤ k) = false := by simp; omega
        have dk4 : decide (k < m) = true := by simp; omega
        obtain ⟨bg, boff, rfl, hbc⟩ : ∃ bg boff, bo = some ⟨bg, boff, none⟩ ∧ wr.cell? ⟨bg, boff + k, none⟩ = some (.int .u8 (x : Int)) := by
          rcases HB.out with q | ⟨bg, boff, e, hc⟩
          · subst q; simp at hm; omega
          · refine ⟨bg, boff, e, ?_⟩
            have h1 := hc k (by omega)
            have hlt2 := World.block_lt_of_cell? w _ h1
            rw [(World.cell?_of_block (a := ⟨bg, boff + k, none⟩) (HI.out.2.1.block bg hlt2 (by have := HG.out bg boff e (by omega); simpa using this))).trans h1, HXF.out, HF.out k hkm]; rfl
        clear hh hx ex ey
        go_wp2_with (fail)
        have NE : Nonempty (KW wr) := ⟨⟨wr, Kept.refl _ _⟩⟩
        have c1' := fun q : KW wr => cell_kw q c1
        have c3' := fun q : KW wr => cell_kw q hbc
        clear c1 hbc
        refine wp_region_kept (by kernel_rfl) (by kernel_rfl) ?_
        repeat (go_big_quiet_step (fail))
        refine wpQuiet_nil ?_
        rintro _ ⟨z, rfl⟩
        have KZ := Hid.mk z.h
        have c4 := c1' z
        clear c1' c3' NE
        generalize z.u = wz at *
        have f4 := (HI.out.1.keep KZ.out (by simp)).fz k
        have R5 := Hid.mk ((HI.out.1.keep KZ.out (by simp)).set k y)
        have K5 : Hid (Kept [g] w (wz.setCell ⟨g, k, none⟩ (.int .u8 (y : Int)))) := Hid.mk ((HI.out.2.1.trans (KZ.out.mono (by simp))).setCell (p := ⟨g, k, none⟩) (.inl (by simp)) _)
        go_wp2
        go_roundw
        case rel => exact ⟨k + 1, _, by omega, rfl, by go_num, Hid.mk ⟨R5.out, K5.out, (fun j h1 h2 => by rw [if_neg (by omega)]; exact HI.out.2.2.1 j (by omega) h2), (fun j hj => by
          by_cases e : j = k
          · rw [if_pos e, e]; exact HY.out
          · rw [if_neg e]; exact HI.out.2.2.2 j (by omega))⟩⟩
        case measure => simp [intOf]; omega
      · have dk1 : decide ((m : Int) ≤ (k : Int)) = true := by simp; omega
        have dk2 : decide ((k : Int) < (m : Int)) = false := by simp; omega
        have dk3 : decide (m ≤ k) = true := by simp; omega
        have dk4 : decide (k < m) = false := by simp; omega
        obtain rfl : 201 = x := by rw [HXF.out]; exact (HF2.out k (by omega) (by omega)).symm
        have x17' : bits BinOp.xor IntKind.u8 201 17 = (y : Int) := x17
        clear x17 hh hx ex ey
        go_wp2_with (fail)
        have NE : Nonempty (KW wr) := ⟨⟨wr, Kept.refl _ _⟩⟩
        have c1' := fun q : KW wr => cell_kw q c1
        clear c1
        refine wp_region_kept (by kernel_rfl) (by kernel_rfl) ?_
        repeat (go_big_quiet_step (fail))
        refine wpQuiet_nil ?_
        rintro _ ⟨z, rfl⟩
        have KZ := Hid.mk z.h
        have c4 := c1' z
        clear c1' NE
        generalize z.u = wz at *
        have f4 := (HI.out.1.keep KZ.out (by simp)).fz k
        have R5 := Hid.mk ((HI.out.1.keep KZ.out (by simp)).set k y)
        have K5 : Hid (Kept [g] w (wz.setCell ⟨g, k, none⟩ (.int .u8 (y : Int)))) := Hid.mk ((HI.out.2.1.trans (KZ.out.mono (by simp))).setCell (p := ⟨g, k, none⟩) (.inl (by simp)) _)
        go_wp2
        go_roundw
        case rel => exact ⟨k + 1, _, by omega, rfl, by go_num, Hid.mk ⟨R5.out, K5.out, (fun j h1 h2 => by rw [if_neg (by omega)]; exact HI.out.2.2.1 j (by omega) h2), (fun j hj => by
          by_cases e : j = k
          · rw [if_pos e, e]; exact HY.out
          · rw [if_neg e]; exact HI.out.2.2.2 j (by omega))⟩⟩
        case measure => simp [intOf]; omega
    · obtain rfl : T = k := by omega
      clear hlt hk
      go_wp2
      go_ret
      exact ⟨h, rfl, HI.out.1, fun j hj => by rw [HI.out.2.2.2 j (by omega), HF.out j hj], HI.out.2.1⟩

set_option maxHeartbeats 8000000 in
set_option maxRecDepth 1000000 in
/-- What bytes say, by the document. -/
theorem rsmall_any (ao : Option Addr) (m cap : Nat) (l : List Nat) (w : World) (hr : Reads w ao l) (hb : Byts l) (hm : l.length = m) (h4 : m ≤ 4) :
    Calls Tryz.prog 35 #[.slice ao m cap] w fun e w' => e = .returned (.int .i64 (num l : Int)) ∧ w' = w := by
  have HR := Hid.mk hr
  have HB := Hid.mk hb
  clear hr hb
  go_enter Tryz.func35, Tryz.ntmps35
  go_wp2
  go_loopw [3, 4] (fun n i wr => ∃ k x : Nat, k ≤ m ∧ n = .int .i64 (x : Int) ∧ i = .int .i64 (k : Int) ∧ Hid (x = num (l.take k)) ∧ wr = w) (fun _ i _ => m - (intOf i).toNat)
  case atStart => exact ⟨0, 0, Nat.zero_le _, rfl, rfl, Hid.mk rfl, rfl⟩
  case round =>
    obtain ⟨k, x, hk, rfl, rfl, HX, rfl⟩ := hrel
    by_cases hlt : k < m
    · have ik : (k : Int) < (m : Int) := by omega
      obtain ⟨g, off, rfl, hc⟩ : ∃ g off, ao = some ⟨g, off, none⟩ ∧ wr.cell? ⟨g, off + k, none⟩ = some (byt (l.getD k 0)) := by
        rcases HR.out with h | ⟨g, off, e, h⟩
        · subst h; simp at hm; omega
        · exact ⟨g, off, e, h k (by omega)⟩
      have hy := getD_lt l k HB.out
      have HS := Hid.mk (num_take_succ l k (by omega))
      obtain ⟨y, ey⟩ : ∃ y, l.getD k 0 = y := ⟨_, rfl⟩
      rw [ey] at hc hy HS
      have hc' : wr.cell? ⟨g, off + k, none⟩ = some (.int .u8 (y : Int)) := hc
      have hxl : x < 16777216 := by
        rw [HX.out]
        have h1 := num_lt (l.take k) (fun b hb => HB.out b (List.mem_of_mem_take hb))
        have h2 : (256 : Nat) ^ (l.take k).length ≤ 256 ^ 3 := Nat.pow_le_pow_right (by decide) (by simp; omega)
        omega
      obtain ⟨X, eX⟩ : ∃ X, 256 * x = X := ⟨_, rfl⟩
      obtain ⟨Z, eZ⟩ : ∃ Z, X + y = Z := ⟨_, rfl⟩
      have q1 : 256 * (x : Int) = (X : Int) := by omega
      have q2 : (X : Int) + (y : Int) = (Z : Int) := by omega
      have bX : X ≤ 9000000000000000000 := by omega
      have bZ : Z ≤ 9000000000000000000 := by omega
      have bY : y ≤ 9000000000000000000 := by omega
      have HZ : Hid (Z = num (l.take (k + 1))) := Hid.mk (by rw [HS.out, ← HX.out]; omega)
      have v1 : wrap64 (256 * (x : Int)) = (X : Int) := w64n q1 bX
      have v2 : IntKind.i64.wrap (256 * (x : Int)) = (X : Int) := win q1 bX
      have v3 : wrap64 ((X : Int) + (y : Int)) = (Z : Int) := w64n q2 bZ
      have v4 : IntKind.i64.wrap ((X : Int) + (y : Int)) = (Z : Int) := win q2 bZ
      have v5 : wrap64 (y : Int) = (y : Int) := w64n rfl bY
      have v6 : IntKind.i64.wrap (y : Int) = (y : Int) := win rfl bY
      clear hc ey hxl hy eX eZ q1 q2 bX bZ bY
      go_wp2
      go_roundw
      case rel => exact ⟨k + 1, Z, by omega, rfl, by go_num, HZ, trivial⟩
      case measure => simp [intOf]; omega
    · obtain rfl : m = k := by omega
      have HN : Hid (x = num l) := Hid.mk (by rw [HX.out, ← hm, List.take_length])
      clear hlt hk HX
      go_wp2
      go_ret
      exact ⟨by rw [HN.out]; rfl, rfl⟩
end Go.Proofs.YthhegomjipbdbaaGreatDoor.Pc
