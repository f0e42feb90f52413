import Derived.Test.YtodlkpcbkilglaaDoorPdZ
import Derived.Test.YtodlkpcbkilglaaDoorAlZ
import Derived.ArgAppend
import Derived.Laws.BitsAllLaws
namespace Go.Proofs.YtodlkpcbkilglaaDoor
open Go.RowKit Go.Shelf
attribute [local go_sem] Oper.semAt_some

theorem rb_of {w : World} {bo : Option Addr} {l : List Nat} (h : Bt.Reads w bo l) : RB w bo l.length (gb l) := by
  rcases h with h | ⟨g, off, e, hc⟩
  · exact .inl (by rw [h]; rfl)
  · exact .inr ⟨g, off, e, fun i hi => hc i hi⟩
theorem reads_k {w w' : World} {bo : Option Addr} {l : List Nat} (h : Bt.Reads w bo l) (hk : Kept [] w w') : Bt.Reads w' bo l := by
  rcases h with h | ⟨g, off, e, hc⟩
  · exact .inl h
  · exact .inr ⟨g, off, e, fun i hi => cell_keep hk (hc i hi) (by simp)⟩
theorem xor_ne {c d : Nat} (h : 1 ≤ d) : c ^^^ d ≠ c := fun e => by
  have h9 : c ^^^ (c ^^^ d) = d := by rw [← Nat.xor_assoc, Nat.xor_self, Nat.zero_xor]
  rw [e, Nat.xor_self] at h9
  omega
theorem u8_in {d : Nat} (h : d < 256) : IntKind.u8.wrap (d : Int) = (d : Int) := by simp only [IntKind.wrap, IntKind.bits, IntKind.signed]; simp; omega
theorem w64_of {x : Int} (h0 : -9223372036854775808 ≤ x) (h1 : x ≤ 9223372036854775807) : wrap64 x = x := by unfold wrap64; omega
/-- A list of bytes of its own, in its block. -/
def TB (w : World) (T : Nat) (l : List Nat) : Prop := ∃ cur : Array Value, w.heap[T]? = some (.cells cur 5 (0, 0)) ∧ l.length ≤ cur.size ∧ ∀ i, i < l.length → cur[i]? = some (Bt.byt (l.getD i 0))
theorem tb_open {w : World} {B M : Nat} {V : Value} {l : List Nat} (h : w.ownsRow B 5 1 V M (l.map Bt.byt)) (hM : 1 ≤ M) : ∃ T c, V = .slice (some ⟨T, 0, none⟩) M c ∧ M ≤ c ∧ B ≤ T ∧ TB w T l := by
  obtain ⟨h1, h2⟩ := h
  have hl : l.length = M := by simpa using h1
  rcases h2 with ⟨e, h0⟩ | ⟨g, cap, cur, e, hB, hg, hc, _, hs, ht⟩
  · omega
  · refine ⟨g, cap, e, hc, hB, cur, hg, by omega, fun i hi => ?_⟩
    have h3 : (cur.toList.take (M * 1))[i]? = (l.map Bt.byt)[i]? := by rw [ht]
    rw [List.getElem?_take_of_lt (by omega), List.getElem?_map, List.getElem?_eq_getElem hi] at h3
    rw [List.getD_eq_getElem?_getD, List.getElem?_eq_getElem hi]
    simpa using h3
theorem TB.at {w : World} {T : Nat} {l : List Nat} (h : TB w T l) {i : Nat} (hi : i < l.length) : w.cell? ⟨T, i, none⟩ = some (.int .u8 ((l.getD i 0 : Nat) : Int)) := by
  obtain ⟨cur, h1, h2, h3⟩ := h
  rw [cell_of_row _ _ _ _ _ _ h1]
  exact h3 i hi
theorem TB.fz {w : World} {T : Nat} {l : List Nat} (h : TB w T l) (i : Nat) : w.frozen? ⟨T, i, none⟩ = false := by
  obtain ⟨cur, h1, -⟩ := h
  simp [World.frozen?, h1]
theorem TB.keep {w w' : World} {T : Nat} {l : List Nat} (h : TB w T l) (hk : Kept [] w w') : TB w' T l := by
  obtain ⟨cur, h1, h2⟩ := h
  exact ⟨cur, hk.heap h1 (by simp), h2⟩
theorem TB.lt {w : World} {T : Nat} {l : List Nat} (h : TB w T l) : T < w.heap.size := by
  obtain ⟨cur, h1, -⟩ := h
  exact lt_of_block h1
theorem TB.set {w : World} {T k x : Nat} {l : List Nat} (h : TB w T l) (hk : k < l.length) : TB (w.setCell ⟨T, k, none⟩ (.int .u8 (x : Int))) T (l.set k x) := by
  obtain ⟨cur, h1, h2, h3⟩ := h
  refine ⟨cur.setIfInBounds k (.int .u8 (x : Int)), ?_, by simpa using h2, fun i hi => ?_⟩
  · rw [heap_setCell_at h1]
  · rw [List.length_set] at hi
    rw [Array.getElem?_setIfInBounds]
    by_cases e : k = i
    · subst e
      rw [if_pos rfl, if_pos (by omega)]
      simp [hi, Bt.byt]
    · rw [if_neg e, h3 i hi]
      simp [List.getD_eq_getElem?_getD, List.getElem?_set_ne e]
theorem TB.reads {w : World} {T : Nat} {l : List Nat} (h : TB w T l) : Bt.Reads w (some ⟨T, 0, none⟩) l := .inr ⟨T, 0, rfl, fun i hi => by rw [Nat.zero_add]; exact h.at hi⟩
theorem byt_cell {w w' : World} {gB oB : Nat} {l : List Nat} (h : ∀ i, i < l.length → w.cell? ⟨gB, oB + i, none⟩ = some (Bt.byt (l.getD i 0))) (hk : Kept [] w w') {j : Nat} {u : Value} (hj : (l.map Bt.byt)[j]? = some u) : w'.cell? ((⟨gB, oB, none⟩ : Addr).add j) = some u := by
  have hjl : j < l.length := by
    rcases Nat.lt_or_ge j l.length with h | h
    · exact h
    · rw [List.getElem?_eq_none (by simpa using h)] at hj; cases hj
  have hadd : (⟨gB, oB, none⟩ : Addr).add j = ⟨gB, oB + j, none⟩ := by unfold Addr.add; split <;> simp_all
  rw [hadd, cell_keep hk (h j hjl) (by simp)]
  rw [List.getElem?_map, List.getElem?_eq_getElem hjl] at hj
  rw [← hj, List.getD_eq_getElem?_getD, List.getElem?_eq_getElem hjl]
  rfl
/-- The boxes of the arguments. -/
theorem boxes_one (w : World) (W H D : Int) (A : Bool) (bo : Option Addr) (M cb : Nat) (a b : Int) : ((w.alloc (.cells #[.int .i64 W, .int .i64 H, .int .i64 D, .bool A] 24)).alloc (.cells #[.slice bo M cb, .int .i64 a, .int .i64 b] 57)).heap[w.heap.size]? = some (.cells #[.int .i64 W, .int .i64 H, .int .i64 D, .bool A] 24 (0, 0)) ∧ ((w.alloc (.cells #[.int .i64 W, .int .i64 H, .int .i64 D, .bool A] 24)).alloc (.cells #[.slice bo M cb, .int .i64 a, .int .i64 b] 57)).heap[w.heap.size + 1]? = some (.cells #[.slice bo M cb, .int .i64 a, .int .i64 b] 57 (0, 0)) ∧ Kept [] w ((w.alloc (.cells #[.int .i64 W, .int .i64 H, .int .i64 D, .bool A] 24)).alloc (.cells #[.slice bo M cb, .int .i64 a, .int .i64 b] 57)) := by
  have k1 := alloc_kept w (.cells #[.int .i64 W, .int .i64 H, .int .i64 D, .bool A] 24)
  have k2 := alloc_kept (w.alloc (.cells #[.int .i64 W, .int .i64 H, .int .i64 D, .bool A] 24)) (.cells #[.slice bo M cb, .int .i64 a, .int .i64 b] 57)
  have h2 := heap_alloc_new (w.alloc (.cells #[.int .i64 W, .int .i64 H, .int .i64 D, .bool A] 24)) (.cells #[.slice bo M cb, .int .i64 a, .int .i64 b] 57)
  rw [World.size_alloc] at h2
  exact ⟨k2.heap (heap_alloc_new w _) (by simp), h2, k1.trans k2⟩
theorem four_cells {w : World} {b : Nat} {t : TypeId} {a0 a1 a2 a3 : Value} (h : w.heap[b]? = some (.cells #[a0, a1, a2, a3] t (0, 0))) : w.cell? ⟨b, 0, none⟩ = some a0 ∧ w.cell? ⟨b, 1, none⟩ = some a1 ∧ w.cell? ⟨b, 2, none⟩ = some a2 ∧ w.cell? ⟨b, 3, none⟩ = some a3 := by
  refine ⟨?_, ?_, ?_, ?_⟩ <;> (rw [cell_of_row _ _ _ _ _ _ h]; rfl)
theorem three_cells {w : World} {b : Nat} {t : TypeId} {a0 a1 a2 : Value} (h : w.heap[b]? = some (.cells #[a0, a1, a2] t (0, 0))) : w.cell? ⟨b, 0, none⟩ = some a0 ∧ w.cell? ⟨b, 1, none⟩ = some a1 ∧ w.cell? ⟨b, 2, none⟩ = some a2 := by
  refine ⟨?_, ?_, ?_⟩ <;> (rw [cell_of_row _ _ _ _ _ _ h]; rfl)
theorem alF_all {F G : Nat → Nat → Nat} {n : Nat} {ln : Nat → Nat} (h : alF F G n ln ln = true) : ∀ i, i < n → ∀ j, j < ln i → F i j = G i j := fun i hi j hj => by
  unfold alF at h
  rw [List.all_eq_true] at h
  have h1 := h i (by simpa using hi)
  unfold eqL at h1
  rw [decide_eq_true rfl, Bool.true_and, List.all_eq_true] at h1
  simpa using h1 j (by simpa using hj)
/-- Bytes that were turned are another frame, or none. -/
theorem un_turned (v : Bool) (W : Int) (h : Nat) (D : Int) (A : Bool) (l l2 : List Nat) (F : Nat → Nat → Nat) (hl2 : ∀ b ∈ l2, b < 256) (he : l2.length = l.length) (hne : l2 ≠ l) (hE : unE v W (h : Int) D A l.length (gb l) = 0) (hpk : pkL v W h A F = l)
    (T c7 : Nat) (u : World) (hT : Tab u) (hr : Bt.Reads u (some ⟨T, 0, none⟩) l2) (hc : l.length ≤ c7) :
    Calls Tryd.prog 24 #[.bool v, shv W (h : Int) D A, .slice (some ⟨T, 0, none⟩) l.length c7] u fun e w' => Kept [] u w' ∧ (e = .returned (.tuple #[frv 0 0 0 false none 0 0, .int .i64 73]) ∨ ∃ (G2 : Nat) (F2 : Nat → Nat → Nat), e = .returned (.tuple #[frv W (h : Int) D A (some ⟨G2, 0, none⟩) (np A) (np A), .int .i64 0]) ∧ Pl w' (some ⟨G2, 0, none⟩) (np A) (pz W (h : Int)) F2 ∧ alF F2 F (np A) (pz W (h : Int)) (pz W (h : Int)) = false) := by
  rw [← he]
  refine (unp24 v W (h : Int) D A (some ⟨T, 0, none⟩) l2.length c7 (gb l2) u hT (rb_of hr) (gb_lt hl2) (by omega)).mono ?_
  rintro e w' ⟨x1, x2, x3, x4, po, n, k, rfl, hk2, hq⟩
  refine ⟨hk2, ?_⟩
  rcases un_other (fb' := gb l2) hE with h0 | h0
  · right
    rw [← he] at h0
    rw [h0] at hq ⊢
    obtain ⟨e1, e2, e3, e4, e5, e6, G, bs, e7, -, -, hcc, hrr⟩ := hq.1 rfl
    rw [e1, e2, e3, e4, e5, e6, e7]
    refine ⟨G, _, rfl, .inr ⟨G, 0, rfl, fun i hi => ⟨_, _, by rw [Nat.zero_add]; exact hcc i hi, (hrr i hi).rd⟩⟩, ?_⟩
    obtain ⟨h', e', -, -, -, hp2⟩ := un_yes hl2 h0
    obtain rfl : h = h' := by omega
    by_cases ha : alF (unF v W (h : Int) (gb l2)) F (np A) (pz W (h : Int)) (pz W (h : Int)) = true
    · exact absurd ((hp2 F (fun i hi j hj => (alF_all ha i hi j hj).symm)).symm.trans hpk) hne
    · simpa using ha
  · left
    rw [← he] at h0
    rw [h0] at hq ⊢
    obtain ⟨rfl, rfl, rfl, rfl, rfl, rfl, rfl⟩ := hq.2 (by decide)
    rfl
set_option maxHeartbeats 8000000 in
set_option maxRecDepth 1000000 in
/-- PixelOne of bytes that are refused. -/
theorem one_no (v : Bool) (W H D : Int) (A : Bool) (bo : Option Addr) (cb : Nat) (l : List Nat) (a b : Int) (w : World) (hT : Tab w) (hb : Bt.Reads w bo l) (hl : ∀ b ∈ l, b < 256) (hcb : l.length ≤ cb) (hE : unE v W H D A l.length (gb l) ≠ 0) :
    Calls Tryd.prog 8 #[.bool v, shv W H D A, .agg #[.slice bo l.length cb, .int .i64 a, .int .i64 b]] w fun e w' => e = .returned (.bool true) ∧ Kept [] w w' := by
  have CA := Hid.mk (fun (u : World) (hk : Kept [] w u) => alive_any u (hT.keep hk (by simp)))
  have CU := Hid.mk (fun (u : World) (hk : Kept [] w u) => unp24 v W H D A bo l.length cb (gb l) u (hT.keep hk (by simp)) ((rb_of hb).keep hk) (gb_lt hl) hcb)
  obtain ⟨h4, h5, hk0⟩ := boxes_one w W H D A bo l.length cb a b
  obtain ⟨wa, ewa⟩ : ∃ wa, wa = (w.alloc (.cells #[.int .i64 W, .int .i64 H, .int .i64 D, .bool A] 24)).alloc (.cells #[.slice bo l.length cb, .int .i64 a, .int .i64 b] 57) := ⟨_, rfl⟩
  rw [← ewa] at h4 h5 hk0
  obtain ⟨P4, e4⟩ : ∃ P4, P4 = w.heap.size := ⟨_, rfl⟩
  obtain ⟨P5, e5⟩ : ∃ P5, P5 = w.heap.size + 1 := ⟨_, rfl⟩
  rw [← e4] at h4
  rw [← e5] at h5
  have HB := Hid.mk (And.intro h4 (And.intro h5 (And.intro hk0 (And.intro e4 e5))))
  clear h4 h5 hk0
  obtain ⟨E, eE⟩ : ∃ E, unE v W H D A l.length (gb l) = E := ⟨_, rfl⟩
  have CU2 : Hid (∀ u, Kept [] w u → Calls Tryd.prog 24 #[.bool v, shv W H D A, .slice bo l.length cb] u fun e w' => e = .returned (.tuple #[frv 0 0 0 false none 0 0, .int .i64 E]) ∧ Kept [] u w') := Hid.mk (fun u hk => (CU.out u hk).mono (by
    rintro e w' ⟨x1, x2, x3, x4, po, n, k, rfl, hk2, hq⟩
    obtain ⟨rfl, rfl, rfl, rfl, rfl, rfl, rfl⟩ := hq.2 hE
    exact ⟨by rw [eE], hk2⟩))
  rw [eE] at hE
  have hE2 : (E != 0) = true := by simpa using hE
  obtain ⟨M, eM⟩ : ∃ M, l.length = M := ⟨_, rfl⟩
  rw [eM] at CU2 HB ewa ⊢
  clear hT hb hl hcb eE eM CU
  go_enter Tryd.func8, Tryd.ntmps8
  go_wp2_with (fail)
  rw [← ewa, ← e5, ← e4]
  clear ewa e4 e5
  refine (CA.out _ HB.out.2.2.1).mono ?_
  rintro e w1 ⟨rfl, hk1⟩
  obtain ⟨p0, p1, p2, p3⟩ := four_cells (hk1.heap HB.out.1 (by simp))
  obtain ⟨q0, q1, q2⟩ := three_cells (hk1.heap HB.out.2.1 (by simp))
  have HK1 := Hid.mk (HB.out.2.2.1.trans hk1)
  clear hk1 CA
  go_wp2_with (fail)
  refine (CU2.out _ HK1.out).mono ?_
  rintro e w2 ⟨rfl, hk2⟩
  have hx := heap_alloc_new w2 (.cells #[.int .i64 0, .int .i64 0, .int .i64 0, .bool false, .slice none 0 0] 31)
  obtain ⟨⟨x0, x1, x2, x3, x4⟩, _⟩ := five hx
  have HK2 := Hid.mk ((HK1.out.trans hk2).trans (alloc_kept w2 (.cells #[.int .i64 0, .int .i64 0, .int .i64 0, .bool false, .slice none 0 0] 31)))
  clear hx hk2 p0 p1 p2 p3 q0 q1 q2 CU2
  go_wp2
  go_ret
  exact ⟨rfl, HK2.out⟩
set_option maxHeartbeats 16000000 in
set_option maxRecDepth 1000000 in
/-- PixelOne of bytes that are read. -/
theorem one_yes (v : Bool) (W H D : Int) (A : Bool) (bo : Option Addr) (cb : Nat) (l : List Nat) (a b : Int) (w : World) (hT : Tab w) (hb : Bt.Reads w bo l) (hl : ∀ b ∈ l, b < 256) (hcb : l.length ≤ cb) (hE : unE v W H D A l.length (gb l) = 0) (hM0 : l.length ≤ 140737488351232) (ha : -9223372036854775808 ≤ a ∧ a ≤ 9223372036854775807) (hbb : -9223372036854775808 ≤ b ∧ b ≤ 9223372036854775807) :
    Calls Tryd.prog 8 #[.bool v, shv W H D A, .agg #[.slice bo l.length cb, .int .i64 a, .int .i64 b]] w fun e w' => e = .returned (.bool true) ∧ Kept [] w w' := by
  obtain ⟨gB, oB, rfl, hcB⟩ : ∃ gB oB, bo = some ⟨gB, oB, none⟩ ∧ ∀ i, i < l.length → w.cell? ⟨gB, oB + i, none⟩ = some (Bt.byt (l.getD i 0)) := by
    obtain ⟨_, _, _, _, hM1, _⟩ := un_yes hl hE
    rcases hb with hb | hb
    · rw [hb] at hM1; simp at hM1
    · exact hb
  have HCB := Hid.mk hcB
  clear hcB
  have CA := Hid.mk (fun (u : World) (hk : Kept [] w u) => alive_any u (hT.keep hk (by simp)))
  have CU := Hid.mk (fun (u : World) (hk : Kept [] w u) => unp24 v W H D A (some ⟨gB, oB, none⟩) l.length cb (gb l) u (hT.keep hk (by simp)) ((rb_of hb).keep hk) (gb_lt hl) hcb)
  obtain ⟨h4, h5, hk0⟩ := boxes_one w W H D A (some ⟨gB, oB, none⟩) l.length cb a b
  obtain ⟨wa, ewa⟩ : ∃ wa, wa = (w.alloc (.cells #[.int .i64 W, .int .i64 H, .int .i64 D, .bool A] 24)).alloc (.cells #[.slice (some ⟨gB, oB, none⟩) l.length cb, .int .i64 a, .int .i64 b] 57) := ⟨_, rfl⟩
  rw [← ewa] at h4 h5 hk0
  obtain ⟨P4, e4⟩ : ∃ P4, P4 = w.heap.size := ⟨_, rfl⟩
  obtain ⟨P5, e5⟩ : ∃ P5, P5 = w.heap.size + 1 := ⟨_, rfl⟩
  rw [← e4] at h4
  rw [← e5] at h5
  have HB := Hid.mk (And.intro h4 (And.intro h5 (And.intro hk0 (And.intro e4 e5))))
  clear h4 h5 hk0
  obtain ⟨h, rfl, hV, hDA, hM1, hpk⟩ := un_yes hl hE
  obtain ⟨F, eF⟩ : ∃ F, unF v W (h : Int) (gb l) = F := ⟨_, rfl⟩
  rw [eF] at hV hpk
  have hl0 := hpk F (fun _ _ _ _ => rfl)
  have CU2 : Hid (∀ u, Kept [] w u → Calls Tryd.prog 24 #[.bool v, shv W (h : Int) D A, .slice (some ⟨gB, oB, none⟩) l.length cb] u fun e w' => ∃ (G : Nat) (bs : Nat → Nat), e = .returned (.tuple #[frv W (h : Int) D A (some ⟨G, 0, none⟩) (np A) (np A), .int .i64 0]) ∧ Kept [] u w' ∧ (∀ i, i < np A → w'.cell? ⟨G, i, none⟩ = some (.slice (some ⟨bs i, 0, none⟩) (pz W (h : Int) i) (pz W (h : Int) i))) ∧ ∀ i, i < np A → Row w' (bs i) (pz W (h : Int) i) (F i)) := Hid.mk (fun u hk => (CU.out u hk).mono (by
    rintro e w' ⟨x1, x2, x3, x4, po, n, k, rfl, hk2, hq⟩
    obtain ⟨rfl, rfl, rfl, rfl, rfl, rfl, G, bs, rfl, -, -, hc, hr⟩ := hq.1 hE
    exact ⟨G, bs, by rw [hE], hk2, hc, by rw [eF] at hr; exact hr⟩))
  have HT := Hid.mk hT
  have HBR := Hid.mk (And.intro hb (And.intro hl hE))
  have HPK := Hid.mk (And.intro hV (And.intro hDA (And.intro hpk (And.intro hl0 eF))))
  obtain ⟨M, eM⟩ : ∃ M, l.length = M := ⟨_, rfl⟩
  have EM := Hid.mk eM
  rw [eM] at CU2 HB ewa hM1 hM0 ⊢
  clear hT hb hl hcb hE eM CU hV hDA hpk hl0 eF
  go_enter Tryd.func8, Tryd.ntmps8
  go_wp2_with (fail)
  rw [← ewa, ← e5, ← e4]
  clear ewa e4 e5
  refine (CA.out _ HB.out.2.2.1).mono ?_
  rintro e w1 ⟨rfl, hk1⟩
  obtain ⟨p0, p1, p2, p3⟩ := four_cells (hk1.heap HB.out.1 (by simp))
  obtain ⟨q0, q1, q2⟩ := three_cells (hk1.heap HB.out.2.1 (by simp))
  have HK1 := Hid.mk (And.intro hk1 (HB.out.2.2.1.trans hk1))
  clear hk1 CA
  go_wp2_with (fail)
  refine (CU2.out _ HK1.out.2).mono ?_
  rintro e w2 ⟨G, bs, rfl, hk2, hc, hr⟩
  have hx := heap_alloc_new w2 (.cells #[.int .i64 W, .int .i64 (h : Int), .int .i64 D, .bool A, .slice (some ⟨G, 0, none⟩) (np A) (np A)] 31)
  have kx := alloc_kept w2 (.cells #[.int .i64 W, .int .i64 (h : Int), .int .i64 D, .bool A, .slice (some ⟨G, 0, none⟩) (np A) (np A)] 31)
  obtain ⟨⟨x0, x1, x2, x3, x4⟩, _⟩ := five hx
  have HFR := Hid.mk (show (w2.alloc (.cells #[.int .i64 W, .int .i64 (h : Int), .int .i64 D, .bool A, .slice (some ⟨G, 0, none⟩) (np A) (np A)] 31)).heap[w2.heap.size]? = some (.cells #[.int .i64 W, .int .i64 (h : Int), .int .i64 D, .bool A, .slice (some ⟨G, 0, none⟩) (np A) (np A)] 31 (0, 0)) ∧ (∀ i, i < np A → (w2.alloc (.cells #[.int .i64 W, .int .i64 (h : Int), .int .i64 D, .bool A, .slice (some ⟨G, 0, none⟩) (np A) (np A)] 31)).cell? ⟨G, i, none⟩ = some (.slice (some ⟨bs i, 0, none⟩) (pz W (h : Int) i) (pz W (h : Int) i))) ∧ ∀ i, i < np A → Row (w2.alloc (.cells #[.int .i64 W, .int .i64 (h : Int), .int .i64 D, .bool A, .slice (some ⟨G, 0, none⟩) (np A) (np A)] 31)) (bs i) (pz W (h : Int) i) (F i) from ⟨hx, fun i hi => cell_keep kx (hc i hi) (by simp), fun i hi => (hr i hi).keep kx (by simp)⟩)
  have HK2 := Hid.mk (And.intro ((HK1.out.1.trans hk2).trans kx) ((HK1.out.2.trans hk2).trans kx))
  clear hx hk2 hc hr kx p0 p1 p2 p3 q0 q1 q2
  go_wp2_with (fail)
  obtain ⟨P8, e8⟩ : ∃ P8, P8 = w2.heap.size := ⟨_, rfl⟩
  obtain ⟨w3, ew3⟩ : ∃ w3, w3 = w2.alloc (.cells #[.int .i64 W, .int .i64 (h : Int), .int .i64 D, .bool A, .slice (some ⟨G, 0, none⟩) (np A) (np A)] 31) := ⟨_, rfl⟩
  rw [← ew3, ← e8] at HFR ⊢
  rw [← ew3] at HK2
  rw [← ew3, ← e8] at x0 x1 x2 x3 x4
  clear ew3 e8
  have CPP : Hid (∀ u, Kept [] w3 u → Calls Tryd.prog 15 #[frv W (h : Int) D A (some ⟨G, 0, none⟩) (np A) (np A)] u fun e w' => ∃ g m, e = .returned (.tuple #[.slice (some ⟨g, 0, none⟩) m m, .int .i64 0]) ∧ w'.ownsRow 0 5 1 (.slice (some ⟨g, 0, none⟩) m m) m ((ctN (plL W h) (plR W h F) (np A * h)).map Bt.byt) ∧ Kept [] u w') := Hid.mk (fun u hk => (Pack_planar W D A (some ⟨G, 0, none⟩) (np A) (np A) h (pz W (h : Int)) bs (fun _ => 0) (pz W (h : Int)) F u HPK.out.1 ⟨G, 0, rfl, fun i hi => by rw [Nat.zero_add]; exact cell_keep hk (HFR.out.2.1 i hi) (by simp)⟩ (fun i hi => ((HFR.out.2.2 i hi).keep hk (by simp)).rd) (fun _ _ => Nat.le_refl _)).mono (by
    rintro e w' ⟨g, m, rfl, _, _, ho, hk2⟩
    exact ⟨g, m, rfl, ho, hk2⟩))
  have CPV : Hid (v = true → ∀ u, Kept [] w3 u → Calls Tryd.prog 16 #[frv W (h : Int) D A (some ⟨G, 0, none⟩) (np A) (np A)] u fun e w' => ∃ g m, e = .returned (.tuple #[.slice (some ⟨g, 0, none⟩) m m, .int .i64 0]) ∧ w'.ownsRow 0 5 1 (.slice (some ⟨g, 0, none⟩) m m) m ((ctN (v2L W) (v2R W F) (1 * h)).map Bt.byt) ∧ Kept [] u w') := Hid.mk (fun hv u hk => (Pack_v210 W D A (some ⟨G, 0, none⟩) (np A) (np A) h (pz W (h : Int)) bs (fun _ => 0) (pz W (h : Int)) F u HPK.out.1 (HPK.out.2.1 hv).1 (HPK.out.2.1 hv).2 (HT.out.keep (HK2.out.2.trans hk) (by simp)) ⟨G, 0, rfl, fun i hi => by rw [Nat.zero_add]; exact cell_keep hk (HFR.out.2.1 i hi) (by simp)⟩ (fun i hi => ((HFR.out.2.2 i hi).keep hk (by simp)).rd) (fun _ _ => Nat.le_refl _)).mono (by
    rintro e w' ⟨g, m, rfl, _, _, ho, hk2⟩
    exact ⟨g, m, rfl, ho, hk2⟩))
  refine (CPP.out _ (Kept.refl _ _)).mono ?_
  rintro e w4 ⟨g1, m1, rfl, ho1, hk4⟩
  have HO4 := Hid.mk (And.intro ho1 hk4)
  clear ho1 hk4 CPP x0 x1 x2 x3 x4
  cases v with
  | true =>
    obtain ⟨⟨x0, x1, x2, x3, x4⟩, _⟩ := five (HO4.out.2.heap HFR.out.1 (by simp))
    go_wp2_with (fail)
    refine (CPV.out (by simp) _ HO4.out.2).mono ?_
    rintro e w5 ⟨g2, m2, rfl, ho2, hk5⟩
    have HL := Hid.mk (show ctN (v2L W) (v2R W F) (1 * h) = l from HPK.out.2.2.2.1)
    rw [HL.out] at ho2
    obtain rfl : m2 = M := by have h9 := ho2.1; rw [List.length_map, EM.out] at h9; omega
    have HO5 := Hid.mk (And.intro ho2 (HO4.out.2.trans hk5))
    clear ho2 hk5 CPV x0 x1 x2 x3 x4 HL
    have HW5 := Hid.mk (HK2.out.1.trans HO5.out.2)
    have HWW := Hid.mk (HK2.out.2.trans HO5.out.2)
    obtain ⟨q0, q1, q2⟩ := three_cells (HW5.out.heap HB.out.2.1 (by simp))
    have r1 := Bt.reads_str (Bt.reads_row HO5.out.1) m2
    have r2 := Bt.reads_str (reads_k HBR.out.1 HWW.out) cb
    rw [EM.out] at r1 r2
    obtain ⟨S, eS⟩ : ∃ S, Bt.bstr l = S := ⟨_, rfl⟩
    rw [eS] at r1 r2
    clear eS
    have hm0 : ¬ (m2 : Int) = 0 := by omega
    have hm1 : ((m2 : Int) == 0) = false := by simpa using hm0
    obtain ⟨t0, t1, t2⟩ := three_cells ((HW5.out.trans (alloc_kept w5 (.cells #[] 5))).heap HB.out.2.1 (by simp))
    obtain ⟨j0, gi, gz0, gz1, gz2⟩ := info_parts Bt.Tryd.info5
    clear CU2
    try clear HO4
    go_wp2_with (at_builtin; refine wpList_append_grows (w5.alloc (.cells #[] 5)) rfl _ _ 37 rfl 5 j0 (.int .u8 0) 1 1 Tryd.underlying37 gi gz0 gz1 gz2 rfl (by decide) (some ⟨w5.heap.size, 0, none⟩) 0 0 [] (by rfl) (by simp) (by simp) (by simp) ⟨gB, oB, none⟩ m2 cb (l.map Bt.byt) (by rfl) (by rw [List.length_map, EM.out, Nat.mul_one]) (fun j u hj => byt_cell HCB.out (HWW.out.trans (alloc_kept w5 (.cells #[] 5))) hj) (fun u hu => by obtain ⟨x, _, rfl⟩ := List.mem_map.1 hu; rfl) (by omega) (by unfold maxLen; omega) (by omega) ?_; intro V7 w7 ho7 hk7; obtain ⟨T, c7, rfl, hc7, hT7, htb⟩ := tb_open (l := l) (M := m2) (by rw [Nat.zero_add, List.nil_append] at ho7; exact ho7) hM1; have HK7 := Hid.mk ((alloc_kept w5 (.cells #[] 5)).trans (Kept.of_grown hk7)); have HT7 := Hid.mk (And.intro htb (And.intro hc7 hT7)); obtain ⟨y0, y1, y2⟩ := three_cells ((HW5.out.trans HK7.out).heap HB.out.2.1 (by simp)); clear ho7 hk7 htb hc7 hT7)
    have CPa := Hid.mk (pick_any a (m2 : Int) w7 ha.1 ha.2 (by omega) (by omega))
    have hp0 := pick_lo a (m2 : Int) (by omega)
    have hp1 := pick_hi a (m2 : Int) (by omega)
    obtain ⟨k, hk⟩ : ∃ k : Nat, pick a (m2 : Int) = (k : Int) := ⟨(pick a (m2 : Int)).toNat, by omega⟩
    rw [hk] at CPa hp0 hp1
    have hkM : k < m2 := by omega
    clear hp0 hp1 hk t0 t1 t2 q0 q1 q2 r1 r2
    refine CPa.out.mono ?_
    rintro e w8 ⟨rfl, rfl⟩
    clear CPa
    have hkl : k < l.length := by rw [EM.out]; exact hkM
    have hkI : (k : Int) < (m2 : Int) := by omega
    obtain ⟨c, ec⟩ : ∃ c, l.getD k 0 = c := ⟨_, rfl⟩
    have z0 := HT7.out.1.at hkl
    rw [ec] at z0
    have z1 := HT7.out.1.fz k
    have hc256 : c < 256 := by rw [← ec]; exact gb_lt HBR.out.2.1 k hkl
    have CPb := Hid.mk (fun u => pick_any b 255 u hbb.1 hbb.2 (by decide) (by decide))
    have hp0 := pick_lo b 255 (by decide)
    have hp1 := pick_hi b 255 (by decide)
    obtain ⟨d, hd⟩ : ∃ d : Nat, pick b 255 = (d : Int) := ⟨(pick b 255).toNat, by omega⟩
    rw [hd] at CPb hp0 hp1
    obtain ⟨d1, hd1⟩ : ∃ d1 : Nat, d1 = d + 1 := ⟨_, rfl⟩
    have hd2 : 1 ≤ d1 ∧ d1 < 256 := by omega
    have hp5T : P5 ≠ T := fun e => by have h1 := HT7.out.2.2; have h2 := HB.out.2.2.1.size; have h3 := HW5.out.size; have h4 := lt_of_block HB.out.2.1; rw [World.size_alloc] at h1; omega
    have hb0 : (-9223372036854775808 : Int) ≤ 1 + (d : Int) := by omega
    have hb1 : 1 + (d : Int) ≤ 9223372036854775807 := by omega
    have hb2 : 1 + (d : Int) = (d1 : Int) := by omega
    have wd1 : wrap64 (1 + (d : Int)) = (d1 : Int) := (w64_of hb0 hb1).trans hb2
    have wd4 : IntKind.i64.wrap (1 + (d : Int)) = (d1 : Int) := (wrap_i hb0 hb1).trans hb2
    clear hb0 hb1 hb2
    have wd2 : IntKind.u8.wrap (d1 : Int) = (d1 : Int) := u8_in hd2.2
    have wd3 : bits .xor .u8 (c : Int) (d1 : Int) = ((c ^^^ d1 : Nat) : Int) := u8_xor_nat c d1 hc256 hd2.2
    obtain ⟨x, ex⟩ : ∃ x, c ^^^ d1 = x := ⟨_, rfl⟩
    rw [ex] at wd3
    have hxc : x ≠ c := by rw [← ex]; exact xor_ne hd2.1
    have hx256 : x < 256 := by rw [← ex]; exact Nat.xor_lt_two_pow (n := 8) hc256 hd2.2
    have y2s : (w8.drew.setCell ⟨T, k, none⟩ (.int .u8 (x : Int))).cell? ⟨P5, 2, none⟩ = some (.int .i64 b) := cell_keep (((Kept.refl [T] w8).drew).setCell (.inl (by simp)) _) y2 (by simpa using hp5T)
    have HST : Hid (TB (w8.drew.setCell ⟨T, k, none⟩ (.int .u8 (x : Int))) T (l.set k x) ∧ Kept [T] w8 (w8.drew.setCell ⟨T, k, none⟩ (.int .u8 (x : Int)))) := Hid.mk ⟨TB.set (HT7.out.1.keep ((Kept.refl [] w8).drew)) hkl, ((Kept.refl [T] w8).drew).setCell (.inl (by simp)) _⟩
    have HX := Hid.mk (And.intro hxc (And.intro hx256 (And.intro ec hkl)))
    clear hxc hx256 ec hkl hd1 hd hp0 hp1 hd2 ex hc256
    go_upto_region 14 with (fail)
    go_cut [] (fun wc => TB wc T (l.set k x) ∧ Kept [T] w8 wc)
    case first =>
      refine wp_region_held_drew (S := fun u => u.cell? ⟨P5, 2, none⟩ = some (.int .i64 b)) (by kernel_rfl) y2 (fun hH0 => ?_)
      refine wpAnyH_take (i := 0) (oi := _) (v := ?_) rfl (by kernel_rfl) (by kernel_rfl) (by kernel_rfl) (fun _ _ _ h => h) (Or.inl ⟨by rfl, ?y0a⟩) (by assumption) ?r0a
      case y0a => (intro u hSw; have hSu : u.cell? ⟨P5, 2, none⟩ = some (.int .i64 b) := hSw;  go_simp; try with_reducible rfl)
      refine wpAnyH_take (i := 1) (oi := _) (v := ?_) rfl (by kernel_rfl) (by kernel_rfl) (by kernel_rfl) (fun _ _ _ h => h) (Or.inl ⟨by rfl, ?y1a⟩) (by assumption) ?r1a
      case y1a => (intro u hSw; have hSu : u.cell? ⟨P5, 2, none⟩ = some (.int .i64 b) := hSw;  go_simp; try with_reducible rfl)
      refine wpAnyH_take (i := 2) (oi := _) (v := ?_) rfl (by kernel_rfl) (by kernel_rfl) (by kernel_rfl) (fun _ _ _ h => h) (Or.inl ⟨by rfl, ?y2a⟩) (by assumption) ?r2a
      case y2a => (intro u hSw; have hSu : u.cell? ⟨P5, 2, none⟩ = some (.int .i64 b) := hSw;  go_simp; try with_reducible rfl)
      refine wpAnyH_take (i := 3) (oi := _) (v := ?_) rfl (by kernel_rfl) (by kernel_rfl) (by kernel_rfl) (fun _ _ _ h => h) (Or.inl ⟨by rfl, ?y3a⟩) (by assumption) ?r3a
      case y3a => (intro u hSw; have hSu : u.cell? ⟨P5, 2, none⟩ = some (.int .i64 b) := hSw;  go_simp; try with_reducible rfl)
      refine wpAnyH_take (i := 4) (oi := _) (v := ?_) rfl (by kernel_rfl) (by kernel_rfl) (by kernel_rfl) (fun _ _ _ h => h) (Or.inl ⟨by rfl, ?y4a⟩) (by assumption) ?r4a
      case y4a => (intro u hSw; have hSu : u.cell? ⟨P5, 2, none⟩ = some (.int .i64 b) := hSw;  go_simp; try with_reducible rfl)
      refine wpAnyH_take (i := 6) (oi := _) (v := ?_) rfl (by kernel_rfl) (by kernel_rfl) (by kernel_rfl) (fun _ _ _ h => h) (Or.inl ⟨by rfl, ?y6a⟩) (by assumption) ?r6a
      case y6a => (intro u hSw; have hSu : u.cell? ⟨P5, 2, none⟩ = some (.int .i64 b) := hSw;  go_simp; try with_reducible rfl)
      refine wpAnyH_take (i := 7) (oi := _) (v := ?_) rfl (by kernel_rfl) (by kernel_rfl) (by kernel_rfl) (fun _ _ _ h => h) (Or.inl ⟨by rfl, ?y7a⟩) (by assumption) ?r7a
      case y7a => (intro u hSw; have hSu : u.cell? ⟨P5, 2, none⟩ = some (.int .i64 b) := hSw;  go_simp; try with_reducible rfl)
      refine wpAnyH_ready (rs := [5, 8]) (by kernel_rfl) (by simp) ?_
      refine AllReadyH.cons rfl (fun K hK => ?_) (AllReadyH.cons rfl (fun K hK => ?_) AllReadyH.nil)
      · go_simp
        refine hK.out _ _ y2 (fun hH1 => ?_)
        clear hK K
        refine wpAnyH_ready (rs := [8]) (by kernel_rfl) (by simp) ?_
        refine AllReadyH.cons rfl (fun K hK => ?_) AllReadyH.nil
        go_simp
        refine (CPb.out _).mono ?_
        rintro e w9 ⟨rfl, rfl⟩
        refine hK.out _ _ y2 (fun hH1 => ?_)
        clear hK K
        refine wpAnyH_take (i := 9) (oi := _) (v := ?_) rfl (by kernel_rfl) (by kernel_rfl) (by kernel_rfl) (fun _ _ _ h => h) (Or.inl ⟨by rfl, ?y9dx⟩) (by assumption) ?r9dx
        case y9dx => (intro u hSw; have hSu : u.cell? ⟨P5, 2, none⟩ = some (.int .i64 b) := hSw;  go_simp; try with_reducible rfl)
        refine wpAnyH_take (i := 10) (oi := _) (v := ?_) rfl (by kernel_rfl) (by kernel_rfl) (by kernel_rfl) (fun _ _ _ h => h) (Or.inl ⟨by rfl, ?y10dx⟩) (by assumption) ?r10dx
        case y10dx => (intro u hSw; have hSu : u.cell? ⟨P5, 2, none⟩ = some (.int .i64 b) := hSw;  go_simp; try with_reducible rfl)
        refine wpAnyH_take (i := 11) (oi := _) (v := ?_) rfl (by kernel_rfl) (by kernel_rfl) (by kernel_rfl) (fun _ _ _ h => h) (Or.inl ⟨by rfl, ?y11cx⟩) (by assumption) ?r11cx
        case y11cx => (intro u hSw; have hSu : u.cell? ⟨P5, 2, none⟩ = some (.int .i64 b) := hSw;  go_simp; try with_reducible rfl)
        refine wpAnyH_take (i := 12) (oi := _) (v := ?_) rfl (by kernel_rfl) (by kernel_rfl) (by kernel_rfl) (fun _ _ _ h => h) (Or.inl ⟨by rfl, ?y12cx⟩) (by assumption) ?r12cx
        case y12cx => (intro u hSw; have hSu : u.cell? ⟨P5, 2, none⟩ = some (.int .i64 b) := hSw;  go_simp; try with_reducible rfl)
        refine wpAnyH_ready (rs := [13]) (by kernel_rfl) (by simp) ?_
        refine AllReadyH.cons rfl (fun K hK => ?_) AllReadyH.nil
        go_simp
        refine hK.out _ _ y2s (fun hH9 => ?_)
        clear hK K
        refine wpAnyH_done (by kernel_rfl) ?_ _
        go_wp2
        go_meet
        exact HST.out
      · go_simp
        refine (CPb.out _).mono ?_
        rintro e w9 ⟨rfl, rfl⟩
        refine hK.out _ _ y2 (fun hH1 => ?_)
        clear hK K
        refine wpAnyH_take (i := 9) (oi := _) (v := ?_) rfl (by kernel_rfl) (by kernel_rfl) (by kernel_rfl) (fun _ _ _ h => h) (Or.inl ⟨by rfl, ?y9dy⟩) (by assumption) ?r9dy
        case y9dy => (intro u hSw; have hSu : u.cell? ⟨P5, 2, none⟩ = some (.int .i64 b) := hSw;  go_simp; try with_reducible rfl)
        refine wpAnyH_take (i := 10) (oi := _) (v := ?_) rfl (by kernel_rfl) (by kernel_rfl) (by kernel_rfl) (fun _ _ _ h => h) (Or.inl ⟨by rfl, ?y10dy⟩) (by assumption) ?r10dy
        case y10dy => (intro u hSw; have hSu : u.cell? ⟨P5, 2, none⟩ = some (.int .i64 b) := hSw;  go_simp; try with_reducible rfl)
        refine wpAnyH_ready (rs := [5]) (by kernel_rfl) (by simp) ?_
        refine AllReadyH.cons rfl (fun K hK => ?_) AllReadyH.nil
        go_simp
        refine hK.out _ _ y2 (fun hH1 => ?_)
        clear hK K
        refine wpAnyH_take (i := 11) (oi := _) (v := ?_) rfl (by kernel_rfl) (by kernel_rfl) (by kernel_rfl) (fun _ _ _ h => h) (Or.inl ⟨by rfl, ?y11cy⟩) (by assumption) ?r11cy
        case y11cy => (intro u hSw; have hSu : u.cell? ⟨P5, 2, none⟩ = some (.int .i64 b) := hSw;  go_simp; try with_reducible rfl)
        refine wpAnyH_take (i := 12) (oi := _) (v := ?_) rfl (by kernel_rfl) (by kernel_rfl) (by kernel_rfl) (fun _ _ _ h => h) (Or.inl ⟨by rfl, ?y12cy⟩) (by assumption) ?r12cy
        case y12cy => (intro u hSw; have hSu : u.cell? ⟨P5, 2, none⟩ = some (.int .i64 b) := hSw;  go_simp; try with_reducible rfl)
        refine wpAnyH_ready (rs := [13]) (by kernel_rfl) (by simp) ?_
        refine AllReadyH.cons rfl (fun K hK => ?_) AllReadyH.nil
        go_simp
        refine hK.out _ _ y2s (fun hH9 => ?_)
        clear hK K
        refine wpAnyH_done (by kernel_rfl) ?_ _
        go_wp2
        go_meet
        exact HST.out
    case rest =>
      obtain ⟨htb, hkT⟩ := hcut
      obtain ⟨wc14, rfl⟩ : ∃ z, z = wc := ⟨_, rfl⟩
      have HT14 := Hid.mk (And.intro htb hkT)
      clear htb hkT z0 z1 y0 y1 y2 y2s HST wd1 wd2 wd3 wd4 CPb
      have K14 : Hid (Kept [] w5 wc14) := Hid.mk (HK7.out.step HT14.out.2 (fun y hy => by simp at hy; right; have h1 := HT7.out.2.2; rw [World.size_alloc] at h1; omega))
      have KA14 := Hid.mk (HW5.out.trans K14.out)
      have KW14 := Hid.mk (HWW.out.trans K14.out)
      obtain ⟨p0, p1, p2, p3⟩ := four_cells (KA14.out.heap HB.out.1 (by simp))
      have KF14 := Hid.mk (HO5.out.2.trans K14.out)
      have hkl2 := HX.out.2.2.2
      have CU3 := Hid.mk (un_turned true W h D A l (l.set k x) F (fun y hy => by
        rcases List.mem_or_eq_of_mem_set hy with h9 | h9
        · exact HBR.out.2.1 y h9
        · rw [h9]; exact HX.out.2.1) (by simp) (fun e9 => HX.out.1 (by
        have h9 := congrArg (fun q => List.getD q k 0) e9
        simp only [List.getD_eq_getElem?_getD, List.getElem?_set_self hkl2, Option.getD_some] at h9
        rw [← HX.out.2.2.1, List.getD_eq_getElem?_getD]
        exact h9)) HBR.out.2.2 HPK.out.2.2.2.1 T c7 wc14 (HT.out.keep KW14.out (by simp)) HT14.out.1.reads (by rw [EM.out]; exact HT7.out.2.1))
      rw [EM.out] at CU3
      have HSZ : Hid (∀ i, i < np A → pz W (h : Int) i ≤ 9223372036854775807) := Hid.mk (fun i hi => by
        have h1 := HPK.out.1.len i hi
        have h2 := wpH (i : Int) HPK.out.1.shp.1.1 HPK.out.1.shp.1.2 HPK.out.1.shp.2.1.1 HPK.out.1.shp.2.1.2
        omega)
      have HW1 : Hid (W ≠ 0) := Hid.mk (by have := HPK.out.1.shp.1.1; omega)
      clear hkl2 hkI hkM
      go_wp2_with (fail)
      refine CU3.out.mono ?_
      rintro e w15 ⟨hk15, rfl | ⟨G2, F2, rfl, hpl, hal⟩⟩
      · have hx := heap_alloc_new w15 (.cells #[.int .i64 0, .int .i64 0, .int .i64 0, .bool false, .slice none 0 0] 31)
        have kx := alloc_kept w15 (.cells #[.int .i64 0, .int .i64 0, .int .i64 0, .bool false, .slice none 0 0] 31)
        obtain ⟨⟨x0, x1, x2, x3, x4⟩, _⟩ := five hx
        obtain ⟨⟨f0, f1, f2, f3, f4⟩, _⟩ := five (((KF14.out.trans hk15).trans kx).heap HFR.out.1 (by simp))
        have CS := Hid.mk (rsame_ne W (h : Int) D A (some ⟨G, 0, none⟩) none (np A) (np A) 0 0 (w15.alloc (.cells #[.int .i64 0, .int .i64 0, .int .i64 0, .bool false, .slice none 0 0] 31)) HW1.out)
        have KE := Hid.mk ((KW14.out.trans hk15).trans kx)
        clear hx kx hk15 p0 p1 p2 p3 CU3
        go_wp2_with (fail)
        refine CS.out.mono ?_
        rintro e w16 ⟨rfl, hk16⟩
        have KE2 := Hid.mk (KE.out.trans hk16)
        clear hk16 KE CS x0 x1 x2 x3 x4 f0 f1 f2 f3 f4
        go_wp2
        go_ret
        exact ⟨rfl, KE2.out⟩
      · have hx := heap_alloc_new w15 (.cells #[.int .i64 W, .int .i64 (h : Int), .int .i64 D, .bool A, .slice (some ⟨G2, 0, none⟩) (np A) (np A)] 31)
        have kx := alloc_kept w15 (.cells #[.int .i64 W, .int .i64 (h : Int), .int .i64 D, .bool A, .slice (some ⟨G2, 0, none⟩) (np A) (np A)] 31)
        obtain ⟨⟨x0, x1, x2, x3, x4⟩, _⟩ := five hx
        obtain ⟨⟨f0, f1, f2, f3, f4⟩, _⟩ := five (((KF14.out.trans hk15).trans kx).heap HFR.out.1 (by simp))
        have CS := Hid.mk (rsame_eq W (h : Int) D A (some ⟨G2, 0, none⟩) (some ⟨G, 0, none⟩) (np A) (np A) (np A) (pz W (h : Int)) (pz W (h : Int)) F2 F (w15.alloc (.cells #[.int .i64 W, .int .i64 (h : Int), .int .i64 D, .bool A, .slice (some ⟨G2, 0, none⟩) (np A) (np A)] 31)) (hpl.keep kx) (.inr ⟨G, 0, rfl, fun i hi => ⟨_, _, by rw [Nat.zero_add]; exact cell_keep ((KF14.out.trans hk15).trans kx) (HFR.out.2.1 i hi) (by simp), ((HFR.out.2.2 i hi).keep ((KF14.out.trans hk15).trans kx) (by simp)).rd⟩⟩) (by have := np_hi A; omega) HSZ.out HSZ.out)
        rw [hal] at CS
        have KE := Hid.mk ((KW14.out.trans hk15).trans kx)
        clear hx kx hk15 p0 p1 p2 p3 CU3 hpl hal
        go_wp2_with (fail)
        refine CS.out.mono ?_
        rintro e w16 ⟨rfl, hk16⟩
        have KE2 := Hid.mk (KE.out.trans hk16)
        clear hk16 KE CS x0 x1 x2 x3 x4 f0 f1 f2 f3 f4
        go_wp2
        go_ret
        exact ⟨rfl, KE2.out⟩
  | false =>
    have HL := Hid.mk (show ctN (plL W h) (plR W h F) (np A * h) = l from HPK.out.2.2.2.1)
    have ho2 := HO4.out.1
    rw [HL.out] at ho2
    obtain rfl : m1 = M := by have h9 := ho2.1; rw [List.length_map, EM.out] at h9; omega
    have HO5 := Hid.mk (And.intro ho2 HO4.out.2)
    clear ho2 CPV HL HO4
    obtain ⟨w5, e5⟩ : ∃ w5, w5 = w4 := ⟨_, rfl⟩
    obtain ⟨g2, e6⟩ : ∃ g2, g2 = g1 := ⟨_, rfl⟩
    rw [← e5, ← e6] at HO5 ⊢
    clear e5 e6
    have HW5 := Hid.mk (HK2.out.1.trans HO5.out.2)
    have HWW := Hid.mk (HK2.out.2.trans HO5.out.2)
    obtain ⟨q0, q1, q2⟩ := three_cells (HW5.out.heap HB.out.2.1 (by simp))
    have r1 := Bt.reads_str (Bt.reads_row HO5.out.1) m1
    have r2 := Bt.reads_str (reads_k HBR.out.1 HWW.out) cb
    rw [EM.out] at r1 r2
    obtain ⟨S, eS⟩ : ∃ S, Bt.bstr l = S := ⟨_, rfl⟩
    rw [eS] at r1 r2
    clear eS
    have hm0 : ¬ (m1 : Int) = 0 := by omega
    have hm1 : ((m1 : Int) == 0) = false := by simpa using hm0
    obtain ⟨t0, t1, t2⟩ := three_cells ((HW5.out.trans (alloc_kept w5 (.cells #[] 5))).heap HB.out.2.1 (by simp))
    obtain ⟨j0, gi, gz0, gz1, gz2⟩ := info_parts Bt.Tryd.info5
    clear CU2
    try clear HO4
    go_wp2_with (at_builtin; refine wpList_append_grows (w5.alloc (.cells #[] 5)) rfl _ _ 37 rfl 5 j0 (.int .u8 0) 1 1 Tryd.underlying37 gi gz0 gz1 gz2 rfl (by decide) (some ⟨w5.heap.size, 0, none⟩) 0 0 [] (by rfl) (by simp) (by simp) (by simp) ⟨gB, oB, none⟩ m1 cb (l.map Bt.byt) (by rfl) (by rw [List.length_map, EM.out, Nat.mul_one]) (fun j u hj => byt_cell HCB.out (HWW.out.trans (alloc_kept w5 (.cells #[] 5))) hj) (fun u hu => by obtain ⟨x, _, rfl⟩ := List.mem_map.1 hu; rfl) (by omega) (by unfold maxLen; omega) (by omega) ?_; intro V7 w7 ho7 hk7; obtain ⟨T, c7, rfl, hc7, hT7, htb⟩ := tb_open (l := l) (M := m1) (by rw [Nat.zero_add, List.nil_append] at ho7; exact ho7) hM1; have HK7 := Hid.mk ((alloc_kept w5 (.cells #[] 5)).trans (Kept.of_grown hk7)); have HT7 := Hid.mk (And.intro htb (And.intro hc7 hT7)); obtain ⟨y0, y1, y2⟩ := three_cells ((HW5.out.trans HK7.out).heap HB.out.2.1 (by simp)); clear ho7 hk7 htb hc7 hT7)
    have CPa := Hid.mk (pick_any a (m1 : Int) w7 ha.1 ha.2 (by omega) (by omega))
    have hp0 := pick_lo a (m1 : Int) (by omega)
    have hp1 := pick_hi a (m1 : Int) (by omega)
    obtain ⟨k, hk⟩ : ∃ k : Nat, pick a (m1 : Int) = (k : Int) := ⟨(pick a (m1 : Int)).toNat, by omega⟩
    rw [hk] at CPa hp0 hp1
    have hkM : k < m1 := by omega
    clear hp0 hp1 hk t0 t1 t2 q0 q1 q2 r1 r2
    refine CPa.out.mono ?_
    rintro e w8 ⟨rfl, rfl⟩
    clear CPa
    have hkl : k < l.length := by rw [EM.out]; exact hkM
    have hkI : (k : Int) < (m1 : Int) := by omega
    obtain ⟨c, ec⟩ : ∃ c, l.getD k 0 = c := ⟨_, rfl⟩
    have z0 := HT7.out.1.at hkl
    rw [ec] at z0
    have z1 := HT7.out.1.fz k
    have hc256 : c < 256 := by rw [← ec]; exact gb_lt HBR.out.2.1 k hkl
    have CPb := Hid.mk (fun u => pick_any b 255 u hbb.1 hbb.2 (by decide) (by decide))
    have hp0 := pick_lo b 255 (by decide)
    have hp1 := pick_hi b 255 (by decide)
    obtain ⟨d, hd⟩ : ∃ d : Nat, pick b 255 = (d : Int) := ⟨(pick b 255).toNat, by omega⟩
    rw [hd] at CPb hp0 hp1
    obtain ⟨d1, hd1⟩ : ∃ d1 : Nat, d1 = d + 1 := ⟨_, rfl⟩
    have hd2 : 1 ≤ d1 ∧ d1 < 256 := by omega
    have hp5T : P5 ≠ T := fun e => by have h1 := HT7.out.2.2; have h2 := HB.out.2.2.1.size; have h3 := HW5.out.size; have h4 := lt_of_block HB.out.2.1; rw [World.size_alloc] at h1; omega
    have hb0 : (-9223372036854775808 : Int) ≤ 1 + (d : Int) := by omega
    have hb1 : 1 + (d : Int) ≤ 9223372036854775807 := by omega
    have hb2 : 1 + (d : Int) = (d1 : Int) := by omega
    have wd1 : wrap64 (1 + (d : Int)) = (d1 : Int) := (w64_of hb0 hb1).trans hb2
    have wd4 : IntKind.i64.wrap (1 + (d : Int)) = (d1 : Int) := (wrap_i hb0 hb1).trans hb2
    clear hb0 hb1 hb2
    have wd2 : IntKind.u8.wrap (d1 : Int) = (d1 : Int) := u8_in hd2.2
    have wd3 : bits .xor .u8 (c : Int) (d1 : Int) = ((c ^^^ d1 : Nat) : Int) := u8_xor_nat c d1 hc256 hd2.2
    obtain ⟨x, ex⟩ : ∃ x, c ^^^ d1 = x := ⟨_, rfl⟩
    rw [ex] at wd3
    have hxc : x ≠ c := by rw [← ex]; exact xor_ne hd2.1
    have hx256 : x < 256 := by rw [← ex]; exact Nat.xor_lt_two_pow (n := 8) hc256 hd2.2
    have y2s : (w8.drew.setCell ⟨T, k, none⟩ (.int .u8 (x : Int))).cell? ⟨P5, 2, none⟩ = some (.int .i64 b) := cell_keep (((Kept.refl [T] w8).drew).setCell (.inl (by simp)) _) y2 (by simpa using hp5T)
    have HST : Hid (TB (w8.drew.setCell ⟨T, k, none⟩ (.int .u8 (x : Int))) T (l.set k x) ∧ Kept [T] w8 (w8.drew.setCell ⟨T, k, none⟩ (.int .u8 (x : Int)))) := Hid.mk ⟨TB.set (HT7.out.1.keep ((Kept.refl [] w8).drew)) hkl, ((Kept.refl [T] w8).drew).setCell (.inl (by simp)) _⟩
    have HX := Hid.mk (And.intro hxc (And.intro hx256 (And.intro ec hkl)))
    clear hxc hx256 ec hkl hd1 hd hp0 hp1 hd2 ex hc256
    go_upto_region 14 with (fail)
    go_cut [] (fun wc => TB wc T (l.set k x) ∧ Kept [T] w8 wc)
    case first =>
      refine wp_region_held_drew (S := fun u => u.cell? ⟨P5, 2, none⟩ = some (.int .i64 b)) (by kernel_rfl) y2 (fun hH0 => ?_)
      refine wpAnyH_take (i := 0) (oi := _) (v := ?_) rfl (by kernel_rfl) (by kernel_rfl) (by kernel_rfl) (fun _ _ _ h => h) (Or.inl ⟨by rfl, ?y0fa⟩) (by assumption) ?r0fa
      case y0fa => (intro u hSw; have hSu : u.cell? ⟨P5, 2, none⟩ = some (.int .i64 b) := hSw;  go_simp; try with_reducible rfl)
      refine wpAnyH_take (i := 1) (oi := _) (v := ?_) rfl (by kernel_rfl) (by kernel_rfl) (by kernel_rfl) (fun _ _ _ h => h) (Or.inl ⟨by rfl, ?y1fa⟩) (by assumption) ?r1fa
      case y1fa => (intro u hSw; have hSu : u.cell? ⟨P5, 2, none⟩ = some (.int .i64 b) := hSw;  go_simp; try with_reducible rfl)
      refine wpAnyH_take (i := 2) (oi := _) (v := ?_) rfl (by kernel_rfl) (by kernel_rfl) (by kernel_rfl) (fun _ _ _ h => h) (Or.inl ⟨by rfl, ?y2fa⟩) (by assumption) ?r2fa
      case y2fa => (intro u hSw; have hSu : u.cell? ⟨P5, 2, none⟩ = some (.int .i64 b) := hSw;  go_simp; try with_reducible rfl)
      refine wpAnyH_take (i := 3) (oi := _) (v := ?_) rfl (by kernel_rfl) (by kernel_rfl) (by kernel_rfl) (fun _ _ _ h => h) (Or.inl ⟨by rfl, ?y3fa⟩) (by assumption) ?r3fa
      case y3fa => (intro u hSw; have hSu : u.cell? ⟨P5, 2, none⟩ = some (.int .i64 b) := hSw;  go_simp; try with_reducible rfl)
      refine wpAnyH_take (i := 4) (oi := _) (v := ?_) rfl (by kernel_rfl) (by kernel_rfl) (by kernel_rfl) (fun _ _ _ h => h) (Or.inl ⟨by rfl, ?y4fa⟩) (by assumption) ?r4fa
      case y4fa => (intro u hSw; have hSu : u.cell? ⟨P5, 2, none⟩ = some (.int .i64 b) := hSw;  go_simp; try with_reducible rfl)
      refine wpAnyH_take (i := 6) (oi := _) (v := ?_) rfl (by kernel_rfl) (by kernel_rfl) (by kernel_rfl) (fun _ _ _ h => h) (Or.inl ⟨by rfl, ?y6fa⟩) (by assumption) ?r6fa
      case y6fa => (intro u hSw; have hSu : u.cell? ⟨P5, 2, none⟩ = some (.int .i64 b) := hSw;  go_simp; try with_reducible rfl)
      refine wpAnyH_take (i := 7) (oi := _) (v := ?_) rfl (by kernel_rfl) (by kernel_rfl) (by kernel_rfl) (fun _ _ _ h => h) (Or.inl ⟨by rfl, ?y7fa⟩) (by assumption) ?r7fa
      case y7fa => (intro u hSw; have hSu : u.cell? ⟨P5, 2, none⟩ = some (.int .i64 b) := hSw;  go_simp; try with_reducible rfl)
      refine wpAnyH_ready (rs := [5, 8]) (by kernel_rfl) (by simp) ?_
      refine AllReadyH.cons rfl (fun K hK => ?_) (AllReadyH.cons rfl (fun K hK => ?_) AllReadyH.nil)
      · go_simp
        refine hK.out _ _ y2 (fun hH1 => ?_)
        clear hK K
        refine wpAnyH_ready (rs := [8]) (by kernel_rfl) (by simp) ?_
        refine AllReadyH.cons rfl (fun K hK => ?_) AllReadyH.nil
        go_simp
        refine (CPb.out _).mono ?_
        rintro e w9 ⟨rfl, rfl⟩
        refine hK.out _ _ y2 (fun hH1 => ?_)
        clear hK K
        refine wpAnyH_take (i := 9) (oi := _) (v := ?_) rfl (by kernel_rfl) (by kernel_rfl) (by kernel_rfl) (fun _ _ _ h => h) (Or.inl ⟨by rfl, ?y9fdx⟩) (by assumption) ?r9fdx
        case y9fdx => (intro u hSw; have hSu : u.cell? ⟨P5, 2, none⟩ = some (.int .i64 b) := hSw;  go_simp; try with_reducible rfl)
        refine wpAnyH_take (i := 10) (oi := _) (v := ?_) rfl (by kernel_rfl) (by kernel_rfl) (by kernel_rfl) (fun _ _ _ h => h) (Or.inl ⟨by rfl, ?y10fdx⟩) (by assumption) ?r10fdx
        case y10fdx => (intro u hSw; have hSu : u.cell? ⟨P5, 2, none⟩ = some (.int .i64 b) := hSw;  go_simp; try with_reducible rfl)
        refine wpAnyH_take (i := 11) (oi := _) (v := ?_) rfl (by kernel_rfl) (by kernel_rfl) (by kernel_rfl) (fun _ _ _ h => h) (Or.inl ⟨by rfl, ?y11fcx⟩) (by assumption) ?r11fcx
        case y11fcx => (intro u hSw; have hSu : u.cell? ⟨P5, 2, none⟩ = some (.int .i64 b) := hSw;  go_simp; try with_reducible rfl)
        refine wpAnyH_take (i := 12) (oi := _) (v := ?_) rfl (by kernel_rfl) (by kernel_rfl) (by kernel_rfl) (fun _ _ _ h => h) (Or.inl ⟨by rfl, ?y12fcx⟩) (by assumption) ?r12fcx
        case y12fcx => (intro u hSw; have hSu : u.cell? ⟨P5, 2, none⟩ = some (.int .i64 b) := hSw;  go_simp; try with_reducible rfl)
        refine wpAnyH_ready (rs := [13]) (by kernel_rfl) (by simp) ?_
        refine AllReadyH.cons rfl (fun K hK => ?_) AllReadyH.nil
        go_simp
        refine hK.out _ _ y2s (fun hH9 => ?_)
        clear hK K
        refine wpAnyH_done (by kernel_rfl) ?_ _
        go_wp2
        go_meet
        exact HST.out
      · go_simp
        refine (CPb.out _).mono ?_
        rintro e w9 ⟨rfl, rfl⟩
        refine hK.out _ _ y2 (fun hH1 => ?_)
        clear hK K
        refine wpAnyH_take (i := 9) (oi := _) (v := ?_) rfl (by kernel_rfl) (by kernel_rfl) (by kernel_rfl) (fun _ _ _ h => h) (Or.inl ⟨by rfl, ?y9fdy⟩) (by assumption) ?r9fdy
        case y9fdy => (intro u hSw; have hSu : u.cell? ⟨P5, 2, none⟩ = some (.int .i64 b) := hSw;  go_simp; try with_reducible rfl)
        refine wpAnyH_take (i := 10) (oi := _) (v := ?_) rfl (by kernel_rfl) (by kernel_rfl) (by kernel_rfl) (fun _ _ _ h => h) (Or.inl ⟨by rfl, ?y10fdy⟩) (by assumption) ?r10fdy
        case y10fdy => (intro u hSw; have hSu : u.cell? ⟨P5, 2, none⟩ = some (.int .i64 b) := hSw;  go_simp; try with_reducible rfl)
        refine wpAnyH_ready (rs := [5]) (by kernel_rfl) (by simp) ?_
        refine AllReadyH.cons rfl (fun K hK => ?_) AllReadyH.nil
        go_simp
        refine hK.out _ _ y2 (fun hH1 => ?_)
        clear hK K
        refine wpAnyH_take (i := 11) (oi := _) (v := ?_) rfl (by kernel_rfl) (by kernel_rfl) (by kernel_rfl) (fun _ _ _ h => h) (Or.inl ⟨by rfl, ?y11fcy⟩) (by assumption) ?r11fcy
        case y11fcy => (intro u hSw; have hSu : u.cell? ⟨P5, 2, none⟩ = some (.int .i64 b) := hSw;  go_simp; try with_reducible rfl)
        refine wpAnyH_take (i := 12) (oi := _) (v := ?_) rfl (by kernel_rfl) (by kernel_rfl) (by kernel_rfl) (fun _ _ _ h => h) (Or.inl ⟨by rfl, ?y12fcy⟩) (by assumption) ?r12fcy
        case y12fcy => (intro u hSw; have hSu : u.cell? ⟨P5, 2, none⟩ = some (.int .i64 b) := hSw;  go_simp; try with_reducible rfl)
        refine wpAnyH_ready (rs := [13]) (by kernel_rfl) (by simp) ?_
        refine AllReadyH.cons rfl (fun K hK => ?_) AllReadyH.nil
        go_simp
        refine hK.out _ _ y2s (fun hH9 => ?_)
        clear hK K
        refine wpAnyH_done (by kernel_rfl) ?_ _
        go_wp2
        go_meet
        exact HST.out
    case rest =>
      obtain ⟨htb, hkT⟩ := hcut
      obtain ⟨wc14, rfl⟩ : ∃ z, z = wc := ⟨_, rfl⟩
      have HT14 := Hid.mk (And.intro htb hkT)
      clear htb hkT z0 z1 y0 y1 y2 y2s HST wd1 wd2 wd3 wd4 CPb
      have K14 : Hid (Kept [] w5 wc14) := Hid.mk (HK7.out.step HT14.out.2 (fun y hy => by simp at hy; right; have h1 := HT7.out.2.2; rw [World.size_alloc] at h1; omega))
      have KA14 := Hid.mk (HW5.out.trans K14.out)
      have KW14 := Hid.mk (HWW.out.trans K14.out)
      obtain ⟨p0, p1, p2, p3⟩ := four_cells (KA14.out.heap HB.out.1 (by simp))
      have KF14 := Hid.mk (HO5.out.2.trans K14.out)
      have hkl2 := HX.out.2.2.2
      have CU3 := Hid.mk (un_turned false W h D A l (l.set k x) F (fun y hy => by
        rcases List.mem_or_eq_of_mem_set hy with h9 | h9
        · exact HBR.out.2.1 y h9
        · rw [h9]; exact HX.out.2.1) (by simp) (fun e9 => HX.out.1 (by
        have h9 := congrArg (fun q => List.getD q k 0) e9
        simp only [List.getD_eq_getElem?_getD, List.getElem?_set_self hkl2, Option.getD_some] at h9
        rw [← HX.out.2.2.1, List.getD_eq_getElem?_getD]
        exact h9)) HBR.out.2.2 HPK.out.2.2.2.1 T c7 wc14 (HT.out.keep KW14.out (by simp)) HT14.out.1.reads (by rw [EM.out]; exact HT7.out.2.1))
      rw [EM.out] at CU3
      have HSZ : Hid (∀ i, i < np A → pz W (h : Int) i ≤ 9223372036854775807) := Hid.mk (fun i hi => by
        have h1 := HPK.out.1.len i hi
        have h2 := wpH (i : Int) HPK.out.1.shp.1.1 HPK.out.1.shp.1.2 HPK.out.1.shp.2.1.1 HPK.out.1.shp.2.1.2
        omega)
      have HW1 : Hid (W ≠ 0) := Hid.mk (by have := HPK.out.1.shp.1.1; omega)
      clear hkl2 hkI hkM
      go_wp2_with (fail)
      refine CU3.out.mono ?_
      rintro e w15 ⟨hk15, rfl | ⟨G2, F2, rfl, hpl, hal⟩⟩
      · have hx := heap_alloc_new w15 (.cells #[.int .i64 0, .int .i64 0, .int .i64 0, .bool false, .slice none 0 0] 31)
        have kx := alloc_kept w15 (.cells #[.int .i64 0, .int .i64 0, .int .i64 0, .bool false, .slice none 0 0] 31)
        obtain ⟨⟨x0, x1, x2, x3, x4⟩, _⟩ := five hx
        obtain ⟨⟨f0, f1, f2, f3, f4⟩, _⟩ := five (((KF14.out.trans hk15).trans kx).heap HFR.out.1 (by simp))
        have CS := Hid.mk (rsame_ne W (h : Int) D A (some ⟨G, 0, none⟩) none (np A) (np A) 0 0 (w15.alloc (.cells #[.int .i64 0, .int .i64 0, .int .i64 0, .bool false, .slice none 0 0] 31)) HW1.out)
        have KE := Hid.mk ((KW14.out.trans hk15).trans kx)
        clear hx kx hk15 p0 p1 p2 p3 CU3
        go_wp2_with (fail)
        refine CS.out.mono ?_
        rintro e w16 ⟨rfl, hk16⟩
        have KE2 := Hid.mk (KE.out.trans hk16)
        clear hk16 KE CS x0 x1 x2 x3 x4 f0 f1 f2 f3 f4
        go_wp2
        go_ret
        exact ⟨rfl, KE2.out⟩
      · have hx := heap_alloc_new w15 (.cells #[.int .i64 W, .int .i64 (h : Int), .int .i64 D, .bool A, .slice (some ⟨G2, 0, none⟩) (np A) (np A)] 31)
        have kx := alloc_kept w15 (.cells #[.int .i64 W, .int .i64 (h : Int), .int .i64 D, .bool A, .slice (some ⟨G2, 0, none⟩) (np A) (np A)] 31)
        obtain ⟨⟨x0, x1, x2, x3, x4⟩, _⟩ := five hx
        obtain ⟨⟨f0, f1, f2, f3, f4⟩, _⟩ := five (((KF14.out.trans hk15).trans kx).heap HFR.out.1 (by simp))
        have CS := Hid.mk (rsame_eq W (h : Int) D A (some ⟨G2, 0, none⟩) (some ⟨G, 0, none⟩) (np A) (np A) (np A) (pz W (h : Int)) (pz W (h : Int)) F2 F (w15.alloc (.cells #[.int .i64 W, .int .i64 (h : Int), .int .i64 D, .bool A, .slice (some ⟨G2, 0, none⟩) (np A) (np A)] 31)) (hpl.keep kx) (.inr ⟨G, 0, rfl, fun i hi => ⟨_, _, by rw [Nat.zero_add]; exact cell_keep ((KF14.out.trans hk15).trans kx) (HFR.out.2.1 i hi) (by simp), ((HFR.out.2.2 i hi).keep ((KF14.out.trans hk15).trans kx) (by simp)).rd⟩⟩) (by have := np_hi A; omega) HSZ.out HSZ.out)
        rw [hal] at CS
        have KE := Hid.mk ((KW14.out.trans hk15).trans kx)
        clear hx kx hk15 p0 p1 p2 p3 CU3 hpl hal
        go_wp2_with (fail)
        refine CS.out.mono ?_
        rintro e w16 ⟨rfl, hk16⟩
        have KE2 := Hid.mk (KE.out.trans hk16)
        clear hk16 KE CS x0 x1 x2 x3 x4 f0 f1 f2 f3 f4
        go_wp2
        go_ret
        exact ⟨rfl, KE2.out⟩
end Go.Proofs.YtodlkpcbkilglaaDoor
