import Derived.Test.YtiganmmacmhndaaGreatDoorwA
import Derived.Test.YtiganmmacmhndaaGreatDoorsB
import Derived.Test.YtiganmmacmhndaaGreatDoorpYZ
import Derived.Test.YtiganmmacmhndaaGreatDoorqPZ
import Derived.Test.YtiganmmacmhndaaGreatDoorpKZ
import Derived.Lib.Bytes
import Derived.Deep.RegionHeldLaw
namespace Go.Proofs.YtiganmmacmhndaaGreatDoor.Pc
open Go.RowKit

theorem bstr_inj {a b : List Nat} (ha : Byts a) (hb : Byts b) (h : (bstr a).toList = (bstr b).toList) : a = b := by
  have e : ∀ l : List Nat, (bstr l).toList = l.map (fun n => UInt8.ofNat n) := fun l => by
    unfold bstr; rw [Lib.strOfNums_toList]; simp [Lib.bytesOf]
  rw [e, e] at h
  apply List.ext_getElem?
  intro i
  have h2 := congrArg (fun x => x[i]?) h
  simp only [List.getElem?_map] at h2
  cases ea : a[i]? with
  | none =>
    cases eb : b[i]? with
    | none => rfl
    | some y => rw [ea, eb] at h2; cases h2
  | some x =>
    cases eb : b[i]? with
    | none => rw [ea, eb] at h2; cases h2
    | some y =>
      rw [ea, eb] at h2
      have hx := ha x (List.mem_of_getElem? ea)
      have hy := hb y (List.mem_of_getElem? eb)
      simp only [Option.map_some, Option.some.injEq] at h2
      have h3 := congrArg UInt8.toNat h2
      simp only [UInt8.toNat_ofNat'] at h3
      rw [Nat.mod_eq_of_lt (by omega), Nat.mod_eq_of_lt (by omega)] at h3
      rw [h3]

/-- What a head's bytes tell, the document's way: by what Alpha is said to be. -/
def rt2 (l : List Nat) (al : Bool) : Bool := rgt (nb l 4 2 : Int) (nb l 6 2 : Int) (nb l 8 1 : Int) al (nb l 10 2 : Int) (nb l 12 2 : Int) (fun i => (nb l (14 + i) 1 : Int)) (nb l 18 4 : Int) (nb l 22 1 : Int) (nb l 24 4 : Int)
def tb2 (l : List Nat) (al : Bool) : List Nat := hdB (nb l 4 2) (nb l 6 2) (nb l 8 1) (nb l 10 2) (nb l 12 2) al (fun i => nb l (14 + i) 1) (nb l 18 4) (nb l 22 1) (nb l 24 4)
def hdr (l : List Nat) : Value := if 32 ≤ l.length ∧ hok l = true then .tuple #[tldv l, .int .i64 0] else .tuple #[.agg #[.int .i64 0, .int .i64 0, .int .i64 0, .bool false, .int .i64 0, .int .i64 0, .int .i64 0, .int .i64 0, .int .i64 0, .int .i64 0, .int .i64 0, .int .i64 0, .int .i64 0], .int .i64 123]

theorem hdB_byts (W H D sw sh : Nat) (A : Bool) (r : Nat → Nat) (N p ln : Nat) : Byts (hdB W H D sw sh A r N p ln) := by
  unfold hdB
  intro b hb
  rcases List.mem_append.1 hb with h | h
  · exact fds_byts _ b h
  · exact big_lt _ _ b h
theorem nb_take {l : List Nat} {a k : Nat} (h : a + k ≤ 32) : nb (l.take 32) a k = nb l a k := by
  unfold nb
  rw [List.drop_take, List.take_take, Nat.min_eq_left (by omega)]
theorem tb2_nine {l : List Nat} (hb : Byts l) (hl : 32 ≤ l.length) (al : Bool) (h : (bstr (tb2 l al)).toList = (bstr (l.take 32)).toList) : nb l 9 1 = if al then 1 else 0 := by
  have hn := fun a k M => nbn hb hl a k M
  have hd := hd_told (nb l 4 2) (nb l 6 2) (nb l 8 1) (nb l 10 2) (nb l 12 2) al (fun i => nb l (14 + i) 1) (nb l 18 4) (nb l 22 1) (nb l 24 4) [] (hn 4 2 _ (by decide) (by decide)) (hn 6 2 _ (by decide) (by decide)) (hn 8 1 _ (by decide) (by decide)) (hn 10 2 _ (by decide) (by decide)) (hn 12 2 _ (by decide) (by decide)) (fun i hi => hn (14 + i) 1 _ (by omega) (by decide)) (hn 18 4 _ (by decide) (by decide)) (hn 22 1 _ (by decide) (by decide)) (hn 24 4 _ (by decide) (by decide))
  rw [List.append_nil] at hd
  have e := bstr_inj (hdB_byts _ _ _ _ _ _ _ _ _ _) (fun b hb' => hb b (List.mem_of_mem_take hb')) h
  have h9 := hd.1.2.2.2
  unfold tb2 at e
  rw [e, nb_take (by decide)] at h9
  exact h9
theorem hdr_doc {l : List Nat} (hb : Byts l) (hl : 32 ≤ l.length) (al : Bool) (hal : al = decide (nb l 9 1 = 1)) :
    hdr l = if rt2 l al && ((bstr (tb2 l al)).toList == (bstr (l.take 32)).toList) then .tuple #[.agg #[.int .i64 (nb l 4 2 : Int), .int .i64 (nb l 6 2 : Int), .int .i64 (nb l 8 1 : Int), .bool al, .int .i64 (nb l 10 2 : Int), .int .i64 (nb l 12 2 : Int), .int .i64 (nb l 14 1 : Int), .int .i64 (nb l 15 1 : Int), .int .i64 (nb l 16 1 : Int), .int .i64 (nb l 17 1 : Int), .int .i64 (nb l 18 4 : Int), .int .i64 (nb l 22 1 : Int), .int .i64 (nb l 24 4 : Int)], .int .i64 0] else .tuple #[.agg #[.int .i64 0, .int .i64 0, .int .i64 0, .bool false, .int .i64 0, .int .i64 0, .int .i64 0, .int .i64 0, .int .i64 0, .int .i64 0, .int .i64 0, .int .i64 0, .int .i64 0], .int .i64 123] := by
  by_cases h1 : nb l 9 1 ≤ 1
  · have ea : (!(((nb l 9 1 : Nat) : Int) == 0)) = al := by
      rw [hal]
      rcases (by omega : nb l 9 1 = 0 ∨ nb l 9 1 = 1) with h | h <;> simp [h]
    have e1 : rt2 l al = rtl l := by unfold rt2 rtl; rw [ea]
    have e2 : tb2 l al = thB l := by unfold tb2 thB; rw [ea]
    rw [e1, e2]
    unfold hdr
    rw [show (rtl l && ((bstr (thB l)).toList == (bstr (l.take 32)).toList)) = hok l from rfl]
    have e3 : (.agg #[.int .i64 (nb l 4 2 : Int), .int .i64 (nb l 6 2 : Int), .int .i64 (nb l 8 1 : Int), .bool al, .int .i64 (nb l 10 2 : Int), .int .i64 (nb l 12 2 : Int), .int .i64 (nb l 14 1 : Int), .int .i64 (nb l 15 1 : Int), .int .i64 (nb l 16 1 : Int), .int .i64 (nb l 17 1 : Int), .int .i64 (nb l 18 4 : Int), .int .i64 (nb l 22 1 : Int), .int .i64 (nb l 24 4 : Int)] : Value) = tldv l := by unfold tldv hvv; rw [ea]
    rw [e3]
    by_cases h2 : hok l = true
    · rw [if_pos ⟨hl, h2⟩, if_pos h2]
    · rw [if_neg (fun h => h2 h.2), if_neg h2]
  · have n1 : ∀ b : Bool, ¬ (bstr (tb2 l b)).toList = (bstr (l.take 32)).toList := fun b h => by
      have := tb2_nine hb hl b h
      cases b <;> simp at this <;> omega
    have e2 : thB l = tb2 l (!(((nb l 9 1 : Nat) : Int) == 0)) := rfl
    have h3 : hok l = false := by
      unfold hok
      rw [e2]
      have := n1 (!(((nb l 9 1 : Nat) : Int) == 0))
      simp [this]
    unfold hdr
    rw [if_neg (by rw [h3]; simp), if_neg (by have := n1 al; simp [this])]

/-- Head of any bytes. -/
theorem phead_all (ao : Option Addr) (m cap : Nat) (l : List Nat) (w : World) (hr : Reads w ao l) (hb : Byts l) (hm : l.length = m) (hc : m ≤ cap) (hcap : cap ≤ 9223372036854775807) :
    Calls Tryz.prog 7 #[.slice ao m cap] w fun e w' => e = .returned (hdr l) ∧ Kept [] w w' := by
  by_cases h32 : 32 ≤ m
  · obtain ⟨g, off, rfl⟩ : ∃ g off, ao = some ⟨g, off, none⟩ := by
      rcases hr with h | ⟨g, off, e, _⟩
      · subst h; simp at hm; omega
      · exact ⟨g, off, e⟩
    cases hrt : rtl l with
    | true =>
      refine (head_yes g off cap m l w hr hb hm hc hcap h32 hrt).mono (fun e w' h => ⟨?_, h.2⟩)
      rw [h.1]; unfold hdr
      by_cases h2 : hok l = true
      · rw [if_pos h2, if_pos ⟨by omega, h2⟩]
      · rw [if_neg h2, if_neg (fun h => h2 h.2)]
    | false =>
      refine (head_no g off cap m l w hr hb hm hc hcap h32 hrt).mono (fun e w' h => ⟨?_, h.2⟩)
      rw [h.1]; unfold hdr
      rw [if_neg (fun h => by have := h.2; unfold hok at this; rw [hrt] at this; simp at this)]
  · refine (head_short ao m cap w (by omega)).mono (fun e w' h => ⟨?_, h.2⟩)
    rw [h.1]; unfold hdr
    rw [if_neg (fun h => by omega)]

theorem slice_cut (g off m cap a z : Nat) (h1 : a < z) (h2 : z ≤ cap) (u : World) : Sem.run Tryz.prog (Instr.slice 22 (.slice (some ⟨g, off, none⟩) m cap) (some (.int .i64 (a : Int))) (some (.int .i64 (z : Int))) none) u = .ok (.slice (some ⟨g, off + a, none⟩) (z - a) (cap - a)) u := by
  have e : (sizeOf (Tryz.prog.elem 22)).run Tryz.prog u = .ok 1 u := by kernel_rfl
  rw [run_slice_lh (P := Tryz.prog) (w := u) 22 (some ⟨g, off, none⟩) m cap (by kernel_rfl) .i64 .i64 (a : Int) (z : Int) (by omega) (by omega) (by omega), e]
  have hne : ¬ cap = a := by omega
  simp [sliced, hne, Addr.add]

set_option maxHeartbeats 16000000 in
set_option maxRecDepth 1000000 in
theorem rHead_long (g off cap m : Nat) (l : List Nat) (w : World) (hr : Reads w (some ⟨g, off, none⟩) l) (hb : Byts l) (hm : l.length = m) (hc : m ≤ cap) (hcap : cap ≤ 9223372036854775807) (h32 : 32 ≤ m) :
    Calls Tryz.prog 9 #[.slice (some ⟨g, off, none⟩) m cap] w fun e w' => e = .returned (hdr l) ∧ Kept [] w w' := by
  obtain ⟨al, eal⟩ : ∃ al, decide (nb l 9 1 = 1) = al := ⟨_, rfl⟩
  rw [hdr_doc hb (by omega) al eal.symm]
  obtain ⟨w1, e1⟩ : ∃ w1, w.alloc (.cells #[.int .i64 0, .int .i64 0, .int .i64 0, .bool false, .int .i64 0, .int .i64 0, .int .i64 0, .int .i64 0, .int .i64 0, .int .i64 0, .int .i64 0, .int .i64 0, .int .i64 0] 28 (0, 0)) = w1 := ⟨_, rfl⟩
  have k1 : Kept [] w w1 := by rw [← e1]; exact (Kept.refl [] w).alloc _
  obtain ⟨B, eB⟩ : ∃ B, w.heap.size = B := ⟨_, rfl⟩
  have b1 : w1.heap[B]? = some (.cells #[.int .i64 0, .int .i64 0, .int .i64 0, .bool false, .int .i64 0, .int .i64 0, .int .i64 0, .int .i64 0, .int .i64 0, .int .i64 0, .int .i64 0, .int .i64 0, .int .i64 0] 28 (0, 0)) := by rw [← e1, ← eB]; exact heap_alloc_new _ _
  have hn := fun a k M => nbn hb (by omega : 32 ≤ l.length) a k M
  obtain ⟨s0, f0, HC0⟩ : ∃ s : Value, (∀ u, Sem.run Tryz.prog (Instr.slice 22 (.slice (some ⟨g, off, none⟩) m cap) (some (.int .i64 4)) (some (.int .i64 6)) none) u = .ok s u) ∧ Hid (∀ u, Kept [] w1 u → Calls Tryz.prog 26 #[s] u fun e w' => e = .returned (.int .i64 (nb l 4 2 : Int)) ∧ w' = u) :=
    ⟨_, fun u => slice_cut g off m cap 4 6 (by decide) (by omega) u, Hid.mk (fun u hu => rsmall_any _ 2 _ _ u (reads_cut ((hr.keep k1).keep hu) 4 2 (by omega)) (byts_cut hb 4 2) (by simp; omega) (by decide))⟩
  obtain ⟨s1, f1, HC1⟩ : ∃ s : Value, (∀ u, Sem.run Tryz.prog (Instr.slice 22 (.slice (some ⟨g, off, none⟩) m cap) (some (.int .i64 6)) (some (.int .i64 8)) none) u = .ok s u) ∧ Hid (∀ u, Kept [] w1 u → Calls Tryz.prog 26 #[s] u fun e w' => e = .returned (.int .i64 (nb l 6 2 : Int)) ∧ w' = u) :=
    ⟨_, fun u => slice_cut g off m cap 6 8 (by decide) (by omega) u, Hid.mk (fun u hu => rsmall_any _ 2 _ _ u (reads_cut ((hr.keep k1).keep hu) 6 2 (by omega)) (byts_cut hb 6 2) (by simp; omega) (by decide))⟩
  obtain ⟨s2, f2, HC2⟩ : ∃ s : Value, (∀ u, Sem.run Tryz.prog (Instr.slice 22 (.slice (some ⟨g, off, none⟩) m cap) (some (.int .i64 8)) (some (.int .i64 9)) none) u = .ok s u) ∧ Hid (∀ u, Kept [] w1 u → Calls Tryz.prog 26 #[s] u fun e w' => e = .returned (.int .i64 (nb l 8 1 : Int)) ∧ w' = u) :=
    ⟨_, fun u => slice_cut g off m cap 8 9 (by decide) (by omega) u, Hid.mk (fun u hu => rsmall_any _ 1 _ _ u (reads_cut ((hr.keep k1).keep hu) 8 1 (by omega)) (byts_cut hb 8 1) (by simp; omega) (by decide))⟩
  obtain ⟨s4, f4, HC4⟩ : ∃ s : Value, (∀ u, Sem.run Tryz.prog (Instr.slice 22 (.slice (some ⟨g, off, none⟩) m cap) (some (.int .i64 10)) (some (.int .i64 12)) none) u = .ok s u) ∧ Hid (∀ u, Kept [] w1 u → Calls Tryz.prog 26 #[s] u fun e w' => e = .returned (.int .i64 (nb l 10 2 : Int)) ∧ w' = u) :=
    ⟨_, fun u => slice_cut g off m cap 10 12 (by decide) (by omega) u, Hid.mk (fun u hu => rsmall_any _ 2 _ _ u (reads_cut ((hr.keep k1).keep hu) 10 2 (by omega)) (byts_cut hb 10 2) (by simp; omega) (by decide))⟩
  obtain ⟨s5, f5, HC5⟩ : ∃ s : Value, (∀ u, Sem.run Tryz.prog (Instr.slice 22 (.slice (some ⟨g, off, none⟩) m cap) (some (.int .i64 12)) (some (.int .i64 14)) none) u = .ok s u) ∧ Hid (∀ u, Kept [] w1 u → Calls Tryz.prog 26 #[s] u fun e w' => e = .returned (.int .i64 (nb l 12 2 : Int)) ∧ w' = u) :=
    ⟨_, fun u => slice_cut g off m cap 12 14 (by decide) (by omega) u, Hid.mk (fun u hu => rsmall_any _ 2 _ _ u (reads_cut ((hr.keep k1).keep hu) 12 2 (by omega)) (byts_cut hb 12 2) (by simp; omega) (by decide))⟩
  obtain ⟨s10, f10, HC10⟩ : ∃ s : Value, (∀ u, Sem.run Tryz.prog (Instr.slice 22 (.slice (some ⟨g, off, none⟩) m cap) (some (.int .i64 18)) (some (.int .i64 22)) none) u = .ok s u) ∧ Hid (∀ u, Kept [] w1 u → Calls Tryz.prog 26 #[s] u fun e w' => e = .returned (.int .i64 (nb l 18 4 : Int)) ∧ w' = u) :=
    ⟨_, fun u => slice_cut g off m cap 18 22 (by decide) (by omega) u, Hid.mk (fun u hu => rsmall_any _ 4 _ _ u (reads_cut ((hr.keep k1).keep hu) 18 4 (by omega)) (byts_cut hb 18 4) (by simp; omega) (by decide))⟩
  obtain ⟨s11, f11, HC11⟩ : ∃ s : Value, (∀ u, Sem.run Tryz.prog (Instr.slice 22 (.slice (some ⟨g, off, none⟩) m cap) (some (.int .i64 22)) (some (.int .i64 23)) none) u = .ok s u) ∧ Hid (∀ u, Kept [] w1 u → Calls Tryz.prog 26 #[s] u fun e w' => e = .returned (.int .i64 (nb l 22 1 : Int)) ∧ w' = u) :=
    ⟨_, fun u => slice_cut g off m cap 22 23 (by decide) (by omega) u, Hid.mk (fun u hu => rsmall_any _ 1 _ _ u (reads_cut ((hr.keep k1).keep hu) 22 1 (by omega)) (byts_cut hb 22 1) (by simp; omega) (by decide))⟩
  obtain ⟨s12, f12, HC12⟩ : ∃ s : Value, (∀ u, Sem.run Tryz.prog (Instr.slice 22 (.slice (some ⟨g, off, none⟩) m cap) (some (.int .i64 24)) (some (.int .i64 28)) none) u = .ok s u) ∧ Hid (∀ u, Kept [] w1 u → Calls Tryz.prog 26 #[s] u fun e w' => e = .returned (.int .i64 (nb l 24 4 : Int)) ∧ w' = u) :=
    ⟨_, fun u => slice_cut g off m cap 24 28 (by decide) (by omega) u, Hid.mk (fun u hu => rsmall_any _ 4 _ _ u (reads_cut ((hr.keep k1).keep hu) 24 4 (by omega)) (byts_cut hb 24 4) (by simp; omega) (by decide))⟩
  obtain ⟨x0, ex0⟩ : ∃ x, nb l 4 2 = x := ⟨_, rfl⟩
  rw [ex0] at HC0
  obtain ⟨x1, ex1⟩ : ∃ x, nb l 6 2 = x := ⟨_, rfl⟩
  rw [ex1] at HC1
  obtain ⟨x2, ex2⟩ : ∃ x, nb l 8 1 = x := ⟨_, rfl⟩
  rw [ex2] at HC2
  obtain ⟨x3, ex3⟩ : ∃ x, nb l 9 1 = x := ⟨_, rfl⟩
  obtain ⟨x4, ex4⟩ : ∃ x, nb l 10 2 = x := ⟨_, rfl⟩
  rw [ex4] at HC4
  obtain ⟨x5, ex5⟩ : ∃ x, nb l 12 2 = x := ⟨_, rfl⟩
  rw [ex5] at HC5
  obtain ⟨x6, ex6⟩ : ∃ x, nb l 14 1 = x := ⟨_, rfl⟩
  obtain ⟨x7, ex7⟩ : ∃ x, nb l 15 1 = x := ⟨_, rfl⟩
  obtain ⟨x8, ex8⟩ : ∃ x, nb l 16 1 = x := ⟨_, rfl⟩
  obtain ⟨x9, ex9⟩ : ∃ x, nb l 17 1 = x := ⟨_, rfl⟩
  obtain ⟨x10, ex10⟩ : ∃ x, nb l 18 4 = x := ⟨_, rfl⟩
  rw [ex10] at HC10
  obtain ⟨x11, ex11⟩ : ∃ x, nb l 22 1 = x := ⟨_, rfl⟩
  rw [ex11] at HC11
  obtain ⟨x12, ex12⟩ : ∃ x, nb l 24 4 = x := ⟨_, rfl⟩
  rw [ex12] at HC12
  have cb : ∀ (a : Nat), a < 32 → ∀ u, Kept [] w1 u → u.cell? ⟨g, off + a, none⟩ = some (.int .u8 (nb l a 1 : Int)) := fun a ha u hu => by
    rcases (hr.keep k1).keep hu with h | ⟨g', off', e, hcc⟩
    · subst h; simp at hm; omega
    · cases e
      rw [hcc a (by omega)]
      have e9 : (l.drop a).take 1 = [l.getD a 0] := by
        rw [List.getD_eq_getElem?_getD, List.getElem?_eq_getElem (by omega), List.drop_eq_getElem_cons (by omega)]; rfl
      unfold nb
      rw [e9]
      simp [num, byt]
  have CB9 := Hid.mk (cb 9 (by decide))
  have CB14 := Hid.mk (fun u hu => And.intro (cb 14 (by decide) u hu) (And.intro (cb 15 (by decide) u hu) (And.intro (cb 16 (by decide) u hu) (cb 17 (by decide) u hu))))
  rw [ex3] at CB9
  rw [ex6, ex7, ex8, ex9] at CB14
  have CR : Hid (∀ u, Calls Tryz.prog 16 #[.agg #[.int .i64 (x0 : Int), .int .i64 (x1 : Int), .int .i64 (x2 : Int), .bool al, .int .i64 (x4 : Int), .int .i64 (x5 : Int), .int .i64 (x6 : Int), .int .i64 (x7 : Int), .int .i64 (x8 : Int), .int .i64 (x9 : Int), .int .i64 (x10 : Int), .int .i64 (x11 : Int), .int .i64 (x12 : Int)]] u fun e w' => e = .returned (.bool (rt2 l al)) ∧ Kept [] u w') := Hid.mk (fun u => by
    have h := rRight_any (nb l 4 2 : Int) (nb l 6 2 : Int) (nb l 8 1 : Int) al (nb l 10 2 : Int) (nb l 12 2 : Int) (fun i => (nb l (14 + i) 1 : Int)) (nb l 18 4 : Int) (nb l 22 1 : Int) (nb l 24 4 : Int) u
    unfold hvv at h
    simp only [Nat.add_zero, Nat.reduceAdd, ex0, ex1, ex2, ex4, ex5, ex6, ex7, ex8, ex9, ex10, ex11, ex12] at h
    unfold rt2
    simpa only [ex0, ex1, ex2, ex4, ex5, ex10, ex11, ex12] using h)
  have CH : Hid (∀ u, Calls Tryz.prog 27 #[.agg #[.int .i64 (x0 : Int), .int .i64 (x1 : Int), .int .i64 (x2 : Int), .bool al, .int .i64 (x4 : Int), .int .i64 (x5 : Int), .int .i64 (x6 : Int), .int .i64 (x7 : Int), .int .i64 (x8 : Int), .int .i64 (x9 : Int), .int .i64 (x10 : Int), .int .i64 (x11 : Int), .int .i64 (x12 : Int)]] u fun e w' => ∃ V, e = .returned V ∧ w'.ownsRow u.heap.size 5 1 V 32 ((tb2 l al).map byt) ∧ Kept [] u w') := Hid.mk (fun u => by
    have h := rhead_any (nb l 4 2) (nb l 6 2) (nb l 8 1) (nb l 10 2) (nb l 12 2) al (fun i => nb l (14 + i) 1) (nb l 18 4) (nb l 22 1) (nb l 24 4) u
    simp only [Nat.add_zero, Nat.reduceAdd, ex0, ex1, ex2, ex4, ex5, ex6, ex7, ex8, ex9, ex10, ex11, ex12] at h
    unfold tb2
    simpa only [ex0, ex1, ex2, ex4, ex5, ex10, ex11, ex12] using h)
  have HRT : Hid (∀ u, Kept [] w1 u → Reads u (some ⟨g, off, none⟩) (l.take 32)) := Hid.mk (fun u k => by
    have h9 := reads_cut ((hr.keep k1).keep k) 0 32 (by omega)
    simpa using h9)
  have HLT : Hid ((l.take 32).length = 32) := Hid.mk (by simp; omega)
  have HTL : Hid ((tb2 l al).length = 32) := Hid.mk (hdB_len _ _ _ _ _ _ _ _ _ _)
  obtain ⟨rt, ert⟩ : ∃ x, rt2 l al = x := ⟨_, rfl⟩
  obtain ⟨tb, etb⟩ : ∃ x, tb2 l al = x := ⟨_, rfl⟩
  obtain ⟨t2, et2⟩ : ∃ x, l.take 32 = x := ⟨_, rfl⟩
  rw [ert] at CR
  rw [etb] at CH HTL
  rw [et2] at HRT HLT
  rw [ert, etb, et2, ex0, ex1, ex2, ex4, ex5, ex6, ex7, ex8, ex9, ex10, ex11, ex12]
  have BX6 : Hid (x6 ≤ 9000000000000000000) := Hid.mk (by rw [← ex6]; have := hn 14 1 256 (by decide) (by decide); omega)
  have BX7 : Hid (x7 ≤ 9000000000000000000) := Hid.mk (by rw [← ex7]; have := hn 15 1 256 (by decide) (by decide); omega)
  have BX8 : Hid (x8 ≤ 9000000000000000000) := Hid.mk (by rw [← ex8]; have := hn 16 1 256 (by decide) (by decide); omega)
  have BX9 : Hid (x9 ≤ 9000000000000000000) := Hid.mk (by rw [← ex9]; have := hn 17 1 256 (by decide) (by decide); omega)
  have eq9 : (decide (((x3 : Nat) : Int) = 1)) = al := by rw [← eal, ex3]; exact decide_eq_decide.2 (by omega)
  have eq9' : ((((x3 : Nat) : Int)) == 1) = al := eq9
  obtain ⟨RV, eRV⟩ : ∃ RV : Value, (if rt && ((bstr tb).toList == (bstr t2).toList) then .tuple #[.agg #[.int .i64 (x0 : Int), .int .i64 (x1 : Int), .int .i64 (x2 : Int), .bool al, .int .i64 (x4 : Int), .int .i64 (x5 : Int), .int .i64 (x6 : Int), .int .i64 (x7 : Int), .int .i64 (x8 : Int), .int .i64 (x9 : Int), .int .i64 (x10 : Int), .int .i64 (x11 : Int), .int .i64 (x12 : Int)], .int .i64 0] else .tuple #[.agg #[.int .i64 0, .int .i64 0, .int .i64 0, .bool false, .int .i64 0, .int .i64 0, .int .i64 0, .int .i64 0, .int .i64 0, .int .i64 0, .int .i64 0, .int .i64 0, .int .i64 0], .int .i64 123]) = RV := ⟨_, rfl⟩
  rw [eRV]
  have ERV := Hid.mk eRV
  have d32 : decide ((m : Int) < 32) = false := by simp; omega
  have i9 : (9 : Int) < (m : Int) := by omega
  have i32 : (32 : Int) ≤ (cap : Int) := by omega
  have HM : Hid (17 < m) := Hid.mk (by omega)
  have K1 := Hid.mk k1
  have HB := Hid.mk b1
  have HBB := Hid.mk eB
  clear eRV hr hb hm hc hcap h32 k1 b1 hn cb ert etb et2 ex0 ex1 ex2 ex3 ex4 ex5 ex6 ex7 ex8 ex9 ex10 ex11 ex12 eal
  go_enter Tryz.func9, Tryz.ntmps9
  go_upto_region 3 with (fail)
  clear e1 eB
  go_cut [4] (fun s wc => ∃ Q : Nat, s = .pointer (some ⟨Q, 0, none⟩) ∧ Hid (w1.heap.size ≤ Q ∧ wc.heap[Q]? = some (.cells #[.int .i64 (x0 : Int), .int .i64 (x1 : Int), .int .i64 (x2 : Int), .bool al, .int .i64 (x4 : Int), .int .i64 (x5 : Int), .int .i64 0, .int .i64 0, .int .i64 0, .int .i64 0, .int .i64 0, .int .i64 0, .int .i64 0] 28 (0, 0)) ∧ Kept [] w1 wc))
  case first =>
    have c9 := CB9.out w1 (Kept.refl _ _)
    go_region_held_law (fun u => u.cell? ⟨g, off + 9, none⟩ = some (.int .u8 (x3 : Int))) (first | with_reducible exact c9 | (refine CB9.out _ ?_; repeat' (first | with_reducible exact Kept.refl _ _ | refine Kept.drew ?_ | refine Kept.alloc ?_ _ | refine Kept.setCell ?_ (.inr (Nat.le_refl _)) _))) (first | (go_at_call_of 26 s0; refine (HC0.out _ (by repeat' (first | with_reducible exact Kept.refl _ _ | refine Kept.drew ?_ | refine Kept.alloc ?_ _))).mono ?_; rintro e w3 ⟨rfl, hw⟩; obtain rfl := hw.symm) | (go_at_call_of 26 s1; refine (HC1.out _ (by repeat' (first | with_reducible exact Kept.refl _ _ | refine Kept.drew ?_ | refine Kept.alloc ?_ _))).mono ?_; rintro e w3 ⟨rfl, hw⟩; obtain rfl := hw.symm) | (go_at_call_of 26 s2; refine (HC2.out _ (by repeat' (first | with_reducible exact Kept.refl _ _ | refine Kept.drew ?_ | refine Kept.alloc ?_ _))).mono ?_; rintro e w3 ⟨rfl, hw⟩; obtain rfl := hw.symm) | (go_at_call_of 26 s4; refine (HC4.out _ (by repeat' (first | with_reducible exact Kept.refl _ _ | refine Kept.drew ?_ | refine Kept.alloc ?_ _))).mono ?_; rintro e w3 ⟨rfl, hw⟩; obtain rfl := hw.symm) | (go_at_call_of 26 s5; refine (HC5.out _ (by repeat' (first | with_reducible exact Kept.refl _ _ | refine Kept.drew ?_ | refine Kept.alloc ?_ _))).mono ?_; rintro e w3 ⟨rfl, hw⟩; obtain rfl := hw.symm))
    all_goals go_wp2
    all_goals go_meet
    all_goals exact ⟨_, rfl, Hid.mk ⟨Nat.le_refl _, heap_alloc_new _ _, ((Kept.refl [] w1).alloc _).drew⟩⟩
  case rest =>
    obtain ⟨Q, rfl, HQ⟩ := hcut
    obtain ⟨w2, rfl⟩ : ∃ w2, w2 = wc := ⟨_, rfl⟩
    have HQB : Hid (B < Q) := Hid.mk (Nat.lt_of_lt_of_le (lt_of_block HB.out) HQ.out.1)
    clear f0 f1 f2 f4 f5 HC0 HC1 HC2 HC4 HC5 eq9 eq9' i9 CB9
    go_wp2
    go_loopw [5] (fun i wr => ∃ k : Nat, k ≤ 4 ∧ i = .int .i64 (k : Int) ∧ Hid (wr.heap[Q]? = some (.cells #[.int .i64 (x0 : Int), .int .i64 (x1 : Int), .int .i64 (x2 : Int), .bool al, .int .i64 (x4 : Int), .int .i64 (x5 : Int), .int .i64 (if 0 < k then (x6 : Int) else 0), .int .i64 (if 1 < k then (x7 : Int) else 0), .int .i64 (if 2 < k then (x8 : Int) else 0), .int .i64 (if 3 < k then (x9 : Int) else 0), .int .i64 0, .int .i64 0, .int .i64 0] 28 (0, 0)) ∧ Kept [] w1 wr)) (fun i _ => 4 - (intOf i).toNat)
    case atStart => exact ⟨0, by omega, rfl, Hid.mk ⟨HQ.out.2.1, HQ.out.2.2⟩⟩
    case round =>
      obtain ⟨k, hk, rfl, HI⟩ := hrel
      by_cases hlt : k < 4
      · have hm14 : (14 : Int) + (k : Int) < (m : Int) := by have := HM.out; omega
        have hQ1 : w1.heap.size ≤ Q := HQ.out.1
        have HQ1 := Hid.mk hQ1
        clear hQ1
        obtain rfl | rfl | rfl | rfl : k = 0 ∨ k = 1 ∨ k = 2 ∨ k = 3 := by omega
        · have b : wr.heap[Q]? = some (.cells #[.int .i64 (x0 : Int), .int .i64 (x1 : Int), .int .i64 (x2 : Int), .bool al, .int .i64 (x4 : Int), .int .i64 (x5 : Int), .int .i64 0, .int .i64 0, .int .i64 0, .int .i64 0, .int .i64 0, .int .i64 0, .int .i64 0] 28 (0, 0)) := HI.out.1
          have KI := Hid.mk HI.out.2
          have c := (CB14.out wr KI.out).1
          have q : wr.cell? ⟨Q, 6, none⟩ = some (.int .i64 0) := (cel13 b).2.2.2.2.2.2.1
          have zz := row_fz b 6
          have SB := Hid.mk (heap_setCell_at (i := 6) (u := .int .i64 (x6 : Int)) b)
          have KB : Hid (Kept [] w1 (wr.setCell ⟨Q, 6, none⟩ (.int .i64 (x6 : Int)))) := Hid.mk (KI.out.setCell (p := ⟨Q, 6, none⟩) (.inr HQ1.out) _)
          have v1 : wrap64 (x6 : Int) = (x6 : Int) := w64n rfl BX6.out
          have v2 : IntKind.i64.wrap (x6 : Int) = (x6 : Int) := win rfl BX6.out
          clear b HI
          go_wp2
          go_roundw
          case rel => exact ⟨1, by omega, by go_num, Hid.mk ⟨SB.out, KB.out⟩⟩
          case measure => simp [intOf]
        · have b : wr.heap[Q]? = some (.cells #[.int .i64 (x0 : Int), .int .i64 (x1 : Int), .int .i64 (x2 : Int), .bool al, .int .i64 (x4 : Int), .int .i64 (x5 : Int), .int .i64 (x6 : Int), .int .i64 0, .int .i64 0, .int .i64 0, .int .i64 0, .int .i64 0, .int .i64 0] 28 (0, 0)) := HI.out.1
          have KI := Hid.mk HI.out.2
          have c := (CB14.out wr KI.out).2.1
          have q : wr.cell? ⟨Q, 7, none⟩ = some (.int .i64 0) := (cel13 b).2.2.2.2.2.2.2.1
          have zz := row_fz b 7
          have SB := Hid.mk (heap_setCell_at (i := 7) (u := .int .i64 (x7 : Int)) b)
          have KB : Hid (Kept [] w1 (wr.setCell ⟨Q, 7, none⟩ (.int .i64 (x7 : Int)))) := Hid.mk (KI.out.setCell (p := ⟨Q, 7, none⟩) (.inr HQ1.out) _)
          have v1 : wrap64 (x7 : Int) = (x7 : Int) := w64n rfl BX7.out
          have v2 : IntKind.i64.wrap (x7 : Int) = (x7 : Int) := win rfl BX7.out
          clear b HI
          go_wp2
          go_roundw
          case rel => exact ⟨2, by omega, by go_num, Hid.mk ⟨SB.out, KB.out⟩⟩
          case measure => simp [intOf]
        · have b : wr.heap[Q]? = some (.cells #[.int .i64 (x0 : Int), .int .i64 (x1 : Int), .int .i64 (x2 : Int), .bool al, .int .i64 (x4 : Int), .int .i64 (x5 : Int), .int .i64 (x6 : Int), .int .i64 (x7 : Int), .int .i64 0, .int .i64 0, .int .i64 0, .int .i64 0, .int .i64 0] 28 (0, 0)) := HI.out.1
          have KI := Hid.mk HI.out.2
          have c := (CB14.out wr KI.out).2.2.1
          have q : wr.cell? ⟨Q, 8, none⟩ = some (.int .i64 0) := (cel13 b).2.2.2.2.2.2.2.2.1
          have zz := row_fz b 8
          have SB := Hid.mk (heap_setCell_at (i := 8) (u := .int .i64 (x8 : Int)) b)
          have KB : Hid (Kept [] w1 (wr.setCell ⟨Q, 8, none⟩ (.int .i64 (x8 : Int)))) := Hid.mk (KI.out.setCell (p := ⟨Q, 8, none⟩) (.inr HQ1.out) _)
          have v1 : wrap64 (x8 : Int) = (x8 : Int) := w64n rfl BX8.out
          have v2 : IntKind.i64.wrap (x8 : Int) = (x8 : Int) := win rfl BX8.out
          clear b HI
          go_wp2
          go_roundw
          case rel => exact ⟨3, by omega, by go_num, Hid.mk ⟨SB.out, KB.out⟩⟩
          case measure => simp [intOf]
        · have b : wr.heap[Q]? = some (.cells #[.int .i64 (x0 : Int), .int .i64 (x1 : Int), .int .i64 (x2 : Int), .bool al, .int .i64 (x4 : Int), .int .i64 (x5 : Int), .int .i64 (x6 : Int), .int .i64 (x7 : Int), .int .i64 (x8 : Int), .int .i64 0, .int .i64 0, .int .i64 0, .int .i64 0] 28 (0, 0)) := HI.out.1
          have KI := Hid.mk HI.out.2
          have c := (CB14.out wr KI.out).2.2.2
          have q : wr.cell? ⟨Q, 9, none⟩ = some (.int .i64 0) := (cel13 b).2.2.2.2.2.2.2.2.2.1
          have zz := row_fz b 9
          have SB := Hid.mk (heap_setCell_at (i := 9) (u := .int .i64 (x9 : Int)) b)
          have KB : Hid (Kept [] w1 (wr.setCell ⟨Q, 9, none⟩ (.int .i64 (x9 : Int)))) := Hid.mk (KI.out.setCell (p := ⟨Q, 9, none⟩) (.inr HQ1.out) _)
          have v1 : wrap64 (x9 : Int) = (x9 : Int) := w64n rfl BX9.out
          have v2 : IntKind.i64.wrap (x9 : Int) = (x9 : Int) := win rfl BX9.out
          clear b HI
          go_wp2
          go_roundw
          case rel => exact ⟨4, by omega, by go_num, Hid.mk ⟨SB.out, KB.out⟩⟩
          case measure => simp [intOf]
      · obtain rfl : k = 4 := by omega
        clear hlt hk
        have b2 : wr.heap[Q]? = some (.cells #[.int .i64 (x0 : Int), .int .i64 (x1 : Int), .int .i64 (x2 : Int), .bool al, .int .i64 (x4 : Int), .int .i64 (x5 : Int), .int .i64 (x6 : Int), .int .i64 (x7 : Int), .int .i64 (x8 : Int), .int .i64 (x9 : Int), .int .i64 0, .int .i64 0, .int .i64 0] 28 (0, 0)) := HI.out.1
        have KI := Hid.mk HI.out.2
        have GQ := Hid.mk HQ.out.1
        obtain ⟨w4, e4⟩ : ∃ x, wr.setCell ⟨Q, 10, none⟩ (.int .i64 (x10 : Int)) = x := ⟨_, rfl⟩
        have b4 : w4.heap[Q]? = some (.cells #[.int .i64 (x0 : Int), .int .i64 (x1 : Int), .int .i64 (x2 : Int), .bool al, .int .i64 (x4 : Int), .int .i64 (x5 : Int), .int .i64 (x6 : Int), .int .i64 (x7 : Int), .int .i64 (x8 : Int), .int .i64 (x9 : Int), .int .i64 (x10 : Int), .int .i64 0, .int .i64 0] 28 (0, 0)) := by rw [← e4]; exact heap_setCell_at (i := 10) (u := .int .i64 (x10 : Int)) b2
        have K4 : Hid (Kept [] w1 w4) := Hid.mk (by rw [← e4]; exact KI.out.setCell (p := ⟨Q, 10, none⟩) (.inr GQ.out) _)
        obtain ⟨w5, e5⟩ : ∃ x, w4.setCell ⟨Q, 11, none⟩ (.int .i64 (x11 : Int)) = x := ⟨_, rfl⟩
        have b5 : w5.heap[Q]? = some (.cells #[.int .i64 (x0 : Int), .int .i64 (x1 : Int), .int .i64 (x2 : Int), .bool al, .int .i64 (x4 : Int), .int .i64 (x5 : Int), .int .i64 (x6 : Int), .int .i64 (x7 : Int), .int .i64 (x8 : Int), .int .i64 (x9 : Int), .int .i64 (x10 : Int), .int .i64 (x11 : Int), .int .i64 0] 28 (0, 0)) := by rw [← e5]; exact heap_setCell_at (i := 11) (u := .int .i64 (x11 : Int)) b4
        have K5 : Hid (Kept [] w1 w5) := Hid.mk (by rw [← e5]; exact K4.out.setCell (p := ⟨Q, 11, none⟩) (.inr GQ.out) _)
        obtain ⟨w6, e6⟩ : ∃ x, w5.setCell ⟨Q, 12, none⟩ (.int .i64 (x12 : Int)) = x := ⟨_, rfl⟩
        have b6 : w6.heap[Q]? = some (.cells #[.int .i64 (x0 : Int), .int .i64 (x1 : Int), .int .i64 (x2 : Int), .bool al, .int .i64 (x4 : Int), .int .i64 (x5 : Int), .int .i64 (x6 : Int), .int .i64 (x7 : Int), .int .i64 (x8 : Int), .int .i64 (x9 : Int), .int .i64 (x10 : Int), .int .i64 (x11 : Int), .int .i64 (x12 : Int)] 28 (0, 0)) := by rw [← e6]; exact heap_setCell_at (i := 12) (u := .int .i64 (x12 : Int)) b5
        have K6 : Hid (Kept [] w1 w6) := Hid.mk (by rw [← e6]; exact K5.out.setCell (p := ⟨Q, 12, none⟩) (.inr GQ.out) _)
        have q10 : wr.cell? ⟨Q, 10, none⟩ = some (.int .i64 0) := (cel13 b2).2.2.2.2.2.2.2.2.2.2.1
        have z10 := row_fz b2 10
        have q11 : w4.cell? ⟨Q, 11, none⟩ = some (.int .i64 0) := (cel13 b4).2.2.2.2.2.2.2.2.2.2.2.1
        have z11 := row_fz b4 11
        have q12 : w5.cell? ⟨Q, 12, none⟩ = some (.int .i64 0) := (cel13 b5).2.2.2.2.2.2.2.2.2.2.2.2
        have z12 := row_fz b5 12
        have B6 := Hid.mk b6
        obtain ⟨y0, y1, y2, y3, y4, y5, y6, y7, y8, y9, y10, y11, y12⟩ := cel13 b6
        have HQC : Hid (∀ u, Kept [] w6 u → Kept [] w1 u) := Hid.mk (fun u hu => K6.out.trans hu)
        clear b2 b4 b5 b6 HI CB14 HQ
        go_wp2_with (fail)
        refine (HC10.out _ KI.out).mono ?_
        rintro e w3 ⟨rfl, hw⟩
        obtain rfl := hw.symm
        clear hw
        go_wp2_with (fail)
        refine (HC11.out _ K4.out).mono ?_
        rintro e w3 ⟨rfl, hw⟩
        obtain rfl := hw.symm
        clear hw
        go_wp2_with (fail)
        refine (HC12.out _ K5.out).mono ?_
        rintro e w3 ⟨rfl, hw⟩
        obtain rfl := hw.symm
        clear hw
        go_wp2_with (fail)
        refine (CR.out _).mono ?_
        rintro e w7 ⟨rfl, k7⟩
        have K7 := Hid.mk k7
        have KW7 := Hid.mk (HQC.out w7 k7)
        have HQ7 := Hid.mk (k7.heap B6.out (by simp))
        clear k7 e4 e5 e6 q10 q11 q12 z10 z11 z12 y0 y1 y2 y3 y4 y5 y6 y7 y8 y9 y10 y11 y12 f10 f11 f12 HC10 HC11 HC12 CR
        have HBW : Hid (∀ u, Kept [] w7 u → u.heap[B]? = some (.cells #[.int .i64 0, .int .i64 0, .int .i64 0, .bool false, .int .i64 0, .int .i64 0, .int .i64 0, .int .i64 0, .int .i64 0, .int .i64 0, .int .i64 0, .int .i64 0, .int .i64 0] 28 (0, 0))) := Hid.mk (fun u hu => (KW7.out.trans hu).heap HB.out (by simp))
        cases rt
        · have NE : Nonempty (KW w7) := ⟨⟨w7, Kept.refl _ _⟩⟩
          go_wp2_with (fail)
          refine wp_region_kept (by kernel_rfl) (by kernel_rfl) ?_
          repeat (go_big_quiet_step (fail))
          refine wpQuiet_nil ?_
          rintro _ ⟨z, rfl⟩
          have KZ := Hid.mk z.h
          generalize z.u = wz at *
          clear NE z
          obtain ⟨z0, z1, z2, z3, z4, z5, z6, z7, z8, z9, z10, z11, z12⟩ := cel13 (HBW.out wz KZ.out)
          have zz := row_fz (HBW.out wz KZ.out)
          have S9 := Hid.mk (setAll_row [.int .i64 0, .int .i64 0, .int .i64 0, .bool false, .int .i64 0, .int .i64 0, .int .i64 0, .int .i64 0, .int .i64 0, .int .i64 0, .int .i64 0, .int .i64 0, .int .i64 0] 0 wz [] _ (HBW.out wz KZ.out) rfl rfl)
          simp only [setAll] at S9
          go_wp2
          refine bodyPost_ret (v := .tuple #[.agg #[.int .i64 0, .int .i64 0, .int .i64 0, .bool false, .int .i64 0, .int .i64 0, .int .i64 0, .int .i64 0, .int .i64 0, .int .i64 0, .int .i64 0, .int .i64 0, .int .i64 0], .int .i64 123]) ?_ rfl ⟨by rw [← ERV.out]; simp, ?_⟩
          · exact Tl.results_two rfl _ _ B 28 _ (0, 0) _ _ rfl S9.out.1 Tryz.underlying28 Tryz.infoHd rfl
          · exact ((K1.out.trans KW7.out).trans KZ.out).step S9.out.2 (fun x hx => by simp at hx; subst hx; exact .inr (Nat.le_of_eq HBB.out))
        · have RK : Hid (∀ u, Kept [] w7 u → u.cell? ⟨Q, 0, none⟩ = some (.int .i64 (x0 : Int)) ∧ u.cell? ⟨Q, 1, none⟩ = some (.int .i64 (x1 : Int)) ∧ u.cell? ⟨Q, 2, none⟩ = some (.int .i64 (x2 : Int)) ∧ u.cell? ⟨Q, 3, none⟩ = some (.bool al) ∧ u.cell? ⟨Q, 4, none⟩ = some (.int .i64 (x4 : Int)) ∧ u.cell? ⟨Q, 5, none⟩ = some (.int .i64 (x5 : Int)) ∧ u.cell? ⟨Q, 6, none⟩ = some (.int .i64 (x6 : Int)) ∧ u.cell? ⟨Q, 7, none⟩ = some (.int .i64 (x7 : Int)) ∧ u.cell? ⟨Q, 8, none⟩ = some (.int .i64 (x8 : Int)) ∧ u.cell? ⟨Q, 9, none⟩ = some (.int .i64 (x9 : Int)) ∧ u.cell? ⟨Q, 10, none⟩ = some (.int .i64 (x10 : Int)) ∧ u.cell? ⟨Q, 11, none⟩ = some (.int .i64 (x11 : Int)) ∧ u.cell? ⟨Q, 12, none⟩ = some (.int .i64 (x12 : Int))) := Hid.mk (fun u hu => cel13 (hu.heap HQ7.out (by simp)))
          have CS2 : Hid (∀ u, Kept [] w7 u → Sem.run Tryz.prog (convert 22 9 (.slice (some ⟨g, off, none⟩) 32 cap)) u = .ok (.string (bstr t2)) u) := Hid.mk (fun u hu => reads_str' (HRT.out u (KW7.out.trans hu)) HLT.out cap)
          go_wp2_with (fail)
          refine wp_region_held_drew (S := fun u => Kept [] w7 u) (by kernel_rfl) (Kept.refl [] w7).drew (fun hH0 => ?_)
          refine wpAnyH_take (i := 0) (oi := _) (v := ?_) rfl (by kernel_rfl) (by kernel_rfl) (by kernel_rfl) (fun _ _ _ h => h) (Or.inl ⟨by rfl, ?y0⟩) (by assumption) ?r0
          case y0 => (intro u hSw; have hSu : Kept [] w7 u := hSw; go_simp; try with_reducible rfl)
          refine wpAnyH_take (i := 1) (oi := _) (v := ?_) rfl (by kernel_rfl) (by kernel_rfl) (by kernel_rfl) (fun _ _ _ h => h) (Or.inl ⟨by rfl, ?y1⟩) (by assumption) ?r1
          case y1 => (intro u hSw; have hSu : Kept [] w7 u := hSw; go_simp; try with_reducible rfl)
          refine wpAnyH_take (i := 2) (oi := _) (v := ?_) rfl (by kernel_rfl) (by kernel_rfl) (by kernel_rfl) (fun _ _ _ h => h) (Or.inl ⟨by rfl, ?y2⟩) (by assumption) ?r2
          case y2 => (intro u hSw; have hSu : Kept [] w7 u := hSw; go_simp; try with_reducible rfl)
          refine wpAnyH_take (i := 3) (oi := _) (v := ?_) rfl (by kernel_rfl) (by kernel_rfl) (by kernel_rfl) (fun _ _ _ h => h) (Or.inl ⟨by rfl, ?y3⟩) (by assumption) ?r3
          case y3 => (intro u hSw; have hSu : Kept [] w7 u := hSw; obtain ⟨l0, l1, l2, l3, l4, l5, l6, l7, l8, l9, l10, l11, l12⟩ := RK.out u hSu; go_simp; try with_reducible rfl)
          refine wpAnyH_take (i := 6) (oi := _) (v := ?_) rfl (by kernel_rfl) (by kernel_rfl) (by kernel_rfl) (fun _ _ _ h => h) (Or.inl ⟨by rfl, ?y6⟩) (by assumption) ?r6
          case y6 => (intro u hSw; have hSu : Kept [] w7 u := hSw; go_simp; try with_reducible rfl)
          refine wpAnyH_take (i := 7) (oi := _) (v := ?_) rfl (by kernel_rfl) (by kernel_rfl) (by kernel_rfl) (fun _ _ _ h => h) (Or.inl ⟨by rfl, ?y7⟩) (by assumption) ?r7
          case y7 => (intro u hSw; have hSu : Kept [] w7 u := hSw; go_simp; try with_reducible rfl)
          refine wpAnyH_take (i := 8) (oi := _) (v := ?_) rfl (by kernel_rfl) (by kernel_rfl) (by kernel_rfl) (fun _ _ _ h => h) (Or.inl ⟨by rfl, ?y8⟩) (by assumption) ?r8
          case y8 => (intro u hSw; have hSu : Kept [] w7 u := hSw; have l0 := CS2.out u hSu; go_simp; try with_reducible rfl)
          refine wpAnyH_ready (rs := [4]) (by kernel_rfl) (by simp) ?_
          refine AllReadyH.cons rfl (fun K hK => ?_) AllReadyH.nil
          go_simp
          go_at_call 27
          refine (CH.out _).mono ?_
          rintro e w8 ⟨V8, rfl, ho8, k8⟩
          have K8 : Hid (Kept [] w7 w8) := Hid.mk (((Kept.refl [] w7).drew).trans k8)
          obtain ⟨bo8, c8, rfl⟩ := row_form ho8
          have CC1 := reads_str' (reads_row ho8) HTL.out c8
          refine hK.out _ _ K8.out (fun hH2 => ?_)
          clear hK K k8 ho8 CH hH0
          refine wpAnyH_ready (rs := [5]) (by kernel_rfl) (by simp) ?_
          refine AllReadyH.cons rfl (fun K hK => ?_) AllReadyH.nil
          go_simp
          refine hK.out _ _ K8.out (fun hH3 => ?_)
          clear hK K CC1 hH2
          obtain ⟨eb, eeb⟩ : ∃ b, ((bstr tb).toList == (bstr t2).toList) = b := ⟨_, rfl⟩
          rw [eeb] at ERV
          refine wpAnyH_take (i := 9) (oi := _) (v := ?_) rfl (by kernel_rfl) (by kernel_rfl) (by kernel_rfl) (fun _ _ _ h => h) (Or.inl ⟨by rfl, ?y9⟩) (by assumption) ?r9
          case y9 => (intro u hSw; have hSu : Kept [] w7 u := hSw; go_simp; try with_reducible rfl)
          refine wpAnyH_take (i := 10) (oi := _) (v := ?_) rfl (by kernel_rfl) (by kernel_rfl) (by kernel_rfl) (fun _ _ _ h => h) (Or.inl ⟨by rfl, ?y10⟩) (by assumption) ?r10
          case y10 => (intro u hSw; have hSu : Kept [] w7 u := hSw; go_simp; try with_reducible rfl)
          clear eeb
          cases eb
          · refine wpAnyH_done (by kernel_rfl) ?_ _
            clear hH3
            obtain ⟨z0, z1, z2, z3, z4, z5, z6, z7, z8, z9, z10, z11, z12⟩ := cel13 (HBW.out w8 K8.out)
            have zz := row_fz (HBW.out w8 K8.out)
            have S9 := Hid.mk (setAll_row [.int .i64 0, .int .i64 0, .int .i64 0, .bool false, .int .i64 0, .int .i64 0, .int .i64 0, .int .i64 0, .int .i64 0, .int .i64 0, .int .i64 0, .int .i64 0, .int .i64 0] 0 w8 [] _ (HBW.out w8 K8.out) rfl rfl)
            simp only [setAll] at S9
            go_wp2
            refine bodyPost_ret (v := .tuple #[.agg #[.int .i64 0, .int .i64 0, .int .i64 0, .bool false, .int .i64 0, .int .i64 0, .int .i64 0, .int .i64 0, .int .i64 0, .int .i64 0, .int .i64 0, .int .i64 0, .int .i64 0], .int .i64 123]) ?_ rfl ⟨by rw [← ERV.out]; simp, ?_⟩
            · exact Tl.results_two rfl _ _ B 28 _ (0, 0) _ _ rfl S9.out.1 Tryz.underlying28 Tryz.infoHd rfl
            · exact ((K1.out.trans KW7.out).trans K8.out).step S9.out.2 (fun x hx => by simp at hx; subst hx; exact .inr (Nat.le_of_eq HBB.out))
          · refine wpAnyH_done (by kernel_rfl) ?_ _
            clear hH3
            obtain ⟨z0, z1, z2, z3, z4, z5, z6, z7, z8, z9, z10, z11, z12⟩ := cel13 (HBW.out w8 K8.out)
            have zz := row_fz (HBW.out w8 K8.out)
            obtain ⟨y0, y1, y2, y3, y4, y5, y6, y7, y8, y9, y10, y11, y12⟩ := RK.out w8 K8.out
            have S9 := Hid.mk (setAll_row [.int .i64 (x0 : Int), .int .i64 (x1 : Int), .int .i64 (x2 : Int), .bool al, .int .i64 (x4 : Int), .int .i64 (x5 : Int), .int .i64 (x6 : Int), .int .i64 (x7 : Int), .int .i64 (x8 : Int), .int .i64 (x9 : Int), .int .i64 (x10 : Int), .int .i64 (x11 : Int), .int .i64 (x12 : Int)] 0 w8 [] _ (HBW.out w8 K8.out) rfl rfl)
            simp only [setAll] at S9
            go_wp2
            refine bodyPost_ret (v := .tuple #[.agg #[.int .i64 (x0 : Int), .int .i64 (x1 : Int), .int .i64 (x2 : Int), .bool al, .int .i64 (x4 : Int), .int .i64 (x5 : Int), .int .i64 (x6 : Int), .int .i64 (x7 : Int), .int .i64 (x8 : Int), .int .i64 (x9 : Int), .int .i64 (x10 : Int), .int .i64 (x11 : Int), .int .i64 (x12 : Int)], .int .i64 0]) ?_ rfl ⟨by rw [← ERV.out]; simp, ?_⟩
            · exact Tl.results_two rfl _ _ B 28 _ (0, 0) _ _ rfl S9.out.1 Tryz.underlying28 Tryz.infoHd rfl
            · exact ((K1.out.trans KW7.out).trans K8.out).step S9.out.2 (fun x hx => by simp at hx; subst hx; exact .inr (Nat.le_of_eq HBB.out))

set_option maxHeartbeats 8000000 in
set_option maxRecDepth 1000000 in
theorem rHead_short (ao : Option Addr) (m cap : Nat) (w : World) (h32 : m < 32) :
    Calls Tryz.prog 9 #[.slice ao m cap] w fun e w' => e = .returned (.tuple #[.agg #[.int .i64 0, .int .i64 0, .int .i64 0, .bool false, .int .i64 0, .int .i64 0, .int .i64 0, .int .i64 0, .int .i64 0, .int .i64 0, .int .i64 0, .int .i64 0, .int .i64 0], .int .i64 123]) ∧ Kept [] w w' := by
  obtain ⟨w1, e1⟩ : ∃ w1, w.alloc (.cells #[.int .i64 0, .int .i64 0, .int .i64 0, .bool false, .int .i64 0, .int .i64 0, .int .i64 0, .int .i64 0, .int .i64 0, .int .i64 0, .int .i64 0, .int .i64 0, .int .i64 0] 28 (0, 0)) = w1 := ⟨_, rfl⟩
  have k1 : Kept [] w w1 := by rw [← e1]; exact (Kept.refl [] w).alloc _
  obtain ⟨B, eB⟩ : ∃ B, w.heap.size = B := ⟨_, rfl⟩
  have b1 : w1.heap[B]? = some (.cells #[.int .i64 0, .int .i64 0, .int .i64 0, .bool false, .int .i64 0, .int .i64 0, .int .i64 0, .int .i64 0, .int .i64 0, .int .i64 0, .int .i64 0, .int .i64 0, .int .i64 0] 28 (0, 0)) := by rw [← e1, ← eB]; exact heap_alloc_new _ _
  have d32 : decide ((m : Int) < 32) = true := by simp; omega
  obtain ⟨z0, z1, z2, z3, z4, z5, z6, z7, z8, z9, z10, z11, z12⟩ := cel13 b1
  have zz := row_fz b1
  have S9 := Hid.mk (setAll_row [.int .i64 0, .int .i64 0, .int .i64 0, .bool false, .int .i64 0, .int .i64 0, .int .i64 0, .int .i64 0, .int .i64 0, .int .i64 0, .int .i64 0, .int .i64 0, .int .i64 0] 0 w1 [] _ b1 rfl rfl)
  simp only [setAll] at S9
  have K1 := Hid.mk k1
  have HBB := Hid.mk eB
  clear k1 b1 h32
  go_enter Tryz.func9, Tryz.ntmps9
  go_wp2
  refine bodyPost_ret (v := .tuple #[.agg #[.int .i64 0, .int .i64 0, .int .i64 0, .bool false, .int .i64 0, .int .i64 0, .int .i64 0, .int .i64 0, .int .i64 0, .int .i64 0, .int .i64 0, .int .i64 0, .int .i64 0], .int .i64 123]) ?_ rfl ⟨rfl, ?_⟩
  · exact Tl.results_two rfl _ _ B 28 _ (0, 0) _ _ rfl S9.out.1 Tryz.underlying28 Tryz.infoHd rfl
  · exact K1.out.step S9.out.2 (fun x hx => by simp at hx; subst hx; exact .inr (Nat.le_of_eq HBB.out))
/-- The document's Head of any bytes. -/
theorem rHead_all (ao : Option Addr) (m cap : Nat) (l : List Nat) (w : World) (hr : Reads w ao l) (hb : Byts l) (hm : l.length = m) (hc : m ≤ cap) (hcap : cap ≤ 9223372036854775807) :
    Calls Tryz.prog 9 #[.slice ao m cap] w fun e w' => e = .returned (hdr l) ∧ Kept [] w w' := by
  by_cases h32 : 32 ≤ m
  · obtain ⟨g, off, rfl⟩ : ∃ g off, ao = some ⟨g, off, none⟩ := by
      rcases hr with h | ⟨g, off, e, _⟩
      · subst h; simp at hm; omega
      · exact ⟨g, off, e⟩
    exact rHead_long g off cap m l w hr hb hm hc hcap h32
  · refine (rHead_short ao m cap w (by omega)).mono (fun e w' h => ⟨?_, h.2⟩)
    rw [h.1]; unfold hdr
    rw [if_neg (fun h => by omega)]
end Go.Proofs.YtiganmmacmhndaaGreatDoor.Pc
