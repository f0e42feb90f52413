import Derived.Test.YtlkbpimlofgflaaDooreK
import Derived.WalkMore
namespace Go.Proofs.YtlkbpimlofgflaaDoor
open Go.RowKit

theorem ne_head (l : List Nat) (i n : Nat) (hl : l.length = 16) (hb : Byts l) (h : l.getD 0 0 ≠ 76) : ((bstr l).toList == (bstr (lnk i n)).toList) = false := by
  rw [bstr_toList, bstr_toList]
  match l, hl with
  | [], hl => simp at hl
  | x :: t, _ =>
    have hx := hb x (by simp)
    simp at h
    obtain ⟨y, ey⟩ : ∃ y, lnk i n = 76 :: y := ⟨_, rfl⟩
    rw [ey]
    simp only [List.map_cons, beq_eq_false_iff_ne, ne_eq, List.cons.injEq, not_and]
    intro e
    have h3 := congrArg UInt8.toNat e
    simp only [UInt8.toNat_ofNat'] at h3
    rw [Nat.mod_eq_of_lt (by omega), Nat.mod_eq_of_lt (by omega)] at h3
    exact absurd h3 h

set_option maxHeartbeats 4000000 in
set_option maxRecDepth 1000000 in
/-- The chain where no link begins. -/
theorem chain_none (w : World) (Y : Value) (a b c P A N : Nat) (V L : Value) (d : Md) (ha : w.heap[a]? = some (.cells #[.int .i64 (A : Int)] 3 (0, 0))) (hb : w.heap[b]? = some (.cells #[.int .i64 (N : Int)] 3 (0, 0))) (hc : w.heap[c]? = some (.cells #[.pointer (some ⟨P, 0, none⟩)] 35 (0, 0)))
    (hm : Med w P V L d 0) (ok : Mok d) (hd : d.dead = false) (hg : d.g.length ≤ 1000) (hN : d.b.length = N) (hA : A + 16 ≤ N) (h0 : d.b.getD A 0 ≠ 76) :
    Calls Tryd.prog 36 #[Y, .pointer (some ⟨a, 0, none⟩), .pointer (some ⟨b, 0, none⟩), .pointer (some ⟨c, 0, none⟩)] w fun e w' => ∃ L', (∃ v, e = .returned v) ∧ Med w' P V L' { d with g := d.g ++ [((A : Int), 16)] } 0 ∧ Kept (P :: L.ownBlock.toList) w w' ∧ Lies w L L' := by
  have hbn := ok.n
  have hrd : rdE d 0 268435456 (A : Int) 16 = 0 ∧ rdB d 0 268435456 (A : Int) 16 = (d.b.drop A).take 16 ∧ rdS d 0 268435456 (A : Int) 16 = { d with g := d.g ++ [((A : Int), 16)] } := rd_in d A 16 hd (by omega) (by omega)
  obtain ⟨l, el⟩ : ∃ l, (d.b.drop A).take 16 = l := ⟨_, rfl⟩
  rw [el] at hrd
  have ll : l.length = 16 := by rw [← el]; simp; omega
  have lby : Byts l := fun x hx => ok.by_ x (List.mem_of_mem_drop (List.mem_of_mem_take (by rw [el]; exact hx)))
  have lh : l.getD 0 0 ≠ 76 := by
    rw [← el, List.getD_eq_getElem?_getD, List.getElem?_take_of_lt (by omega), List.getElem?_drop, Nat.add_zero, ← List.getD_eq_getElem?_getD]
    exact h0
  obtain ⟨X, eX⟩ : ∃ X, num ((l.drop 8).take 4) = X := ⟨_, rfl⟩
  have hX : X < 4294967296 := by
    have := num_lt ((l.drop 8).take 4) (fun x hx => lby x (List.mem_of_mem_drop (List.mem_of_mem_take hx)))
    rw [eX, show ((l.drop 8).take 4).length = 4 by simp; omega] at this
    exact this
  have cA : w.cell? ⟨a, 0, none⟩ = some (.int .i64 (A : Int)) := by simp [World.cell?, ha]
  have cB : w.cell? ⟨b, 0, none⟩ = some (.int .i64 (N : Int)) := by simp [World.cell?, hb]
  have cC : w.cell? ⟨c, 0, none⟩ = some (.pointer (some ⟨P, 0, none⟩)) := by simp [World.cell?, hc]
  have fb := foot_of hm hb (by decide) (by decide) (by decide)
  have i1 : ¬ ((N : Int) - (A : Int) < 16) := by omega
  have iN : (N : Int) ≤ 268435456 := by omega
  have iA : (A : Int) + 16 ≤ (N : Int) := by omega
  have kd : Kept [] w w.drew := (Kept.refl [] w).drew
  have C1 := Hid.mk (read_any w.drew P V L d (A : Int) 16 hm.drew (by omega) (by omega) (by omega))
  have HRD := Hid.mk hrd
  have HB := Hid.mk hb
  have FB := Hid.mk fb
  have LL := Hid.mk (And.intro ll (And.intro lby lh))
  have EX := Hid.mk eX
  clear ha hb hc hm ok hg hN h0 hbn hrd el ll lby lh eX fb
  go_enter Tryd.func36, Tryd.ntmps36
  go_wp2_with (fail)
  go_step3
  go_wp2_with (fail)
  go_region_held_law (fun u => u.cell? ⟨a, 0, none⟩ = some (.int .i64 (A : Int))) (first | exact cA | go_keep) (fail)
  go_wp2_with (fail)
  go_step3
  go_wp2_with (fail)
  with_reducible refine C1.out.mono ?_
  rintro e w1 ⟨ro, rc, L', rfl, o1, m1, k1, l1⟩
  rw [HRD.out.2.1, LL.out.1] at o1
  rw [HRD.out.1, HRD.out.2.1, LL.out.1]
  rw [HRD.out.2.2] at m1
  have k01 : Kept (P :: L.ownBlock.toList) w w1 := ((Kept.refl _ w).drew).trans k1
  have hb1 := k01.heap HB.out (fun hm => FB.out (inL P V L b hm))
  obtain ⟨_, _, ev, b1, b2, -⟩ := row_none o1
  cases ev
  have C2 := Hid.mk (linkLen_any ro 16 rc l w1 (reads_row o1) LL.out.2.1 LL.out.1 b2 (by decide) (by decide))
  rw [EX.out] at C2
  have O1 := Hid.mk o1
  have M1 := Hid.mk (And.intro m1 (And.intro k01 (l1.of_kept kd)))
  have HB1 := Hid.mk hb1
  clear o1 m1 k1 l1 k01 C1 hb1 b1 b2 cA cB cC
  go_wp2_with (fail)
  with_reducible refine C2.out.mono ?_
  rintro e w2 ⟨rfl, hx⟩
  subst hx
  clear C2
  obtain ⟨w3, ew3, k3, hb3⟩ := alloc_new w2 (.cells #[.int .i64 0, .int .i64 ((A : Int) + 16), .int .i64 (X : Int)] 39 (0, 0))
  have C3 : Hid (Calls Tryd.prog 39 #[.int .i64 0, .int .i64 (X : Int)] w3 fun e w' => ∃ v', e = .returned v' ∧ w'.ownsRow 0 5 1 v' (lnk 0 X).length ((lnk 0 X).map byt) ∧ Kept [] w3 w' ∧ (∃ g, v'.ownBlock = some g ∧ w3.heap.size ≤ g)) := Hid.mk (link_any w3 0 X (by decide) hX)
  have c2 : w3.cell? ⟨w2.heap.size, 2, none⟩ = some (.int .i64 (X : Int)) := by simp [World.cell?, hb3]
  have c1 : w3.cell? ⟨w2.heap.size, 1, none⟩ = some (.int .i64 ((A : Int) + 16)) := by simp [World.cell?, hb3]
  go_wp2_with (fail)
  with_reducible refine C3.out.mono ?_
  rintro e w4 ⟨v4, rfl, o4, k4, -⟩
  obtain ⟨bo, bc, rfl, -⟩ := row_none o4
  have C4 := Hid.mk (bequal_any ro bo 16 rc _ bc l (lnk 0 X) w4 ((reads_row O1.out).keep (k3.trans k4)) (reads_row o4) LL.out.1 rfl)
  rw [ne_head l 0 X LL.out.1 LL.out.2.1 LL.out.2.2] at C4
  have K4 := Hid.mk (k3.trans k4)
  clear C3 c1 c2 k3 k4 o4 hb3 ew3
  go_wp2_with (fail)
  with_reducible refine C4.out.mono ?_
  rintro e w5 ⟨rfl, hx⟩
  subst hx
  clear C4
  go_wp2_with (fail)
  rw [Exit.noGoto_ret]
  refine ⟨rfl, _, results_none rfl _ _ _, L', ⟨_, rfl⟩, M1.out.1.keep K4.out, M1.out.2.1.step K4.out (by simp), M1.out.2.2⟩
end Go.Proofs.YtlkbpimlofgflaaDoor
