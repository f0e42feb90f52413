import Derived.Test.YtiojcfffhcipnaaRd
namespace Go.Proofs.Ytiojcfffhcipnaa
open Go.RowKit

theorem own_set {w : World} {B G n c : Nat} {xs : List Value} (h : w.ownsRow B 5 1 (.slice (some ⟨G, 0, none⟩) n c) n xs) (i : Nat) (v : Value) : (w.setCell ⟨G, i, none⟩ v).ownsRow B 5 1 (.slice (some ⟨G, 0, none⟩) n c) n (xs.set i v) := by
  refine ⟨by rw [List.length_set]; exact h.1, ?_⟩
  rcases h.2 with ⟨h2, _⟩ | ⟨g, cap, cur, h2, h3, h4, h5, h6, h7, h8⟩
  · cases h2
  · simp only [Value.slice.injEq, Option.some.injEq, Addr.mk.injEq] at h2
    obtain ⟨⟨rfl, -, -⟩, -, rfl⟩ := h2
    refine .inr ⟨G, c, cur.setIfInBounds i v, rfl, h3, heap_setCell_at h4, h5, h6, by simpa using h7, ?_⟩
    rw [← h8]
    simp only [Array.toList_setIfInBounds, Nat.mul_one]
    rw [List.take_set]
theorem owB_zero (b : List Nat) (q : Nat) : owB b q [] = b := by simp [owB, List.take_append_drop]
theorem owB_at (b t : List Nat) (q i : Nat) (h : q ≤ b.length) : (owB b q t)[i]? = if i < q then b[i]? else if i < q + t.length then t[i - q]? else b[i]? := by
  have hq : (b.take q).length = q := by simp; omega
  unfold owB
  rw [List.append_assoc]
  by_cases h1 : i < q
  · rw [if_pos h1, List.getElem?_append_left (by omega), List.getElem?_take_of_lt h1]
  · rw [if_neg h1, List.getElem?_append_right (by omega), hq]
    by_cases h2 : i < q + t.length
    · rw [if_pos h2, List.getElem?_append_left (by omega)]
    · rw [if_neg h2, List.getElem?_append_right (by omega), List.getElem?_drop]
      congr 1
      omega
theorem owB_step (b l : List Nat) (q k : Nat) (hk : k < l.length) (h : q + l.length ≤ b.length) : ((owB b q (l.take k)).map byt).set (q + k) (byt (l.getD k 0)) = (owB b q (l.take (k + 1))).map byt := by
  apply List.ext_getElem?
  intro i
  have l1 : (owB b q (l.take k)).length = b.length := owB_len b q _ (by simp; omega)
  have hk1 : (l.take k).length = k := by simp; omega
  have hk2 : (l.take (k + 1)).length = k + 1 := by simp; omega
  rw [List.getElem?_set, List.getElem?_map, List.getElem?_map, owB_at _ _ _ _ (by omega), owB_at _ _ _ _ (by omega), hk1, hk2]
  by_cases e : q + k = i
  · subst e
    rw [if_pos rfl, if_pos (by simp [l1]; omega), if_neg (by omega), if_pos (by omega), Nat.add_sub_cancel_left, List.getElem?_take_of_lt (by omega), List.getElem?_eq_getElem hk]
    simp [hk]
  · rw [if_neg e]
    congr 1
    by_cases h1 : i < q
    · rw [if_pos h1, if_pos h1]
    · rw [if_neg h1, if_neg h1]
      by_cases h2 : i < q + k
      · rw [if_pos h2, if_pos (by omega), List.getElem?_take_of_lt (by omega), List.getElem?_take_of_lt (by omega)]
      · rw [if_neg h2, if_neg (by omega)]

set_option maxHeartbeats 16000000 in
set_option maxRecDepth 100000 in
theorem roverwrite_any (w : World) (P : Nat) (V L : Value) (s : Md) (a : Int) (so : Option Addr) (m sc : Nat) (l : List Nat) (h : Rmd w P V L s) (ok : s.b.length ≤ 268435456) (hr : Reads w so l) (hm : l.length = m) (hS : l = [] ∨ ∀ g off, so = some ⟨g, off, none⟩ → g ∉ V.ownBlock.toList) (a1 : a ≤ 9223372036854775807) :
    Calls Try.prog 31 #[.pointer (some ⟨P, 0, none⟩), .int .i64 a, .slice so m sc] w fun e w' => e = .returned (.int .i64 (owE s a l)) ∧ Rmd w' P V L (owS s a l) ∧ Kept V.ownBlock.toList w w' := by
  obtain ⟨b, g, d, lf, kp⟩ := s
  simp only at ok
  obtain ⟨n, en⟩ : ∃ n, b.length = n := ⟨_, rfl⟩
  rw [en] at ok
  obtain ⟨bo, c, eV, n1, -⟩ := h.bounds
  simp only [en] at eV
  subst eV
  have CL := Hid.mk (fun u => rlies_any a (m : Int) (n : Int) u a1 (by omega) (by omega))
  have HM := Hid.mk h
  have HR := Hid.mk hr
  have HS := Hid.mk hS
  have c0 := h.c0
  by_cases hin : inB a (m : Int) (n : Int) = true
  · have e1 : owE ⟨b, g, d, lf, kp⟩ a l = 0 := by simp [owE, en, hm, hin]
    have e2 : owS ⟨b, g, d, lf, kp⟩ a l = ⟨owB b a.toNat l, g, d, lf, kp⟩ := by simp [owS, en, hm, hin]
    rw [e1, e2]
    rw [hin] at CL
    simp only [inB, decide_eq_true_eq] at hin
    obtain ⟨q, rfl⟩ : ∃ q : Nat, a = (q : Int) := ⟨a.toNat, by omega⟩
    simp only [Int.toNat_natCast]
    have HQ : Hid (q + m ≤ n ∧ n ≤ 268435456) := Hid.mk (by omega)
    clear e1 e2 hin a1 h hr hS ok
    go_enter Try.func31, Try.ntmps31
    go_wp2_with (fail)
    refine (CL.out w).mono ?_
    rintro e wq ⟨rfl, hwq⟩
    obtain rfl := hwq.symm
    clear c0
    go_wp2
    go_loopw [8] (fun i wr => ∃ k : Nat, k ≤ m ∧ i = .int .i64 (k : Int) ∧ Hid (Rmd wr P (.slice bo n c) L ⟨owB b q (l.take k), g, d, lf, kp⟩ ∧ Kept (Value.slice bo n c).ownBlock.toList w wr)) (fun i _ => m - (intOf i).toNat)
    case atStart => exact ⟨0, Nat.zero_le _, rfl, Hid.mk ⟨by rw [List.take_zero, owB_zero b q]; exact HM.out, Kept.refl _ _⟩⟩
    case round =>
      obtain ⟨k, hk, rfl, HI⟩ := hrel
      by_cases hlt : k < m
      · have ik : (k : Int) < (m : Int) := by omega
        obtain ⟨G, rfl⟩ : ∃ G, bo = some ⟨G, 0, none⟩ := by
          have hrow := HM.out.row
          rcases hrow.2 with ⟨hx, h0⟩ | ⟨G, cap, cur, hx, _⟩
          · have := HQ.out; simp only [en] at h0; omega
          · simp only [Value.slice.injEq] at hx; exact ⟨G, hx.1⟩
        have c0 := HI.out.1.c0
        obtain ⟨sg, soff, rfl, hbc⟩ : ∃ sg soff, so = some ⟨sg, soff, none⟩ ∧ wr.cell? ⟨sg, soff + k, none⟩ = some (byt (l.getD k 0)) := by
          rcases HR.out with q | ⟨sg, soff, e, hc⟩
          · subst q; simp at hm; omega
          · refine ⟨sg, soff, e, ?_⟩
            have h1 := hc k (by omega)
            have hlt2 := World.block_lt_of_cell? w _ h1
            have hne : sg ∉ (Value.slice (some ⟨G, 0, none⟩) n c).ownBlock.toList := by
              rcases HS.out with q | q
              · subst q; simp at hm; omega
              · exact q sg soff e
            exact (World.cell?_of_block (a := ⟨sg, soff + k, none⟩) (HI.out.2.block sg hlt2 hne)).trans h1
        obtain ⟨x, ex⟩ : ∃ x, l.getD k 0 = x := ⟨_, rfl⟩
        rw [ex] at hbc
        have hbc' : wr.cell? ⟨sg, soff + k, none⟩ = some (.int .u8 (x : Int)) := hbc
        obtain ⟨t, et⟩ : ∃ t, q + k = t := ⟨_, rfl⟩
        have v1 : wrap64 ((q : Int) + (k : Int)) = (t : Int) := by have := HQ.out; unfold wrap64; omega
        have v2 : IntKind.i64.wrap ((q : Int) + (k : Int)) = (t : Int) := by have := HQ.out; unfold IntKind.wrap; simp [IntKind.bits, IntKind.signed]; omega
        have it : (t : Int) < (n : Int) := by have := HQ.out; omega
        have lb : (owB b q (l.take k)).length = n := by rw [owB_len b q _ (by simp; have := HQ.out; omega), en]
        have hrow : wr.drew.ownsRow 0 5 1 (.slice (some ⟨G, 0, none⟩) n c) n ((owB b q (l.take k)).map byt) := by have := HI.out.1.drew.row; simp only [lb] at this; exact this
        have hct : ∃ u, wr.cell? ⟨G, t, none⟩ = some u := by
          have := hrow.cells (g := G) rfl t
          have hlt3 : t < ((owB b q (l.take k)).map byt).length := by simp [lb]; omega
          have := this _ (List.getElem?_eq_getElem hlt3)
          rw [addN, Nat.zero_add] at this
          exact ⟨_, this⟩
        obtain ⟨u, hcu⟩ := hct
        have hfz : wr.frozen? ⟨G, t, none⟩ = false := by
          rcases hrow.2 with ⟨hx, _⟩ | ⟨G', cap, cur, hx, _, hg, _⟩
          · cases hx
          · simp only [Value.slice.injEq, Option.some.injEq, Addr.mk.injEq] at hx
            obtain ⟨⟨rfl, -, -⟩, -, -⟩ := hx
            have hg' : wr.heap[G]? = some (.cells cur 5 (0, 0)) := hg
            simp [World.frozen?, hg']
        have hkk : Kept [G] wr.drew (wr.drew.setCell ⟨G, t, none⟩ (.int .u8 (x : Int))) := (Kept.refl _ _).setCell (.inl (by simp)) _
        have hNP : P ∉ [G] := fun hm => by
          have := own_ty HI.out.1.box (by decide) HI.out.1.row
          simp [Value.ownBlock] at this hm
          exact this hm
        have M5 : Hid (Rmd (wr.drew.setCell ⟨G, t, none⟩ (.int .u8 (x : Int))) P (.slice (some ⟨G, 0, none⟩) n c) L ⟨owB b q (l.take (k + 1)), g, d, lf, kp⟩ ∧ Kept (Value.slice (some ⟨G, 0, none⟩) n c).ownBlock.toList w (wr.drew.setCell ⟨G, t, none⟩ (.int .u8 (x : Int)))) := Hid.mk (by
          have l2 : (owB b q (l.take (k + 1))).length = n := by rw [owB_len b q _ (by simp; have := HQ.out; omega), en]
          have hs := own_set hrow t (byt x)
          rw [← et, ← ex, owB_step b l q k (by omega) (by have := HQ.out; omega), et, ex] at hs
          refine ⟨⟨hkk.heap HI.out.1.drew.box hNP, by simp only [l2]; exact hs, hkk.row HI.out.1.drew.log (fun g' hg' => by have := own_two HI.out.1.log HI.out.1.row (by decide) g' hg'; simpa [Value.ownBlock] using this)⟩, (HI.out.2.drew).step hkk (fun x hx => by simp [Value.ownBlock] at hx ⊢; exact .inl hx)⟩)
        have HT := Hid.mk et
        have hkb : k ≤ 268435456 := by have := HQ.out; omega
        clear hbc hrow hkk hNP lb et ex
        go_wp2_with (fail)
        go_region_law (fail)
        all_goals focus
          go_wp2
          go_roundw
          case rel => exact ⟨k + 1, by omega, by have := HQ.out; go_num, M5⟩
          case measure => have := HQ.out; simp [intOf]; omega
      · obtain rfl : m = k := by omega
        clear hlt hk
        go_wp2
        go_ret
        exact ⟨rfl, by have := HI.out.1; rw [List.take_of_length_le (by omega)] at this; exact this, HI.out.2⟩
  · have hin' : inB a (m : Int) (n : Int) = false := by simpa using hin
    have e1 : owE ⟨b, g, d, lf, kp⟩ a l = 151 := by simp [owE, en, hm, hin']
    have e2 : owS ⟨b, g, d, lf, kp⟩ a l = ⟨b, g, d, lf, kp⟩ := by simp [owS, en, hm, hin']
    rw [e1, e2]
    rw [hin'] at CL
    clear e1 e2 hin hin' a1 h hr hS ok
    go_enter Try.func31, Try.ntmps31
    go_wp2_with (fail)
    refine (CL.out w).mono ?_
    rintro e wq ⟨rfl, hwq⟩
    obtain rfl := hwq.symm
    go_wp2
    go_ret
    exact ⟨rfl, HM.out, Kept.refl _ _⟩
end Go.Proofs.Ytiojcfffhcipnaa
