import Derived.Test.YtodlkpcbkilglaaDoorbNZ
import Derived.WalkKit
import Derived.WalkSpells
import Derived.WalkLawsBesides
import Derived.Maps.AppendAt
import Derived.Deep.RegionHeld3
import Derived.Deep.RegionWith
import Derived.Deep.DeepCutAuto
import Derived.Deep.QuietTactic
import Derived.BigQuiet
import Derived.Laws.CopyOwn
import Derived.Laws.OwnMore
import Derived.ArgAppend
namespace Go.Proofs.YtodlkpcbkilglaaDoor.Bt
open Go.RowKit

/-- What is told of a slice of bytes that came in. -/
def IsRow (k : IntKind) (w : World) (a : Option Addr) (len cap : Nat) (zs : List Int) : Prop :=
  (a = none ∧ len = 0 ∧ cap = 0 ∧ zs = []) ∨
  ∃ x, a = some x ∧ len ≤ cap ∧ cap ≤ maxLen ∧ zs.length = cap ∧ (∀ i, i < zs.length → w.cell? (x.add i) = some (.int k (zs.getD i 0))) ∧ ∀ n ∈ zs, (Lit.int k n).wf = true

theorem isRow_reads {w : World} {a : Option Addr} {len cap : Nat} {zs : List Int} (h : IsRow .u8 w a len cap zs) : ∃ l, l.length = len ∧ Byts l ∧ Reads w a l ∧ len ≤ 9223372036854775807 := by
  rcases h with ⟨rfl, rfl, rfl, rfl⟩ | ⟨x, rfl, hl, hm, hz, hc, hw⟩
  · exact ⟨[], rfl, by simp [Byts], .inl rfl, by decide⟩
  · have hwf : ∀ n ∈ zs, 0 ≤ n ∧ n < 256 := fun n hn => by
      have := hw n hn
      simp [Lit.wf] at this
      have h1 : IntKind.u8.min = 0 := by decide
      have h2 : IntKind.u8.max = 255 := by decide
      omega
    refine ⟨(zs.take len).map Int.toNat, by simp; omega, ?_, ?_, by unfold maxLen at hm; omega⟩
    · intro b hb
      simp only [List.mem_map] at hb
      obtain ⟨z, hz1, rfl⟩ := hb
      have := hwf z (List.mem_of_mem_take hz1)
      omega
    · by_cases h0 : len = 0
      · subst h0; exact .inl (by simp)
      · right
        obtain ⟨b, off, spot⟩ := x
        have hc0 := hc 0 (by omega)
        have hspot : spot = none := by simpa [Addr.add] using World.cell?_spot hc0
        subst hspot
        refine ⟨b, off, rfl, fun i hi => ?_⟩
        have hil : i < len := by simp at hi; omega
        have h1 := hc i (by omega)
        have hadd : (⟨b, off, none⟩ : Addr).add i = ⟨b, off + i, none⟩ := by unfold Addr.add; split <;> simp_all
        rw [hadd] at h1
        rw [h1]
        have hiz : i < zs.length := by omega
        have := hwf zs[i] (List.getElem_mem hiz)
        simp [byt, hiz, hil]
        omega

theorem set_mid {α : Type} (X Z : List α) (y u : α) (j : Nat) (hj : X.length = j) : (X ++ y :: Z).set j u = X ++ u :: Z := by
  subst hj
  rw [List.set_append_right _ _ (Nat.le_refl _), Nat.sub_self, List.set_cons_zero]

theorem row_at {w : World} {g e : Nat} {X : List Nat} (h : w.heap[g]? = some (.cells (X.map byt).toArray e (0, 0))) (j : Nat) (hj : j < X.length) : w.cell? ⟨g, j, none⟩ = some (byt (X.getD j 0)) := by
  simp [World.cell?, h, hj]

end Go.Proofs.YtodlkpcbkilglaaDoor.Bt

namespace Go.Proofs.YtodlkpcbkilglaaDoor.Bt
open Go.RowKit

set_option maxHeartbeats 400000 in
theorem mark_any (i : Int) (w : World) (h0 : 0 ≤ i) (h1 : i ≤ 1000000000000) :
    Calls Tryd.prog 45 #[.int .i64 i] w fun e w' => e = .returned (.int .u8 ((37 * i + 11) % 256)) ∧ w' = w := by
  go_enter Tryd.func45, Tryd.ntmps45
  go_wp2
  go_ret
  exact ⟨ret_int (by first | rfl | (rw [IntKind.wrap_u8'])), rfl⟩

set_option maxHeartbeats 1000000 in
set_option maxRecDepth 1000000 in
theorem full_any (ao : Option Addr) (cap n : Nat) (m : Int) (w : World) (hn : n ≤ 9223372036854775807) (hr : n = 0 ∨ ∃ g off, ao = some ⟨g, off, none⟩ ∧ ∀ i, i < n → w.cell? ⟨g, off + i, none⟩ = some (.int .u8 m)) :
    Calls Tryd.prog 46 #[.slice ao n cap, .int .u8 m] w fun e w' => e = .returned (.bool true) ∧ w' = w := by
  rcases hr with rfl | ⟨g, off, rfl, hc⟩
  · go_enter Tryd.func46, Tryd.ntmps46
    go_wp2
    refine wp_loop_rounds 1 ?_
    rw [rounds_succ]
    go_wp2
    go_ret
    exact ⟨rfl, rfl⟩
  · go_enter Tryd.func46, Tryd.ntmps46
    go_wp2
    go_loop [5] (fun i => ∃ k : Nat, k ≤ n ∧ i = .int .i64 k) (fun i => n - (intOf i).toNat)
    case atStart => exact ⟨0, Nat.zero_le _, rfl⟩
    case round =>
      obtain ⟨k, hk, rfl⟩ := hrel
      by_cases hlt : k < n
      · have hcell := hc k hlt
        go_wp2
        go_round
        case rel => exact ⟨k + 1, by omega, by go_num⟩
        case measure => simp [intOf]; omega
      · go_wp2
        go_ret
        exact ⟨rfl, rfl⟩

theorem lent_step (l : List Nat) (j : Nat) (hj : j < 70) : ((l ++ (List.replicate j 167 ++ List.replicate (70 - j) 0)).map byt).set (l.length + j) (.int .u8 167) = (l ++ (List.replicate (j + 1) 167 ++ List.replicate (70 - (j + 1)) 0)).map byt := by
  have e : 70 - j = (70 - (j + 1)) + 1 := by omega
  rw [e, List.replicate_succ, List.replicate_succ', List.map_append, List.map_append, List.set_append_right _ _ (by simp), List.set_append_right _ _ (by simp)]
  simp [byt]

set_option maxHeartbeats 1000000 in
set_option maxRecDepth 1000000 in
theorem lent_any (ao : Option Addr) (cap m : Nat) (l : List Nat) (w : World) (hr : Reads w ao l) (hm : l.length = m) (hl : m ≤ 140737488355328) :
    Calls Tryd.prog 23 #[.slice ao m cap] w fun e w' => e = .returned (.slice (some ⟨w.heap.size, 0, none⟩) m (m + 70)) ∧
      w'.heap[w.heap.size]? = some (.cells ((l ++ List.replicate 70 167).map byt).toArray 5 (0, 0)) ∧ Kept [] w w' := by
  obtain ⟨i0, hi, hz0, hz1, hz2⟩ := info_parts Tryd.info5
  go_enter Tryd.func23, Tryd.ntmps23
  go_wp2_with (at_make; refine wpList_make_full _ rfl _ _ 37 rfl 0 5 i0 (.int .u8 0) 1 Tryd.underlying37 hi hz0 hz1 _ _ _ _ (m + 70) rfl rfl (by omega) (by omega) ?b2 ?b3 (by omega) ?_)
  case b2 => rw [hz2]; omega
  case b3 => unfold maxLen; omega
  intro w1 ho1 hg1
  have hk1 := Kept.of_grown hg1
  have hr1 := row_heap ho1 rfl
  rw [toList_madeCells_one] at hr1
  have Hsrc := Hid.mk (reads_src (hr.keep hk1))
  rw [hm] at Hsrc
  obtain ⟨w2, hrun, hr2, hk2⟩ := copy_run w1 w.heap.size (m + 70) (m + 70) ao m cap _ (l.map byt) hr1 (by simp) (by simpa using hm) (by omega) Hsrc.out (bytes_one l)
  have hK : Kept [] w w2 := hk1.step hk2 (by simp)
  have hr3 : w2.heap[w.heap.size]? = some (.cells ((l ++ (List.replicate 0 167 ++ List.replicate 70 0)).map byt).toArray 5 (0, 0)) := by
    rw [hr2]; simp [byt]
  have Hr3 := Hid.mk hr3
  have Hm := Hid.mk hm
  have HK := Hid.mk hK
  clear hr2 hr3 hr1 ho1 hg1 hk1 hk2 hK hm hr
  go_wp2
  go_loopw [4] (fun i wr => ∃ j : Nat, j ≤ 70 ∧ i = .int .i64 ((m : Int) + (j : Int)) ∧ wr.heap[w.heap.size]? = some (.cells ((l ++ (List.replicate j 167 ++ List.replicate (70 - j) 0)).map byt).toArray 5 (0, 0)) ∧ Kept [] w wr) (fun i _ => (m + 70) - (intOf i).toNat)
  case atStart => exact ⟨0, by omega, by simp, Hr3.out, HK.out⟩
  case round =>
    obtain ⟨j, hj, rfl, hrow, hkr⟩ := hrel
    by_cases hlt : j < 70
    · have hlen : ((l ++ (List.replicate j 167 ++ List.replicate (70 - j) 0)).map byt).length = m + 70 := by have := Hm.out; simp; omega
      obtain ⟨u, hu⟩ := row_cell_at hrow (j := m + j) (by rw [hlen]; omega)
      have hfz : wr.frozen? ⟨w.heap.size, m + j, none⟩ = false := by simp [World.frozen?, hrow]
      have Hrow := Hid.mk hrow
      have Hkr := Hid.mk hkr
      have Hstep := Hid.mk (lent_step l j hlt)
      clear hrow hkr hlen
      go_wp2
      go_roundw
      case rel =>
        refine ⟨j + 1, by omega, by go_num, ?_, Hkr.out.setCell (p := ⟨w.heap.size, m + j, none⟩) (by simp) _⟩
        rw [heap_setCell_at Hrow.out, List.setIfInBounds_toArray, ← Hstep.out, Hm.out]
      case measure => simp [intOf]; omega
    · obtain rfl : j = 70 := by omega
      have Hrow := Hid.mk hrow
      have Hkr := Hid.mk hkr
      clear hrow hkr
      go_wp2
      go_ret
      refine ⟨rfl, ?_, Hkr.out⟩
      rw [Hrow.out]; simp

theorem xor_u8 (x : Int) (h0 : 0 ≤ x) (h1 : x < 256) : bits BinOp.xor IntKind.u8 x 90 = ((x.toNat ^^^ 90 : Nat) : Int) := by
  have := u8_xor x 90 h0 h1 (by decide) (by decide)
  exact this

theorem back_step (L : List Nat) (j : Nat) (hj : j < L.length) : (((L.take j).map (· ^^^ 90) ++ L.drop j).map byt).set j (byt (L.getD j 0 ^^^ 90)) = ((L.take (j + 1)).map (· ^^^ 90) ++ L.drop (j + 1)).map byt := by
  have h1 : L.drop j = L[j] :: L.drop (j + 1) := List.drop_eq_getElem_cons hj
  have h2 : L.getD j 0 = L[j] := by simp [hj]
  rw [List.take_succ_eq_append_getElem hj, h1, h2, List.map_append, List.map_cons, set_mid _ _ _ _ j (by simp; omega), List.map_append, List.map_append, List.map_append]
  simp only [List.map_cons, List.map_nil, List.append_assoc, List.singleton_append]

theorem back_at (L : List Nat) (j : Nat) (hj : j < L.length) : ((L.take j).map (· ^^^ 90) ++ L.drop j).getD j 0 = L.getD j 0 := by
  have e : ((L.take j).map (· ^^^ 90)).length = j := by simp; omega
  rw [List.getD_eq_getElem?_getD, List.getElem?_append_right (by omega), e, List.getD_eq_getElem?_getD]
  simp

theorem lentL_at (l : List Nat) (j : Nat) : (l ++ List.replicate 70 167).getD j 0 = if j < l.length then l.getD j 0 else if j < l.length + 70 then 167 else 0 := by
  by_cases h : j < l.length
  · rw [if_pos h]
    simp [h, List.getElem?_append_left]
  · rw [if_neg h]
    by_cases h2 : j < l.length + 70
    · rw [if_pos h2, List.getD_eq_getElem?_getD, List.getElem?_append_right (by omega), List.getElem?_replicate, if_pos (by omega)]
      rfl
    · rw [if_neg h2, List.getD_eq_getElem?_getD, List.getElem?_eq_none (by simp; omega)]
      rfl

theorem lentL_byts {l : List Nat} (h : Byts l) : Byts (l ++ List.replicate 70 167) := by
  intro b hb
  rcases List.mem_append.1 hb with h1 | h1
  · exact h b h1
  · have := List.eq_of_mem_replicate h1; omega

set_option maxHeartbeats 2000000 in
set_option maxRecDepth 1000000 in
theorem back_call (g : Nat) (ao : Option Addr) (cap m : Nat) (l : List Nat) (w : World) (hr : Reads w ao l) (hb : Byts l) (hm : l.length = m) (hl : m ≤ 140737488355328)
    (hg : w.heap[g]? = some (.cells ((l ++ List.replicate 70 167).map byt).toArray 5 (0, 0))) (hne : 0 < m → ∀ b off, ao = some ⟨b, off, none⟩ → b ≠ g) :
    Calls Tryd.prog 30 #[.slice (some ⟨g, 0, none⟩) m (m + 70), .slice ao m cap] w fun e w' => e = .returned (.bool true) ∧
      w'.heap[g]? = some (.cells (((l ++ List.replicate 70 167).map (· ^^^ 90)).map byt).toArray 5 (0, 0)) ∧ Kept [g] w w' := by
  have hbL := lentL_byts hb
  have hlL : (l ++ List.replicate 70 167).length = m + 70 := by simp [hm]
  have Hat := Hid.mk (lentL_at l)
  have HL := Hid.mk hlL
  obtain ⟨L, hL⟩ : ∃ L, L = l ++ List.replicate 70 167 := ⟨_, rfl⟩
  rw [← hL] at hbL hg HL Hat ⊢
  have Hg := Hid.mk hg
  have Hr := Hid.mk hr
  have Hm := Hid.mk hm
  have Hne := Hid.mk hne
  clear hg hr hm hlL hL hne
  go_enter Tryd.func30, Tryd.ntmps30
  go_wp2
  go_loopw [6, 7] (fun s i wr => ∃ j : Nat, j ≤ m + 70 ∧ s = .bool true ∧ i = .int .i64 (j : Int) ∧ wr.heap[g]? = some (.cells (((L.take j).map (· ^^^ 90) ++ L.drop j).map byt).toArray 5 (0, 0)) ∧ Kept [g] w wr) (fun _ i _ => (m + 70) - (intOf i).toNat)
  case atStart => exact ⟨0, by omega, rfl, rfl, by rw [Hg.out]; simp, Kept.refl _ _⟩
  case round =>
    obtain ⟨j, hj, rfl, rfl, hrow, hkr⟩ := hrel
    by_cases hlt : j < m + 70
    · have hjL : j < L.length := by rw [HL.out]; exact hlt
      have hlen : (((L.take j).map (· ^^^ 90) ++ L.drop j).map byt).length = m + 70 := by have := HL.out; simp; omega
      have hcell : wr.cell? ⟨g, j, none⟩ = some (byt (L.getD j 0)) := by
        rw [← back_at L j hjL]
        exact row_at hrow j (by rw [List.length_map] at hlen; omega)
      have hfz : wr.frozen? ⟨g, j, none⟩ = false := by simp [World.frozen?, hrow]
      have hyb := getD_lt L j hbL
      obtain ⟨y, hy⟩ : ∃ y : Int, y = ((L.getD j 0 : Nat) : Int) := ⟨_, rfl⟩
      have hcell2 : wr.cell? ⟨g, j, none⟩ = some (.int .u8 y) := by rw [hcell, hy]; rfl
      have y0 : 0 ≤ y := by omega
      have y1 : y < 256 := by omega
      have hx := xor_u8 y y0 y1
      have Hx : Hid (bits BinOp.xor IntKind.u8 y 90 = ((L.getD j 0 ^^^ 90 : Nat) : Int)) := by rw [Hid, hx, hy, Int.toNat_natCast]
      have Hrow := Hid.mk hrow
      have Hkr := Hid.mk hkr
      have Hstep := Hid.mk (back_step L j hjL)
      have hat := Hat.out j
      have hmm := Hm.out
      rw [hmm] at hat
      by_cases hin : j < m
      · rw [if_pos hin] at hat
        have hsrc : ∃ b off, ao = some ⟨b, off, none⟩ ∧ wr.cell? ⟨b, off + j, none⟩ = some (.int .u8 y) := by
          rcases Hr.out with h | ⟨b, off, h, hc⟩
          · rw [h] at hmm; simp at hmm; omega
          · refine ⟨b, off, h, ?_⟩
            have hcb := hc j (by omega)
            have hbl := World.block_lt_of_cell? w _ hcb
            rw [World.cell?_of_block (w := w) (a := ⟨b, off + j, none⟩) (hkr.block b hbl (by simpa using Hne.out (by omega) b off h)), hcb, byt, hy, hat]
        obtain ⟨b, off, rfl, hcb⟩ := hsrc
        clear hcell hrow hlen hy hx hat hkr hmm hyb Hat
        go_wp2
        go_roundw
        case rel =>
          refine ⟨j + 1, by omega, ?_, by go_num, ?_, Hkr.out.setCell (p := ⟨g, j, none⟩) (by simp) _⟩
          · rfl
          · rw [heap_setCell_at Hrow.out, List.setIfInBounds_toArray, ← Hstep.out, Hx.out]
            rfl
        case measure => simp [intOf]; omega
      · rw [if_neg hin, if_pos hlt] at hat
        have hy167 : y = 167 := by rw [hy, hat]; rfl
        subst hy167
        clear hcell hrow hlen hy hx hat hkr hmm hyb Hat y0 y1
        go_wp2
        go_roundw
        case rel =>
          refine ⟨j + 1, by omega, ?_, by go_num, ?_, Hkr.out.setCell (p := ⟨g, j, none⟩) (by simp) _⟩
          · rfl
          · rw [heap_setCell_at Hrow.out, List.setIfInBounds_toArray, ← Hstep.out]
            rw [Hx.out]
            rfl
        case measure => simp [intOf]; omega
    · obtain rfl : j = m + 70 := by omega
      have hL := HL.out
      rw [List.take_of_length_le (by omega), List.drop_of_length_le (by omega), List.append_nil] at hrow
      have Hrow := Hid.mk hrow
      have Hkr := Hid.mk hkr
      clear hrow hkr hL
      go_wp2
      go_ret
      exact ⟨rfl, Hrow.out, Hkr.out⟩
end Go.Proofs.YtodlkpcbkilglaaDoor.Bt

namespace Go.Proofs.YtodlkpcbkilglaaDoor.Bt
open Go.RowKit

theorem Tryd.infoR : (Tryd.prog.info? 37).map (fun i => (i.zero, i.size, i.bytes)) = some (some (.slice none 0 0), 1, 24) := by kernel_rfl
theorem mem_own {v : Value} {x : Nat} : x ∈ v.ownBlock.toList ↔ v.ownBlock = some x := by
  cases h : v.ownBlock <;> simp
  exact ⟨fun e => e.symm, fun e => e.symm⟩

theorem own_lo {w : World} {B n : Nat} {V : Value} {xs : List Value} (h : w.ownsRow B 37 1 V n xs) : ∀ x ∈ V.ownBlock.toList, B ≤ x := by
  intro x hx
  rw [mem_own] at hx
  rcases h.2 with ⟨rfl, _⟩ | ⟨g, cap, cur, rfl, hb, _⟩
  · simp [Value.ownBlock] at hx
  · simp [Value.ownBlock] at hx
    subst hx; exact hb

end Go.Proofs.YtodlkpcbkilglaaDoor.Bt

namespace Go.Proofs.YtodlkpcbkilglaaDoor.Bt
open Go.RowKit

theorem reads_str' {w : World} {ao : Option Addr} {l : List Nat} {m : Nat} (h : Reads w ao l) (hm : l.length = m) (cap : Nat) : Sem.run Tryd.prog (convert 37 9 (.slice ao m cap)) w = .ok (.string (bstr l)) w := by
  subst hm; exact reads_str h cap

/-- A list of bytes that fills its row, or nil. -/
def Lst (w : World) (v : Value) (l : List Nat) : Prop :=
  (v = .slice none 0 0 ∧ l = []) ∨ ∃ g, v = .slice (some ⟨g, 0, none⟩) l.length l.length ∧ w.heap[g]? = some (.cells (l.map byt).toArray 5 (0, 0))
theorem Lst.reads {w : World} {v : Value} {l : List Nat} (h : Lst w v l) : ∃ ao, v = .slice ao l.length l.length ∧ Reads w ao l := by
  rcases h with ⟨rfl, rfl⟩ | ⟨g, rfl, hg⟩
  · exact ⟨none, rfl, .inl rfl⟩
  · refine ⟨_, rfl, .inr ⟨g, 0, rfl, fun i hi => ?_⟩⟩
    simp [World.cell?, hg, hi]
theorem Lst.kept {w w' : World} {v : Value} {l : List Nat} {ks : List Nat} (h : Lst w v l) (hk : Kept ks w w') (hn : ∀ g, v.ownBlock = some g → g ∉ ks) : Lst w' v l := by
  rcases h with h | ⟨g, rfl, hg⟩
  · exact .inl h
  · exact .inr ⟨g, rfl, hk.heap hg (hn g rfl)⟩
theorem Lst.keep {w w' : World} {v : Value} {l : List Nat} (h : Lst w v l) (hk : Kept [] w w') : Lst w' v l := h.kept hk (by simp)
theorem Lst.str {w : World} {v : Value} {l : List Nat} (h : Lst w v l) : Sem.run Tryd.prog (convert 37 9 v) w = .ok (.string (bstr l)) w := by
  obtain ⟨ao, rfl, hr⟩ := h.reads
  exact reads_str hr _
end Go.Proofs.YtodlkpcbkilglaaDoor.Bt
