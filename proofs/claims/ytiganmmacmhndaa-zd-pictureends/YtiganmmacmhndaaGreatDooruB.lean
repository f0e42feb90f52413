import Derived.Test.YtiganmmacmhndaaGreatDoorpVZ
import Derived.Test.YtiganmmacmhndaaGreatDoorqJZ
namespace Go.Proofs.YtiganmmacmhndaaGreatDoor.Pc
open Go.RowKit

/-- The bytes of each of n planes, by a payload; none: it has too few bytes, or too many. -/
def spT : Nat → List Nat → Option (List (List Nat))
  | 0, l => if l = [] then some [] else none
  | n + 1, l => if l.length < 3 then none else if l.length < 3 + nb l 0 3 then none else (spT n (l.drop (3 + nb l 0 3))).map (fun t => (l.drop 3).take (nb l 0 3) :: t)
theorem spT_succ (n : Nat) (l : List Nat) : spT (n + 1) l = if l.length < 3 then none else if l.length < 3 + nb l 0 3 then none else (spT n (l.drop (3 + nb l 0 3))).map (fun t => (l.drop 3).take (nb l 0 3) :: t) := rfl
theorem spT_len {n : Nat} : ∀ {l : List Nat} {L : List (List Nat)}, spT n l = some L → L.length = n := by
  induction n with
  | zero =>
    intro l L h
    unfold spT at h
    split at h
    · cases h; rfl
    · cases h
  | succ n ih =>
    intro l L h
    unfold spT at h
    split at h
    · cases h
    · split at h
      · cases h
      · cases e : spT n (l.drop (3 + nb l 0 3)) with
        | none => rw [e] at h; cases h
        | some t =>
          rw [e] at h
          simp at h
          subst h
          simp [ih e]
/-- Texts of which k stand in the block g; they lie in the world w0. -/
structure Txs (w0 w : World) (g k N : Nat) (vs : Nat → Value) (P : Nat → List Nat) : Prop where
  out : w.heap[g]? = some (.cells (slC vs k N).toArray 22 (0, 0))
  row : ∀ i, i < k → ∃ bo cap, vs i = .slice bo (P i).length cap ∧ (P i).length ≤ cap ∧ Reads w0 bo (P i)
theorem Txs.keep {w0 w w' : World} {g k N : Nat} {vs : Nat → Value} {P : Nat → List Nat} (h : Txs w0 w g k N vs P) (hk : Kept [] w w') : Txs w0 w' g k N vs P := ⟨hk.heap h.out (by simp), h.row⟩
theorem Txs.put {w0 w : World} {g k N : Nat} {vs : Nat → Value} {P : Nat → List Nat} (h : Txs w0 w g k N vs P) {bo : Option Addr} {n cap : Nat} {l : List Nat} (hr : Reads w0 bo l) (hn : l.length = n) (hc : n ≤ cap) :
    Txs w0 (w.setCell ⟨g, k, none⟩ (.slice bo n cap)) g (k + 1) N (fun i => if i = k then .slice bo n cap else vs i) (fun i => if i = k then l else P i) := by
  refine ⟨?_, fun i hi => ?_⟩
  · rw [heap_setCell_at h.out, List.setIfInBounds_toArray, slC_set]
  · by_cases e : i = k
    · subst e
      exact ⟨bo, cap, by simp [hn], by simp [hn, hc], by simpa using hr⟩
    · obtain ⟨b1, c1, h1, h2, h3⟩ := h.row i (by omega)
      exact ⟨b1, c1, by simp [e, h1], by simp [e, h2], by simpa [e] using h3⟩
theorem Txs.mc {w0 w : World} {g N : Nat} {vs : Nat → Value} {P : Nat → List Nat} (h : Txs w0 w g N N vs P) (hk : Kept [] w0 w) : Py.MC w (some ⟨g, 0, none⟩) ((List.range N).map P) := by
  refine .inr ⟨g, 0, rfl, fun i hi => ?_⟩
  have hi : i < N := by simpa using hi
  have e : ((List.range N).map P).getD i [] = P i := by
    rw [List.getD_eq_getElem?_getD, List.getElem?_map, List.getElem?_range hi]; rfl
  rw [e]
  obtain ⟨bo, cap, h1, h2, h3⟩ := h.row i hi
  refine ⟨bo, cap, ?_, h2, h3.keep hk⟩
  rw [Nat.zero_add]
  refine cellAt h.out ?_
  rw [List.getElem?_toArray]
  unfold slC
  rw [Tl.fl_at _ _ _ hi, if_pos hi, h1]
theorem range_put (P : Nat → List Nat) (k : Nat) (x : List Nat) : (List.range (k + 1)).map (fun i => if i = k then x else P i) = (List.range k).map P ++ [x] := by
  rw [List.range_succ, List.map_append]
  congr 1
  · apply List.map_congr_left
    intro i hi
    have : i < k := by simpa using hi
    rw [if_neg (by omega)]
  · simp
/-- What split answers. -/
def SplPost (w : World) (n : Nat) (l : List Nat) (e : Ending) (w' : World) : Prop :=
  (spT n l = none ∧ (∃ vo vn vc, e = .returned (.tuple #[.slice vo vn vc, .bool false])) ∧ Kept [] w w') ∨
  (∃ L g, spT n l = some L ∧ e = .returned (.tuple #[.slice (some ⟨g, 0, none⟩) n n, .bool true]) ∧ w.heap.size ≤ g ∧ Py.MC w' (some ⟨g, 0, none⟩) L ∧ Kept [] w w')

theorem slice_lh (bo : Option Addr) (m cb a z : Nat) (h1 : a ≤ z) (h2 : z ≤ cb) (u : World) : Sem.run Tryz.prog (Instr.slice 22 (.slice bo m cb) (some (.int .i64 (a : Int))) (some (.int .i64 (z : Int))) none) u = .ok (.slice (if cb = a then bo else bo.map (fun x => x.add a)) (z - a) (cb - a)) u := by
  have e : (sizeOf (Tryz.prog.elem 22)).run Tryz.prog u = .ok 1 u := by kernel_rfl
  rw [run_slice_lh (P := Tryz.prog) (w := u) 22 bo m cb (by kernel_rfl) .i64 .i64 (a : Int) (z : Int) (by omega) (by omega) (by omega), e]
  simp [sliced]
theorem slice_l (bo : Option Addr) (m cb a : Nat) (h1 : a ≤ m) (u : World) : Sem.run Tryz.prog (Instr.slice 22 (.slice bo m cb) (some (.int .i64 (a : Int))) none none) u = .ok (.slice (if cb = a then bo else bo.map (fun x => x.add a)) (m - a) (cb - a)) u := by
  have e : (sizeOf (Tryz.prog.elem 22)).run Tryz.prog u = .ok 1 u := by kernel_rfl
  rw [run_slice_l (P := Tryz.prog) (w := u) 22 bo m cb (by kernel_rfl) .i64 (a : Int) (by omega) (by omega), e]
  simp [sliced]
theorem reads_at {w : World} {pg po : Nat} {l : List Nat} (h : Reads w (some ⟨pg, po, none⟩) l) (a k cap : Nat) (hk : a + k ≤ l.length) (hcap : l.length ≤ cap) : Reads w (if cap = a then (some ⟨pg, po, none⟩ : Option Addr) else (some (⟨pg, po, none⟩ : Addr)).map (fun x => x.add a)) ((l.drop a).take k) := by
  by_cases e : cap = a
  · exact .inl (List.length_eq_zero_iff.1 (by simp; omega))
  · rw [if_neg e, Option.map_some, show (⟨pg, po, none⟩ : Addr).add a = ⟨pg, po + a, none⟩ by unfold Addr.add; split <;> simp_all]
    exact reads_cut h a k hk

set_option maxHeartbeats 8000000 in
set_option maxRecDepth 1000000 in
theorem split_any (ao : Option Addr) (m cap n : Nat) (l : List Nat) (w : World) (hr : Reads w ao l) (hb : Byts l) (hm : l.length = m) (hmc : m ≤ cap) (hcap : cap ≤ 9000000000000000000) (hn : n ≤ 1000) :
    Calls Tryz.prog 29 #[.slice ao m cap, .int .i64 (n : Int)] w fun e w' => SplPost w n l e w' := by
  obtain ⟨w5, m5, i5, k5⟩ := make_slc n (by omega) w
  obtain ⟨g, eg⟩ : ∃ g, w.heap.size = g := ⟨_, rfl⟩
  rw [eg] at m5 i5
  have K5 := Hid.mk k5
  have HG : Hid (w.heap.size ≤ g) := Hid.mk (by omega)
  have I5 : Hid (Txs w w5 g 0 n (fun _ => .slice none 0 0) (fun _ => [])) := Hid.mk ⟨by rw [slC_zero]; exact i5, fun i hi => by omega⟩
  have H0 := Hid.mk (And.intro hr (And.intro hb hm))
  clear hr hb hm k5 i5
  go_enter Tryz.func29, Tryz.ntmps29
  go_wp2
  clear m5 eg
  go_loopw [0, 13] (fun v i wr => ∃ (k : Nat) (vs : Nat → Value) (P : Nat → List Nat) (bo : Option Addr) (m' c' : Nat) (l' : List Nat), k ≤ n ∧ v = .slice bo m' c' ∧ i = .int .i64 (k : Int) ∧ m' ≤ c' ∧ c' ≤ 9000000000000000000 ∧ Hid (Reads w bo l' ∧ Byts l' ∧ l'.length = m' ∧ Txs w wr g k n vs P ∧ Kept [] w wr ∧ spT n l = (spT (n - k) l').map (fun t => (List.range k).map P ++ t))) (fun _ i _ => n - (intOf i).toNat)
  case atStart => exact ⟨0, _, _, ao, m, cap, l, Nat.zero_le _, rfl, rfl, hmc, hcap, Hid.mk ⟨H0.out.1, H0.out.2.1, H0.out.2.2, I5.out, K5.out, by simp⟩⟩
  case round =>
    obtain ⟨k, vs, P, bo, m', c', l', hk, rfl, rfl, hmc', hc', HI⟩ := hrel
    have hlen := HI.out.2.2.1
    have KR := Hid.mk HI.out.2.2.2.2.1
    clear I5 H0
    by_cases hlt : k < n
    · have ik : (k : Int) < (n : Int) := by omega
      have hnk : n - k = (n - k - 1) + 1 := by omega
      by_cases h3 : m' < 3
      · have i3 : (m' : Int) < 3 := by omega
        have HN : Hid (spT n l = none) := Hid.mk (by
          rw [HI.out.2.2.2.2.2, hnk]
          unfold spT
          rw [if_pos (by omega)]; rfl)
        clear hnk hlen
        go_wp2
        refine bodyPost_ret (v := .tuple #[.slice none 0 0, .bool false]) (by simp [results, Tryz.results29, go_sem]) rfl (.inl ⟨HN.out, ⟨_, _, _, rfl⟩, KR.out⟩)
      · have i3 : ¬ (m' : Int) < 3 := by omega
        obtain ⟨pg, po, rfl⟩ : ∃ pg po, bo = some ⟨pg, po, none⟩ := by
          rcases HI.out.1 with h | ⟨pg, po, e, _⟩
          · subst h; simp at hlen; omega
          · exact ⟨pg, po, e⟩
        have CN := Hid.mk (pnum_any pg po c' m' 0 3 l' wr (HI.out.1.keep KR.out) HI.out.2.1 hlen hmc' (by omega) (by omega) (by omega) (by omega))
        have hx : nb l' 0 3 < 16777216 := nb_lt HI.out.2.1 (a := 0) (k := 3) (by omega)
        obtain ⟨x, ex⟩ : ∃ x, nb l' 0 3 = x := ⟨_, rfl⟩
        rw [ex] at CN hx
        obtain ⟨z, ez⟩ : ∃ z, 3 + x = z := ⟨_, rfl⟩
        have V := Hid.mk (wq2 (show (3 : Int) + (x : Int) = (z : Int) by omega) (by omega))
        go_wp2_with (fail)
        refine CN.out.mono ?_
        rintro e wn ⟨rfl, hwn⟩
        obtain rfl := hwn.symm
        clear hwn CN
        by_cases hz : m' < z
        · have iz : (m' : Int) < (z : Int) := by omega
          have HN : Hid (spT n l = none) := Hid.mk (by
            rw [HI.out.2.2.2.2.2, hnk]
            unfold spT
            rw [if_neg (by omega), ex, if_pos (by omega)]; rfl)
          clear hnk hlen ez hx hz
          obtain ⟨v1, v2⟩ := V.out
          go_wp2
          refine bodyPost_ret (v := .tuple #[.slice none 0 0, .bool false]) (by simp [results, Tryz.results29, go_sem]) rfl (.inl ⟨HN.out, ⟨_, _, _, rfl⟩, KR.out⟩)
        · have iz : ¬ (m' : Int) < (z : Int) := by omega
          have hcg := cellAt (i := k) (v := .slice none 0 0) HI.out.2.2.2.1.out (by rw [List.getElem?_toArray]; unfold slC; rw [Tl.fl_at _ _ _ hlt, if_neg (by omega)])
          have hfg := row_fz HI.out.2.2.2.1.out k
          have rt := reads_at HI.out.1 3 x c' (by omega) (by omega)
          have rr := reads_at HI.out.1 z (m' - z) c' (by omega) (by omega)
          rw [List.take_of_length_le (by simp; omega)] at rr
          have lt : ((l'.drop 3).take x).length = x := by simp; omega
          have lr : (l'.drop z).length = m' - z := by simp; omega
          have NX : Hid (∀ wx, Kept [] wr wx → ∀ bt br : Option Addr, Reads w bt ((l'.drop 3).take x) → Reads w br (l'.drop z) → ∃ (k1 : Nat) (vs : Nat → Value) (P : Nat → List Nat) (bo : Option Addr) (m1 c1 : Nat) (l1 : List Nat), k1 ≤ n ∧ Value.slice br (m' - z) (c' - z) = .slice bo m1 c1 ∧ Value.int .i64 ((k : Int) + 1) = .int .i64 (k1 : Int) ∧ m1 ≤ c1 ∧ c1 ≤ 9000000000000000000 ∧ Hid (Reads w bo l1 ∧ Byts l1 ∧ l1.length = m1 ∧ Txs w (wx.setCell ⟨g, k, none⟩ (.slice bt x (c' - 3))) g k1 n vs P ∧ Kept [] w (wx.setCell ⟨g, k, none⟩ (.slice bt x (c' - 3))) ∧ spT n l = (spT (n - k1) l1).map (fun t => (List.range k1).map P ++ t))) := Hid.mk (fun wx hx bt br h1 h2 => by
            refine ⟨k + 1, _, _, br, m' - z, c' - z, l'.drop z, by omega, rfl, by simp, by omega, by omega, Hid.mk ⟨h2, fun b hb => HI.out.2.1 b (List.mem_of_mem_drop hb), lr, (HI.out.2.2.2.1.keep hx).put h1 lt (by omega), (KR.out.trans hx).setCell (p := ⟨g, k, none⟩) (.inr HG.out) _, ?_⟩⟩
            rw [HI.out.2.2.2.2.2, hnk, range_put]
            rw [show spT (n - k - 1 + 1) l' = (spT (n - k - 1) (l'.drop z)).map (fun t => (l'.drop 3).take x :: t) by
              rw [spT_succ, if_neg (by omega), ex, ez, if_neg (by omega)], show n - (k + 1) = n - k - 1 by omega]
            cases spT (n - k - 1) (l'.drop z) <;> simp)
          have S1 := fun u => slice_lh (some ⟨pg, po, none⟩) m' c' 3 z (by omega) (by omega) u
          have S2 := fun u => slice_l (some ⟨pg, po, none⟩) m' c' z (by omega) u
          rw [show z - 3 = x by omega] at S1
          have RR := fun wx hwx => NX.out wx hwx _ _ rt rr
          clear NX rt rr
          obtain ⟨bt, ebt⟩ : ∃ b, (if c' = 3 then (some ⟨pg, po, none⟩ : Option Addr) else (some (⟨pg, po, none⟩ : Addr)).map (fun x => x.add 3)) = b := ⟨_, rfl⟩
          obtain ⟨br, ebr⟩ : ∃ b, (if c' = z then (some ⟨pg, po, none⟩ : Option Addr) else (some (⟨pg, po, none⟩ : Addr)).map (fun x => x.add z)) = b := ⟨_, rfl⟩
          rw [ebt] at S1 RR
          rw [ebr] at S2 RR
          obtain ⟨ct, ect⟩ : ∃ b, c' - 3 = b := ⟨_, rfl⟩
          obtain ⟨cr, ecr⟩ : ∃ b, c' - z = b := ⟨_, rfl⟩
          obtain ⟨mr, emr⟩ : ∃ b, m' - z = b := ⟨_, rfl⟩
          rw [ect] at S1 RR
          rw [emr, ecr] at S2 RR
          have RR := Hid.mk RR
          clear ebt ebr ect ecr emr hnk lt lr hx ez hlen hmc' hc' ex hz h3
          obtain ⟨v1, v2⟩ := V.out
          have S1' : ∀ u, Sem.run Tryz.prog (Instr.slice 22 (.slice (some ⟨pg, po, none⟩) m' c') (some (.int .i64 3)) (some (.int .i64 (z : Int))) none) u = .ok (.slice bt x ct) u := S1
          clear S1
          have RS := RR.out wr.drew (Kept.refl [] wr).drew
          have RS := Hid.mk RS
          clear RR
          go_wp2_with (fail)
          go_region_law (fail)
          go_wp2
          go_roundw
          case rel => exact RS.out
          case measure => simp [intOf]; omega
    · obtain rfl : n = k := by omega
      have hs : spT n l = (spT 0 l').map (fun t => (List.range n).map P ++ t) := by rw [HI.out.2.2.2.2.2, Nat.sub_self]
      by_cases h0 : m' = 0
      · have HY : Hid (spT n l = some ((List.range n).map P)) := Hid.mk (by
          rw [hs]
          unfold spT
          rw [if_pos (List.length_eq_zero_iff.1 (by omega))]; simp)
        have HMC := Hid.mk (HI.out.2.2.2.1.mc KR.out)
        subst h0
        clear hs hlen hlt hk
        go_wp2
        refine bodyPost_ret (v := .tuple #[.slice (some ⟨g, 0, none⟩) n n, .bool true]) (by simp [results, Tryz.results29, go_sem]) rfl (.inr ⟨_, g, HY.out, rfl, HG.out, HMC.out, KR.out⟩)
      · have HY : Hid (spT n l = none) := Hid.mk (by
          rw [hs]
          unfold spT
          rw [if_neg (fun h => h0 (by rw [← hlen, h]; rfl))]; rfl)
        have i0 : ¬ (m' : Int) = 0 := by omega
        have i1 : ((m' : Int) == 0) = false := by simp; omega
        clear hs hlen hlt hk
        go_wp2
        refine bodyPost_ret (v := .tuple #[.slice (some ⟨g, 0, none⟩) n n, .bool false]) (by simp [results, Tryz.results29, go_sem]) rfl (.inl ⟨HY.out, ⟨_, _, _, rfl⟩, KR.out⟩)
end Go.Proofs.YtiganmmacmhndaaGreatDoor.Pc
