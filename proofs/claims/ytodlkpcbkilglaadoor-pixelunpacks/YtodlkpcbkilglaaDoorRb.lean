import Derived.Test.YtodlkpcbkilglaaDoorClZ
import Derived.Test.YtodlkpcbkilglaaDoorbNZ
import Derived.Test.YtodlkpcbkilglaaDoorB2Z
namespace Go.Proofs.YtodlkpcbkilglaaDoor
open Go.RowKit Go.Shelf
attribute [local go_sem] Oper.semAt_some

set_option maxHeartbeats 4000000 in
set_option maxRecDepth 1000000 in
/-- slices.Clone of a part of a list of bytes. -/
theorem clone_off (g o n c : Nat) (f : Nat → Nat) (w : World) (h : ∀ i, i < n → w.cell? ⟨g, o + i, none⟩ = some (.int .u8 (f i : Int))) (hn : n ≤ 1000000000) :
    Calls Tryd.prog 100 #[.slice (some ⟨g, o, none⟩) n c] w fun e w' => ∃ g1 c1, e = .returned (.slice (some ⟨g1, 0, none⟩) n c1) ∧ w.heap.size ≤ g1 ∧ g1 < w'.heap.size ∧ n ≤ c1 ∧ Cb w' g1 n f ∧ Kept [] w w' := by
  obtain ⟨j0, gi, gz0, gz1, gz2⟩ := info_parts Bt.Tryd.info5
  have ho : (w.alloc (.cells #[] 5)).ownsRow w.heap.size 5 1 (.slice (some ⟨w.heap.size, 0, none⟩) 0 0) 0 ([] : List Value) := World.ownsRow_lit w #[] 0 (Nat.le_refl _) (by decide) rfl
  have HO := Hid.mk ho
  have hq := eql_some w ⟨g, o, none⟩ n c
  have H0 := Hid.mk h
  clear ho h
  go_enter Tryd.func100, Tryd.ntmps100
  go_wp2_with (at_builtin; refine wpList_append_own_at _ rfl _ _ 37 rfl w.heap.size 5 j0 (.int .u8 0) 1 1 Tryd.underlying37 gi gz0 gz1 gz2 rfl (by decide) _ 0 [] rfl HO.out ⟨g, o, none⟩ n c (fl (fun i => .int .u8 (f i : Int)) n) rfl ?c1 ?c2 ?c3 ?c4 ?c5 ?c6 ?_)
  case c1 => rw [fl_length, Nat.mul_one]
  case c2 =>
    intro j x hj
    have hjm : j < n := by
      rcases Nat.lt_or_ge j n with h | h
      · exact h
      · rw [List.getElem?_eq_none (by rw [fl_length]; exact h)] at hj; cases hj
    rw [fl_at _ _ _ hjm] at hj
    cases hj
    rw [show (⟨g, o, none⟩ : Addr).add j = ⟨g, o + j, none⟩ by unfold Addr.add; split <;> simp_all]
    exact cell_keep (alloc_kept w _) (H0.out j hjm) (by simp)
  case c3 =>
    intro x hx
    simp only [fl, List.mem_map] at hx
    obtain ⟨i, _, rfl⟩ := hx
    rfl
  case c4 => unfold maxLen; omega
  case c5 => omega
  case c6 => rw [World.size_alloc]; omega
  intro v' w' h2 h3 h4 _
  have hk : Kept [] w w' := (alloc_kept w _).step (Kept.of_grown h3) (fun x hx => by simp [Value.ownBlock] at hx; subst hx; exact .inr (Nat.le_refl _))
  rcases h2.2 with ⟨e, h0⟩ | ⟨g1, cap, cur, e, hb, hg, hc, _, hcs, htk⟩
  · exact absurd e h4
  · subst e
    have HR : Hid (w.heap.size ≤ g1 ∧ g1 < w'.heap.size ∧ n ≤ cap ∧ Cb w' g1 n f ∧ Kept [] w w') := Hid.mk ⟨hb, lt_of_block hg, hc, ⟨cur, hg, by omega, fun i hi => by
      have hcc := h2.cells (g := g1) rfl i _ (fl_at _ n i hi)
      rw [show (⟨g1, 0, none⟩ : Addr).add i = ⟨g1, 0 + i, none⟩ by unfold Addr.add; split <;> simp_all, Nat.zero_add] at hcc
      rw [cell_of_row _ _ _ _ _ _ hg] at hcc
      exact hcc⟩, hk⟩
    clear h2 h3 h4 hb hg hc hcs htk hk
    go_wp2
    go_ret
    exact ⟨g1, cap, rfl, HR.out⟩

set_option maxHeartbeats 4000000 in
set_option maxRecDepth 1000000 in
/-- The same bytes, the last one first. -/
theorem backB_off (g o n c : Nat) (f : Nat → Nat) (w : World) (h : ∀ i, i < n → w.cell? ⟨g, o + i, none⟩ = some (.int .u8 (f i : Int))) (hn : n ≤ 1000000000) :
    Calls Tryd.prog 82 #[.slice (some ⟨g, o, none⟩) n c] w fun e w' => ∃ g1 c1, e = .returned (.slice (some ⟨g1, 0, none⟩) n c1) ∧ w.heap.size ≤ g1 ∧ g1 < w'.heap.size ∧ n ≤ c1 ∧ Cb w' g1 n (fun t => f (n - 1 - t)) ∧ Kept [] w w' := by
  have C1 := Hid.mk (clone_off g o n c f w h hn)
  clear h
  go_enter Tryd.func82, Tryd.ntmps82
  go_wp2_with (go_at_call 100; refine C1.out.mono ?_; rintro e w2 ⟨g1, c1, rfl, hg1, hl1, hc1, hb1, hk1⟩)
  have C2 := Hid.mk (reverse_any g1 n c1 f w2 hb1 hn)
  have HH := Hid.mk (And.intro hg1 (And.intro hl1 (And.intro hc1 hk1)))
  clear hg1 hl1 hc1 hk1 hb1
  go_wp2_with (go_at_call 101; refine C2.out.mono ?_; rintro e w3 ⟨⟨v, rfl⟩, hb2, hk2⟩)
  go_ret
  obtain ⟨a1, a2, a3, a4⟩ := HH.out
  exact ⟨g1, c1, rfl, a1, Nat.lt_of_lt_of_le a2 hk2.size, a3, hb2, a4.step hk2 (fun x hx => by simp at hx; subst hx; exact .inr a1)⟩


set_option maxHeartbeats 4000000 in
set_option maxRecDepth 1000000 in
/-- slices.Backward's closure over a list that its rounds write: each value, the last one first. -/
theorem back_iter2 (l Bs n c : Nat) (ao : Option Addr) (f : Nat → Nat) (hn : n ≤ 9223372036854775807) (J : Nat → World → Prop)
    (hJF : ∀ k W, J k W → W.cell? ⟨Bs, 0, none⟩ = some (.slice ao n c) ∧ ∀ j, k + 1 + j = n → ∃ g off, ao = some ⟨g, off, none⟩ ∧ W.cell? ⟨g, off + j, none⟩ = some (.int .u16 (f j : Int)))
    (hY : ∀ k W j, J k W → k + 1 + j = n → YieldAt Fence.wide 0 Tryd.prog l #[.int .i64 (j : Int), .int .u16 (f j : Int)] W (fun e W' => e = .returned (.bool true) ∧ J (k + 1) W')) (W : World) (h0 : J 0 W) :
    CallsIn Fence.wide 0 Tryd.prog 96 #[.func (.yield l) #[] #[], .pointer (some ⟨Bs, 0, none⟩)] W (fun e W' => (∃ v, e = .returned v) ∧ J n W') := by
  refine callsIn_of_wp Tryd.func96 rfl trivial ?_ rfl
  simp only [Tryd.ntmps96, List.size_toArray, List.length_cons, List.length_nil, Nat.reduceAdd, Nat.reduceSub, Array.replicate_succ, Array.replicate_zero, List.push_toArray, List.append_toArray, List.nil_append, List.cons_append]
  have hb := (hJF 0 W h0).1
  gi_wp2
  gi_loopw [3] (fun i wr => ∃ k : Nat, k ≤ n ∧ i = .int .i64 ((n : Int) - 1 - k) ∧ J k wr) (fun i _ => (intOf i + 1).toNat)
  case atStart => exact ⟨0, by omega, by go_num, h0⟩
  case round =>
    obtain ⟨k, hk, rfl, hJ⟩ := hrel
    by_cases hlt : k < n
    · obtain ⟨j, hj⟩ : ∃ j : Nat, (n : Int) - 1 - k = (j : Int) := ⟨((n : Int) - 1 - k).toNat, by omega⟩
      obtain ⟨fn, tmps, assign, body, hy, hR⟩ := hY k wr j hJ (by omega)
      have hF := hJF k wr hJ
      have hbc := hF.1
      obtain ⟨g, off, rfl, hc⟩ := hF.2 j (by omega)
      have jx : (j : Int) < (n : Int) := by omega
      rw [hj]
      gi_wp2
      refine ⟨rfl, hR.mono ?_⟩
      rintro e W3 ⟨rfl, hJ3⟩
      gi_wp2
      go_roundw
      case rel => exact ⟨k + 1, by omega, by first | (congr 1; done) | (congr 1; omega), hJ3⟩
      case measure => first | (simp [intOf]; done) | (simp [intOf]; omega)
    · have hk2 : (n : Int) - 1 - k = -1 := by omega
      rw [hk2]
      obtain rfl : n = k := by omega
      gi_wp2
      go_end0
      exact ⟨⟨_, rfl⟩, hJ⟩


/-- The bytes of a list, the last one first. -/
def rvL (f : Nat → Nat) (n : Nat) : List Nat := (List.range n).map (fun t => f (n - 1 - t))
theorem rvL_length (f : Nat → Nat) (n : Nat) : (rvL f n).length = n := by simp [rvL]
theorem rvL_getD (f : Nat → Nat) (n i : Nat) (hi : i < n) : (rvL f n).getD i 0 = f (n - 1 - i) := by simp [rvL, hi]
theorem rvL_byts {f : Nat → Nat} {n : Nat} (hf : ∀ i, i < n → f i < 256) : Bt.Byts (rvL f n) := by
  intro b hb
  simp only [rvL, List.mem_map, List.mem_range] at hb
  obtain ⟨t, ht, rfl⟩ := hb
  exact hf _ (by omega)
theorem rvL_reads {w : World} {g n : Nat} {f : Nat → Nat} (h : Cb w g n (fun t => f (n - 1 - t))) : Bt.Reads w (some ⟨g, 0, none⟩) (rvL f n) := by
  refine .inr ⟨g, 0, rfl, fun i hi => ?_⟩
  rw [rvL_length] at hi
  rw [Nat.zero_add, h.at hi, rvL_getD f n i hi]
  rfl
/-- Whole bytes are taken. -/
theorem nextN_bytes (l : List Nat) (a m : Nat) (hl : Bt.Byts l) (h : a + m ≤ l.length) : Bt.nextN l (8 * a) (8 * m) = Bt.num ((l.drop a).take m) := by
  have := Bt.num_mid l a (a + m) (by omega) h hl
  rw [show a + m - a = m by omega] at this
  rw [this, Bt.nextN, Bt.pow256, Bt.pow256, show 8 * l.length - (8 * a + 8 * m) = 8 * (l.length - (a + m)) by omega]
theorem nextN_two (f : Nat → Nat) (n x : Nat) (hf : ∀ i, i < 2 * n → f i < 256) (hx : x < n) : Bt.nextN (rvL f (2 * n)) (16 * (n - 1 - x)) 16 = f (2 * x) + 256 * f (2 * x + 1) := by
  have h := nextN_bytes (rvL f (2 * n)) (2 * (n - 1 - x)) 2 (rvL_byts hf) (by rw [rvL_length]; omega)
  rw [show 8 * (2 * (n - 1 - x)) = 16 * (n - 1 - x) by omega, show 8 * 2 = 16 from rfl] at h
  rw [h]
  have e : ((rvL f (2 * n)).drop (2 * (n - 1 - x))).take 2 = [f (2 * x + 1), f (2 * x)] := by
    apply List.ext_getElem?
    intro i
    rw [List.getElem?_take]
    by_cases hi : i < 2
    · rw [if_pos hi, List.getElem?_drop]
      unfold rvL
      rw [List.getElem?_map, List.getElem?_range (by omega)]
      rcases (by omega : i = 0 ∨ i = 1) with rfl | rfl
      · show some (f _) = some (f _)
        congr 2; omega
      · show some (f _) = some (f _)
        congr 2; omega
    · rw [if_neg hi, List.getElem?_eq_none (by simp; omega)]
  rw [e]
  simp [Bt.num]
  omega
end Go.Proofs.YtodlkpcbkilglaaDoor
