import Derived.Test.YthhegomjipbdbaaGreatDoorwA
import Derived.Test.YthhegomjipbdbaaGreatDoorpHZ
import Derived.Deep.RegionHeldLaw
import Derived.Laws.OwnMore
namespace Go.Proofs.YthhegomjipbdbaaGreatDoor.Pc
open Go.RowKit

theorem Tryz.infoLn : (Tryz.prog.info? 3).map (fun i => (i.zero, i.size, i.bytes)) = some (some (.int .i64 0), 1, 8) := by kernel_rfl
theorem make_lens (n : Nat) (w : World) (hn : n ≤ 1000000) : ∃ w', Sem.run Tryz.prog (Instr.makeSlice 78 (.int .i64 (n : Int)) (.int .i64 (n : Int))) w = .ok (.slice (some ⟨w.heap.size, 0, none⟩) n n) w' ∧ (∃ cs : Array Value, cs.size = n ∧ w'.heap[w.heap.size]? = some (.cells cs 3 (0, 0))) ∧ Kept [] w w' := by
  obtain ⟨j0, gi, gz0, gz1, gz2⟩ := info_parts Tryz.infoLn
  obtain ⟨w', hrun, r1, r2⟩ := run_make_full (P := Tryz.prog) w 0 78 3 j0 (.int .i64 0) 1 Tryz.underlying78 gi gz0 gz1 .i64 .i64 n (by rw [gz2]; omega) (by unfold maxLen; omega) (by omega)
  rcases r1.2 with ⟨h, _⟩ | ⟨g, cap, cur, h1, h2, h3, h4, h5, h6, h7⟩
  · cases h
  · cases h1
    exact ⟨w', hrun, ⟨cur, by rw [h6, Nat.mul_one], h3⟩, (Kept.of_grown r2).mono (by simp)⟩

set_option maxHeartbeats 8000000 in
set_option maxRecDepth 1000000 in
/-- The payloads' lengths, by a table. -/
theorem plens_any (g off cap m N : Nat) (l : List Nat) (w : World) (hr : Reads w (some ⟨g, off, none⟩) l) (hb : Byts l) (hm : l.length = m) (hc : m ≤ cap) (hcap : cap ≤ 9223372036854775807) (hN : 8 * N ≤ m) (hN2 : N ≤ 100000) :
    Calls Tryz.prog 29 #[.slice (some ⟨g, off, none⟩) m cap, .int .i64 (N : Int)] w fun e w' => ∃ G, e = .returned (.slice (some ⟨G, 0, none⟩) N N) ∧ w.heap.size ≤ G ∧ In w' G N (fun k => nb l (8 * k) 4) ∧ (∃ cs : Array Value, cs.size = N ∧ w'.heap[G]? = some (.cells cs 3 (0, 0))) ∧ Kept [] w w' := by
  obtain ⟨w1, m1, ⟨cs, hcs, b1⟩, k1⟩ := make_lens N w (by omega)
  obtain ⟨G, eG⟩ : ∃ G, w.heap.size = G := ⟨_, rfl⟩
  rw [eG] at m1 b1
  have HR := Hid.mk hr
  have HBY := Hid.mk hb
  have HC := Hid.mk (And.intro hm (And.intro hc (And.intro hcap (And.intro hN hN2))))
  have HG : Hid (w.heap.size ≤ G) := Hid.mk (Nat.le_of_eq eG)
  have HB := Hid.mk (show ∃ cs : Array Value, cs.size = N ∧ w1.heap[G]? = some (.cells cs 3 (0, 0)) from ⟨cs, hcs, b1⟩)
  have K1 := Hid.mk k1
  clear hr hb hm hc hcap hN hN2 k1 b1 hcs eG
  go_enter Tryz.func29, Tryz.ntmps29
  go_wp2
  clear m1
  go_loopw [11, 6] (fun i u wr => ∃ k : Nat, k ≤ N ∧ i = .int .i64 (k : Int) ∧ Hid ((∃ cs : Array Value, cs.size = N ∧ wr.heap[G]? = some (.cells cs 3 (0, 0))) ∧ Kept [] w wr ∧ ∀ j, j < k → wr.cell? ⟨G, j, none⟩ = some (.int .i64 (nb l (8 * j) 4 : Int)))) (fun i _ _ => N - (intOf i).toNat)
  case atStart => exact ⟨0, Nat.zero_le _, rfl, Hid.mk ⟨HB.out, K1.out, fun j hj => by omega⟩⟩
  case round =>
    obtain ⟨k, hk, rfl, HI⟩ := hrel
    have hNN : N ≤ 100000 := HC.out.2.2.2.2
    by_cases hlt : k < N
    · have ik : (k : Int) < (N : Int) := by omega
      obtain ⟨P8, e8⟩ : ∃ x, 8 * k = x := ⟨_, rfl⟩
      have q1 : 8 * (k : Int) = (P8 : Int) := by omega
      have bq : P8 ≤ 9000000000000000000 := by have := HC.out; omega
      have CN : Hid (Calls Tryz.prog 28 #[.slice (some ⟨g, off, none⟩) m cap, .int .i64 (P8 : Int), .int .i64 4] wr fun e w' => e = .returned (.int .i64 (nb l P8 4 : Int)) ∧ w' = wr) := Hid.mk (pnum_any g off cap m P8 4 l wr (HR.out.keep HI.out.2.1) HBY.out HC.out.1 HC.out.2.1 HC.out.2.2.1 (by decide) (by decide) (by have := HC.out; omega))
      obtain ⟨x, ex⟩ : ∃ x, nb l P8 4 = x := ⟨_, rfl⟩
      rw [ex] at CN
      obtain ⟨cs, hcs, hb⟩ := HI.out.1
      obtain ⟨y, hy⟩ : ∃ y, cs[k]? = some y := ⟨_, Array.getElem?_eq_getElem (by omega)⟩
      have y0 : wr.cell? ⟨G, k, none⟩ = some y := cellAt hb hy
      have zz := row_fz hb k
      have SB := Hid.mk (heap_setCell_at (i := k) (u := .int .i64 (x : Int)) hb)
      have HS : Hid ((cs.setIfInBounds k (.int .i64 (x : Int))).size = N) := Hid.mk (by simp [hcs])
      have KS : Hid (Kept [] w (wr.setCell ⟨G, k, none⟩ (.int .i64 (x : Int)))) := Hid.mk (HI.out.2.1.setCell (p := ⟨G, k, none⟩) (.inr HG.out) _)
      have HJ : Hid (∀ j, j < k + 1 → (wr.setCell ⟨G, k, none⟩ (.int .i64 (x : Int))).cell? ⟨G, j, none⟩ = some (.int .i64 (nb l (8 * j) 4 : Int))) := Hid.mk (fun j hj => by
        refine cellAt SB.out ?_
        by_cases e : j = k
        · subst e
          rw [Array.getElem?_setIfInBounds_self, if_pos (by omega), e8, ex]
        · rw [Array.getElem?_setIfInBounds_ne (by omega)]
          have h9 := HI.out.2.2 j (by omega)
          simp only [World.cell?, hb] at h9
          exact h9)
      have v1 : wrap64 (8 * (k : Int)) = (P8 : Int) := w64n q1 bq
      have v2 : IntKind.i64.wrap (8 * (k : Int)) = (P8 : Int) := win q1 bq
      clear e8 q1 bq ex hcs hb HI hy
      go_wp2_with (fail)
      refine CN.out.mono ?_
      rintro e w3 ⟨rfl, hw⟩
      obtain rfl := hw.symm
      clear hw
      go_wp2
      go_roundw
      case rel => exact ⟨k + 1, by omega, by go_num, Hid.mk ⟨⟨_, HS.out, SB.out⟩, KS.out, HJ.out⟩⟩
      case measure => simp [intOf]; omega
    · obtain rfl : N = k := by omega
      clear hlt hk hNN
      go_wp2
      go_ret
      exact ⟨G, rfl, HG.out, HI.out.2.2, HI.out.1, HI.out.2.1⟩
end Go.Proofs.YthhegomjipbdbaaGreatDoor.Pc

namespace Go.Proofs.YthhegomjipbdbaaGreatDoor.Pc
open Go.RowKit

theorem Tryz.infoEn : (Tryz.prog.info? 87).map (fun i => (i.zero, i.size, i.bytes)) = some (some (.agg #[.int .i64 0, .int .i64 0, .int .u32 0]), 3, 24) := by kernel_rfl
theorem own_some3 {w : World} {base e n : Nat} {v : Value} {xs : List Value} (h : w.ownsRow base e 3 v n xs) (hn : 0 < n) : ∃ g cap, v = .slice (some ⟨g, 0, none⟩) n cap ∧ base ≤ g ∧ ∀ i x, xs[i]? = some x → w.cell? ⟨g, i, none⟩ = some x := by
  rcases h.2 with ⟨_, h0⟩ | ⟨g, cap, cur, h1, h2, h3, h4, h5, h6, h7⟩
  · omega
  · refine ⟨g, cap, h1, h2, fun i x hx => cellAt h3 ?_⟩
    have hi : i < n * 3 := by rw [← h.1]; exact (List.getElem?_eq_some_iff.1 hx).1
    rw [← h7, List.getElem?_take_of_lt hi] at hx
    rw [← Array.getElem?_toList]
    exact hx
/-- One more entry. -/
theorem app_en (u : World) (B n : Nat) (V : Value) (xs : List Value) (ho : u.ownsRow B 87 3 V n xs) (hB : B ≤ u.heap.size) (T : Nat) (v0 v1 v2 : Value) (hT : u.heap[T]? = some (.cells #[v0, v1, v2] 87 (0, 0))) (h1 : ∀ v ∈ [v0, v1, v2], v.oneCell' = true) (hn : n ≤ 100000) :
    ∃ g c u', Sem.run Tryz.prog (Builtin.append_ #[31, 31] 31 #[V, .slice (some ⟨T, 0, none⟩) 1 1]) u = .ok (.slice (some ⟨g, 0, none⟩) (n + 1) c) u' ∧ u'.ownsRow B 87 3 (.slice (some ⟨g, 0, none⟩) (n + 1) c) (n + 1) (xs ++ [v0, v1, v2]) ∧ Kept V.ownBlock.toList u u' := by
  obtain ⟨j0, gi, gz0, gz1, gz2⟩ := info_parts Tryz.infoEn
  obtain ⟨v', u', r1, r2, r3, _, r5⟩ := run_append_own_at (P := Tryz.prog) u B 31 31 87 j0 (.agg #[.int .i64 0, .int .i64 0, .int .u32 0]) 3 24 Tryz.underlying31 gi gz0 gz1 gz2 rfl (by decide) V n xs ho ⟨T, 0, none⟩ 1 1 [v0, v1, v2] rfl (fun j v hj => by
    have hadd : (⟨T, 0, none⟩ : Addr).add j = ⟨T, j, none⟩ := by unfold Addr.add; split <;> simp_all
    rw [hadd]
    exact cellAt hT (by rw [← Array.getElem?_toList]; exact hj)) h1 (by unfold maxLen; omega) (by omega) hB
  obtain ⟨g', c', rfl, _⟩ := own_some3 r2 (by omega)
  exact ⟨g', c', u', r1, r2, Kept.of_grown r3⟩

theorem step_app {ops : Array Oper} {o : Oper} {a : Act} {w : World} {K : Act → World → Prop} {Q : Exit → Act → World → Prop} {E : Prop} (hg : o.guard = none) (s x : Operand) (t : Nat)
    (hop : o.op = Op.call { callee := Callee.builtin Builtin.append, args := #[s, x], argTypes := #[t, t] }) (v1 v2 v' : Value) (w' : World) (hs : a.eval s = v1) (hx : a.eval x = v2)
    (hr : Sem.run Tryz.prog (Builtin.append_ #[t, t] o.type #[v1, v2]) w = .ok v' w') (hK : K (a.put o.dst v') w') :
    if Region.wanted o (yielded ops a.tmps) = true then Oper.wp Tryz.prog o a w K Q else E := by
  have hw : Region.wanted o (yielded ops a.tmps) = true := by simp [Region.wanted, hg]
  rw [if_pos hw]
  unfold Oper.wp
  simp [execOp, hop, resolve, invoke, builtin, hs, hx, hr, Result.andThen]
  exact hK

set_option maxHeartbeats 16000000 in
set_option maxRecDepth 1000000 in
/-- An entry is told. -/
theorem eadd_any (PL PA PB B g off m cap n at_ ln pl : Nat) (l : List Nat) (V : Value) (xs : List Value) (w : World) (hL : w.heap[PL]? = some (.cells #[V] 31 (0, 0))) (hA : w.heap[PA]? = some (.cells #[.int .i64 (at_ : Int)] 3 (0, 0))) (hB : w.heap[PB]? = some (.cells #[.slice (some ⟨g, off, none⟩) m cap] 28 (0, 0))) (hO : w.ownsRow B 87 3 V n xs) (hBB : B ≤ w.heap.size)
    (hr : Reads w (some ⟨g, off, none⟩) l) (hb : Byts l) (hm : l.length = m) (hc : m ≤ cap) (hcap : cap ≤ 9223372036854775807) (hp : pl + 4 ≤ m) (hn : n ≤ 100000) (hat : at_ + ln ≤ 9000000000000000000) :
    Calls Tryz.prog 59 #[.int .i64 (ln : Int), .int .i64 (pl : Int), .pointer (some ⟨PL, 0, none⟩), .pointer (some ⟨PA, 0, none⟩), .pointer (some ⟨PB, 0, none⟩)] w fun e w' => e = .returned (.tuple #[]) ∧ ∃ V', w'.heap[PL]? = some (.cells #[V'] 31 (0, 0)) ∧ w'.heap[PA]? = some (.cells #[.int .i64 ((at_ + ln : Nat) : Int)] 3 (0, 0)) ∧ w'.ownsRow B 87 3 V' (n + 1) (xs ++ [.int .i64 (at_ : Int), .int .i64 (ln : Int), .int .u32 (nb l pl 4 : Int)]) ∧ Kept (V.ownBlock.toList ++ [PL, PA]) w w' := by
  have hx4 := nb_lt hb (a := pl) (k := 4) (by omega)
  obtain ⟨x, ex⟩ : ∃ x, nb l pl 4 = x := ⟨_, rfl⟩
  have CN : Hid (∀ u, Kept [] w u → Calls Tryz.prog 28 #[.slice (some ⟨g, off, none⟩) m cap, .int .i64 (pl : Int), .int .i64 4] u fun e w' => e = .returned (.int .i64 (x : Int)) ∧ w' = u) := Hid.mk (fun u hu => by rw [← ex]; exact pnum_any g off cap m pl 4 l u (hr.keep hu) hb hm hc hcap (by decide) (by decide) (by omega))
  rw [ex] at hx4 ⊢
  have hne : PL ≠ PA := fun h => by subst h; rw [hL] at hA; simp at hA
  have hVL : ∀ y, V.ownBlock = some y → y ≠ PL ∧ y ≠ PA ∧ y ≠ PB := fun y hy => by
    rcases hO.2 with ⟨h1, _⟩ | ⟨g', cp, cur, h1, _, h3, _⟩
    · rw [h1] at hy; cases hy
    · rw [h1] at hy; cases hy
      exact ⟨(fun h => by subst h; rw [hL] at h3; simp at h3), (fun h => by subst h; rw [hA] at h3; simp at h3), (fun h => by subst h; rw [hB] at h3; simp at h3)⟩
  obtain ⟨S, eS⟩ : ∃ S, at_ + ln = S := ⟨_, rfl⟩
  have qS : (at_ : Int) + (ln : Int) = (S : Int) := by omega
  have bS : S ≤ 9000000000000000000 := by omega
  have p4 : (256 : Nat) ^ 4 = 4294967296 := by decide
  have bx : (x : Int) < 4294967296 := by omega
  clear p4
  rw [eS]
  have u32 : IntKind.u32.wrap (x : Int) = (x : Int) := by unfold IntKind.wrap; simp [IntKind.bits, IntKind.signed]; omega
  obtain ⟨V0, eV0⟩ : ∃ y, y = V := ⟨_, rfl⟩
  have CL : Hid (∀ u, Kept [] w u → u.cell? ⟨PL, 0, none⟩ = some V) := Hid.mk (fun u hu => cellAt (hu.heap hL (by simp)) rfl)
  have SA : Hid (∀ u, Kept [] w u → u.cell? ⟨PA, 0, none⟩ = some (.int .i64 (at_ : Int)) ∧ u.cell? ⟨PB, 0, none⟩ = some (.slice (some ⟨g, off, none⟩) m cap)) := Hid.mk (fun u hu => ⟨cellAt (hu.heap hA (by simp)) rfl, cellAt (hu.heap hB (by simp)) rfl⟩)
  have AP : Hid (∀ u, Kept [] w u → ∃ g' c u', Sem.run Tryz.prog (Builtin.append_ #[31, 31] 31 #[V, .slice (some ⟨u.heap.size, 0, none⟩) 1 1]) (u.alloc (.cells #[.int .i64 (at_ : Int), .int .i64 (ln : Int), .int .u32 (x : Int)] 87 (0, 0))) = .ok (.slice (some ⟨g', 0, none⟩) (n + 1) c) u' ∧ u'.ownsRow B 87 3 (.slice (some ⟨g', 0, none⟩) (n + 1) c) (n + 1) (xs ++ [.int .i64 (at_ : Int), .int .i64 (ln : Int), .int .u32 (x : Int)]) ∧ Kept V.ownBlock.toList w u' ∧ g' ≠ PL ∧ g' ≠ PA) := Hid.mk (fun u hu => by
    have k1 : Kept [] w (u.alloc (.cells #[.int .i64 (at_ : Int), .int .i64 (ln : Int), .int .u32 (x : Int)] 87 (0, 0))) := hu.alloc _
    obtain ⟨g', c, u', h1, h2, h3⟩ := app_en _ B n V xs (k1.row hO (by simp)) (Nat.le_trans hBB k1.size) u.heap.size (.int .i64 (at_ : Int)) (.int .i64 (ln : Int)) (.int .u32 (x : Int)) (heap_alloc_new _ _) (by simp [Value.oneCell']) hn
    have k2 : Kept V.ownBlock.toList w u' := (k1.mono (by simp)).trans h3
    have hty : ∀ Q, (∃ (t : Nat) (cs : Array Value), t ≠ 87 ∧ w.heap[Q]? = some (.cells cs t (0, 0))) → (∀ y, V.ownBlock = some y → y ≠ Q) → g' ≠ Q := fun Q ⟨ty, cs, ht, hq⟩ hv h => by
      subst h
      have h9 := k2.heap hq (fun hm => hv _ (by simpa using hm) rfl)
      rcases h2.2 with ⟨h, _⟩ | ⟨g2, cp, cur, h, _, h3, _⟩
      · cases h
      · cases h; rw [h9] at h3; simp at h3; exact ht h3.2
    exact ⟨g', c, u', h1, h2, k2, hty PL ⟨_, _, by decide, hL⟩ (fun y hy => (hVL y hy).1), hty PA ⟨_, _, by decide, hA⟩ (fun y hy => (hVL y hy).2.1)⟩)
  have HH := Hid.mk (And.intro hL (And.intro hA (And.intro hne (And.intro hVL hB))))
  have v1 : wrap64 ((at_ : Int) + (ln : Int)) = (S : Int) := w64n qS bS
  have v2 : IntKind.i64.wrap ((at_ : Int) + (ln : Int)) = (S : Int) := win qS bS
  clear hL hA hB hO hBB hr hb hm hc hcap hp hn hat ex hx4 hne hVL eS qS bS bx eV0 V0
  go_enter Tryz.func59, Tryz.ntmps59
  go_wp2_with (fail)
  refine wp_region_held_drew (S := fun u => u.cell? ⟨PA, 0, none⟩ = some (.int .i64 (at_ : Int)) ∧ u.cell? ⟨PB, 0, none⟩ = some (.slice (some ⟨g, off, none⟩) m cap)) (by kernel_rfl) (SA.out _ (Kept.refl [] w).drew) (fun hH0 => ?_)
  have KD := Hid.mk ((Kept.refl [] w).drew)
  generalize w.drew = wd at *
  refine wpAnyH_take (i := 1) (oi := _) (v := ?_) rfl (by kernel_rfl) (by kernel_rfl) (by kernel_rfl) (fun _ _ _ h => h) (Or.inl ⟨by rfl, ?y1⟩) (by assumption) ?r1
  case y1 => (intro u hSw; (try dsimp only at hSw); go_simp; try with_reducible rfl)
  refine wpAnyH_take (i := 2) (oi := _) (v := ?_) rfl (by kernel_rfl) (by kernel_rfl) (by kernel_rfl) (fun _ _ _ h => h) (Or.inl ⟨by rfl, ?y2⟩) (by assumption) ?r2
  case y2 => (intro u hSw; (try dsimp only at hSw); go_simp; try with_reducible rfl)
  refine wpAnyH_take (i := 3) (oi := _) (v := ?_) rfl (by kernel_rfl) (by kernel_rfl) (by kernel_rfl) (fun _ _ _ h => h) (Or.inl ⟨by rfl, ?y3⟩) (by assumption) ?r3
  case y3 => (intro u hSw; (try dsimp only at hSw); go_simp; try with_reducible rfl)
  refine wpAnyH_take (i := 4) (oi := _) (v := ?_) rfl (by kernel_rfl) (by kernel_rfl) (by kernel_rfl) (fun _ _ _ h => h) (Or.inl ⟨by rfl, ?y4⟩) (by assumption) ?r4
  case y4 => (intro u hSw; (try dsimp only at hSw); go_simp; try with_reducible rfl)
  refine wpAnyH_ready (rs := [0, 5]) (by kernel_rfl) (by simp) ?_
  refine AllReadyH.cons rfl (fun K hK => ?_) (AllReadyH.cons rfl (fun K hK => ?_) AllReadyH.nil)
  · have c0 := CL.out wd KD.out
    go_simp
    refine hK.out _ _ (SA.out _ KD.out) (fun hH1 => ?_)
    clear hK K c0
    refine wpAnyH_ready (rs := [5]) (by kernel_rfl) (by simp) ?_
    refine AllReadyH.cons rfl (fun K hK => ?_) AllReadyH.nil
    go_simp
    go_at_call 28
    refine (CN.out _ KD.out).mono ?_
    rintro e w3 ⟨rfl, hw⟩
    obtain rfl := hw.symm
    refine hK.out _ _ (SA.out _ KD.out) (fun hH2 => ?_)
    clear hK K hw
    refine wpAnyH_take (i := 6) (oi := _) (v := ?_) rfl (by kernel_rfl) (by kernel_rfl) (by kernel_rfl) (fun _ _ _ h => h) (Or.inl ⟨by rfl, ?y6a⟩) (by assumption) ?r6a
    case y6a => (intro u hSw; (try dsimp only at hSw); go_simp; try with_reducible rfl)
    refine wpAnyH_take (i := 7) (oi := _) (v := ?_) rfl (by kernel_rfl) (by kernel_rfl) (by kernel_rfl) (fun _ _ _ h => h) (Or.inl ⟨by rfl, ?y7a⟩) (by assumption) ?r7a
    case y7a => (intro u hSw; (try dsimp only at hSw); go_simp; try with_reducible rfl)
    refine wpAnyH_ready (rs := [8]) (by kernel_rfl) (by simp) ?_
    refine AllReadyH.cons rfl (fun K hK => ?_) AllReadyH.nil
    go_simp
    refine hK.out _ _ (SA.out _ (KD.out.alloc _)) (fun hH3 => ?_)
    clear hK K
    refine wpAnyH_ready (rs := [9]) (by kernel_rfl) (by simp) ?_
    refine AllReadyH.cons rfl (fun K hK => ?_) AllReadyH.nil
    obtain ⟨g', c', u', hrun, ho, hk, hgl, hga⟩ := AP.out wd KD.out
    have UL : Hid (u'.heap[PL]? = some (.cells #[V] 31 (0, 0)) ∧ u'.heap[PA]? = some (.cells #[.int .i64 (at_ : Int)] 3 (0, 0)) ∧ u'.heap[PB]? = some (.cells #[.slice (some ⟨g, off, none⟩) m cap] 28 (0, 0))) := Hid.mk ⟨hk.heap HH.out.1 (fun h => (HH.out.2.2.2.1 _ (by simpa using h)).1 rfl), hk.heap HH.out.2.1 (fun h => (HH.out.2.2.2.1 _ (by simpa using h)).2.1 rfl), hk.heap HH.out.2.2.2.2 (fun h => (HH.out.2.2.2.1 _ (by simpa using h)).2.2 rfl)⟩
    have UO := Hid.mk (And.intro ho (And.intro hk (And.intro hgl hga)))
    clear ho hk hgl hga
    refine step_app rfl _ _ 31 rfl _ _ _ _ rfl rfl hrun ?_
    refine hK.out _ _ ⟨cellAt UL.out.2.1 rfl, cellAt UL.out.2.2 rfl⟩ (fun hH4 => ?_)
    clear hK K hrun
    have cl : u'.cell? ⟨PL, 0, none⟩ = some V := cellAt UL.out.1 rfl
    have zz := row_fz UL.out.1 0
    have S8 := Hid.mk (heap_setCell_at (i := 0) (u := .slice (some ⟨g', 0, none⟩) (n + 1) c') UL.out.1)
    have KS := (Kept.refl [PL] u').setCell (p := ⟨PL, 0, none⟩) (.inl (by simp)) (.slice (some ⟨g', 0, none⟩) (n + 1) c')
    have A8 := Hid.mk (KS.heap UL.out.2.1 (by have := HH.out.2.2.1; simp; exact fun h => this h.symm))
    have PB8 : (u'.setCell ⟨PL, 0, none⟩ (.slice (some ⟨g', 0, none⟩) (n + 1) c')).cell? ⟨PB, 0, none⟩ = some (.slice (some ⟨g, off, none⟩) m cap) := cellAt (KS.heap UL.out.2.2 (by
      intro h
      have e : PB = PL := by simpa using h
      have h1 := UL.out.1
      have h2 := UL.out.2.2
      rw [e, h1] at h2
      simp at h2)) rfl
    have R8 := Hid.mk (KS.row UO.out.1 (fun y hy hm => by
      have hy' : some g' = some y := hy
      cases hy'
      simp at hm
      exact UO.out.2.2.1 hm))
    have K8 : Hid (Kept (V.ownBlock.toList ++ [PL, PA]) w (u'.setCell ⟨PL, 0, none⟩ (.slice (some ⟨g', 0, none⟩) (n + 1) c'))) := Hid.mk ((UO.out.2.1.mono (fun y hy => .inl (by simp at hy; simp [hy]))).setCell (p := ⟨PL, 0, none⟩) (.inl (by simp)) _)
    refine wpAnyH_ready (rs := [10]) (by kernel_rfl) (by simp) ?_
    refine AllReadyH.cons rfl (fun K hK => ?_) AllReadyH.nil
    go_simp
    refine hK.out _ _ ⟨cellAt A8.out rfl, PB8⟩ (fun hH5 => ?_)
    clear hK K cl zz KS
    refine wpAnyH_done (by kernel_rfl) ?_ _
    clear hH4 hH5
    generalize hu8 : u'.setCell ⟨PL, 0, none⟩ (.slice (some ⟨g', 0, none⟩) (n + 1) c') = u8 at *
    have a8 : u8.cell? ⟨PA, 0, none⟩ = some (.int .i64 (at_ : Int)) := cellAt A8.out rfl
    have z8 := row_fz A8.out 0
    have SA9 := Hid.mk (heap_setCell_at (i := 0) (u := .int .i64 (S : Int)) A8.out)
    have KS9 := (Kept.refl [PA] u8).setCell (p := ⟨PA, 0, none⟩) (.inl (by simp)) (.int .i64 (S : Int))
    have SL9 := Hid.mk (KS9.heap S8.out (by have := HH.out.2.2.1; simpa using this))
    have R9 := Hid.mk (KS9.row R8.out (fun y hy hm => by
      have hy' : some g' = some y := hy
      cases hy'
      simp at hm
      exact UO.out.2.2.2 hm))
    have K9 : Hid (Kept (V.ownBlock.toList ++ [PL, PA]) w (u8.setCell ⟨PA, 0, none⟩ (.int .i64 (S : Int)))) := Hid.mk (K8.out.setCell (p := ⟨PA, 0, none⟩) (.inl (by simp)) _)
    clear PB8 hu8 KS9
    go_wp2
    go_end0
    exact ⟨rfl, _, SL9.out, SA9.out, R9.out, K9.out⟩
  · go_simp
    go_at_call 28
    refine (CN.out _ KD.out).mono ?_
    rintro e w3 ⟨rfl, hw⟩
    obtain rfl := hw.symm
    refine hK.out _ _ (SA.out _ KD.out) (fun hH2 => ?_)
    clear hK K hw
    refine wpAnyH_take (i := 6) (oi := _) (v := ?_) rfl (by kernel_rfl) (by kernel_rfl) (by kernel_rfl) (fun _ _ _ h => h) (Or.inl ⟨by rfl, ?y6b⟩) (by assumption) ?r6b
    case y6b => (intro u hSw; (try dsimp only at hSw); go_simp; try with_reducible rfl)
    refine wpAnyH_take (i := 7) (oi := _) (v := ?_) rfl (by kernel_rfl) (by kernel_rfl) (by kernel_rfl) (fun _ _ _ h => h) (Or.inl ⟨by rfl, ?y7b⟩) (by assumption) ?r7b
    case y7b => (intro u hSw; (try dsimp only at hSw); go_simp; try with_reducible rfl)
    refine wpAnyH_ready (rs := [0, 8]) (by kernel_rfl) (by simp) ?_
    refine AllReadyH.cons rfl (fun K hK => ?_) (AllReadyH.cons rfl (fun K hK => ?_) AllReadyH.nil)
    · have c0 := CL.out wd KD.out
      go_simp
      refine hK.out _ _ (SA.out _ KD.out) (fun hH1 => ?_)
      clear hK K c0
      refine wpAnyH_ready (rs := [8]) (by kernel_rfl) (by simp) ?_
      refine AllReadyH.cons rfl (fun K hK => ?_) AllReadyH.nil
      go_simp
      refine hK.out _ _ (SA.out _ (KD.out.alloc _)) (fun hH3 => ?_)
      clear hK K
      refine wpAnyH_ready (rs := [9]) (by kernel_rfl) (by simp) ?_
      refine AllReadyH.cons rfl (fun K hK => ?_) AllReadyH.nil
      obtain ⟨g', c', u', hrun, ho, hk, hgl, hga⟩ := AP.out wd KD.out
      have UL : Hid (u'.heap[PL]? = some (.cells #[V] 31 (0, 0)) ∧ u'.heap[PA]? = some (.cells #[.int .i64 (at_ : Int)] 3 (0, 0)) ∧ u'.heap[PB]? = some (.cells #[.slice (some ⟨g, off, none⟩) m cap] 28 (0, 0))) := Hid.mk ⟨hk.heap HH.out.1 (fun h => (HH.out.2.2.2.1 _ (by simpa using h)).1 rfl), hk.heap HH.out.2.1 (fun h => (HH.out.2.2.2.1 _ (by simpa using h)).2.1 rfl), hk.heap HH.out.2.2.2.2 (fun h => (HH.out.2.2.2.1 _ (by simpa using h)).2.2 rfl)⟩
      have UO := Hid.mk (And.intro ho (And.intro hk (And.intro hgl hga)))
      clear ho hk hgl hga
      refine step_app rfl _ _ 31 rfl _ _ _ _ rfl rfl hrun ?_
      refine hK.out _ _ ⟨cellAt UL.out.2.1 rfl, cellAt UL.out.2.2 rfl⟩ (fun hH4 => ?_)
      clear hK K hrun
      have cl : u'.cell? ⟨PL, 0, none⟩ = some V := cellAt UL.out.1 rfl
      have zz := row_fz UL.out.1 0
      have S8 := Hid.mk (heap_setCell_at (i := 0) (u := .slice (some ⟨g', 0, none⟩) (n + 1) c') UL.out.1)
      have KS := (Kept.refl [PL] u').setCell (p := ⟨PL, 0, none⟩) (.inl (by simp)) (.slice (some ⟨g', 0, none⟩) (n + 1) c')
      have A8 := Hid.mk (KS.heap UL.out.2.1 (by have := HH.out.2.2.1; simp; exact fun h => this h.symm))
      have PB8 : (u'.setCell ⟨PL, 0, none⟩ (.slice (some ⟨g', 0, none⟩) (n + 1) c')).cell? ⟨PB, 0, none⟩ = some (.slice (some ⟨g, off, none⟩) m cap) := cellAt (KS.heap UL.out.2.2 (by
        intro h
        have e : PB = PL := by simpa using h
        have h1 := UL.out.1
        have h2 := UL.out.2.2
        rw [e, h1] at h2
        simp at h2)) rfl
      have R8 := Hid.mk (KS.row UO.out.1 (fun y hy hm => by
        have hy' : some g' = some y := hy
        cases hy'
        simp at hm
        exact UO.out.2.2.1 hm))
      have K8 : Hid (Kept (V.ownBlock.toList ++ [PL, PA]) w (u'.setCell ⟨PL, 0, none⟩ (.slice (some ⟨g', 0, none⟩) (n + 1) c'))) := Hid.mk ((UO.out.2.1.mono (fun y hy => .inl (by simp at hy; simp [hy]))).setCell (p := ⟨PL, 0, none⟩) (.inl (by simp)) _)
      refine wpAnyH_ready (rs := [10]) (by kernel_rfl) (by simp) ?_
      refine AllReadyH.cons rfl (fun K hK => ?_) AllReadyH.nil
      go_simp
      refine hK.out _ _ ⟨cellAt A8.out rfl, PB8⟩ (fun hH5 => ?_)
      clear hK K cl zz KS
      refine wpAnyH_done (by kernel_rfl) ?_ _
      clear hH4 hH5
      generalize hu8 : u'.setCell ⟨PL, 0, none⟩ (.slice (some ⟨g', 0, none⟩) (n + 1) c') = u8 at *
      have a8 : u8.cell? ⟨PA, 0, none⟩ = some (.int .i64 (at_ : Int)) := cellAt A8.out rfl
      have z8 := row_fz A8.out 0
      have SA9 := Hid.mk (heap_setCell_at (i := 0) (u := .int .i64 (S : Int)) A8.out)
      have KS9 := (Kept.refl [PA] u8).setCell (p := ⟨PA, 0, none⟩) (.inl (by simp)) (.int .i64 (S : Int))
      have SL9 := Hid.mk (KS9.heap S8.out (by have := HH.out.2.2.1; simpa using this))
      have R9 := Hid.mk (KS9.row R8.out (fun y hy hm => by
        have hy' : some g' = some y := hy
        cases hy'
        simp at hm
        exact UO.out.2.2.2 hm))
      have K9 : Hid (Kept (V.ownBlock.toList ++ [PL, PA]) w (u8.setCell ⟨PA, 0, none⟩ (.int .i64 (S : Int)))) := Hid.mk (K8.out.setCell (p := ⟨PA, 0, none⟩) (.inl (by simp)) _)
      clear PB8 hu8 KS9
      go_wp2
      go_end0
      exact ⟨rfl, _, SL9.out, SA9.out, R9.out, K9.out⟩
    · go_simp
      refine hK.out _ _ (SA.out _ (KD.out.alloc _)) (fun hH3 => ?_)
      clear hK K
      refine wpAnyH_ready (rs := [0]) (by kernel_rfl) (by simp) ?_
      refine AllReadyH.cons rfl (fun K hK => ?_) AllReadyH.nil
      have c0 := CL.out (wd.alloc (.cells #[.int .i64 (at_ : Int), .int .i64 (ln : Int), .int .u32 (x : Int)] 87 (0, 0))) (KD.out.alloc _)
      go_simp
      refine hK.out _ _ (SA.out _ (KD.out.alloc _)) (fun hH1 => ?_)
      clear hK K c0
      refine wpAnyH_ready (rs := [9]) (by kernel_rfl) (by simp) ?_
      refine AllReadyH.cons rfl (fun K hK => ?_) AllReadyH.nil
      obtain ⟨g', c', u', hrun, ho, hk, hgl, hga⟩ := AP.out wd KD.out
      have UL : Hid (u'.heap[PL]? = some (.cells #[V] 31 (0, 0)) ∧ u'.heap[PA]? = some (.cells #[.int .i64 (at_ : Int)] 3 (0, 0)) ∧ u'.heap[PB]? = some (.cells #[.slice (some ⟨g, off, none⟩) m cap] 28 (0, 0))) := Hid.mk ⟨hk.heap HH.out.1 (fun h => (HH.out.2.2.2.1 _ (by simpa using h)).1 rfl), hk.heap HH.out.2.1 (fun h => (HH.out.2.2.2.1 _ (by simpa using h)).2.1 rfl), hk.heap HH.out.2.2.2.2 (fun h => (HH.out.2.2.2.1 _ (by simpa using h)).2.2 rfl)⟩
      have UO := Hid.mk (And.intro ho (And.intro hk (And.intro hgl hga)))
      clear ho hk hgl hga
      refine step_app rfl _ _ 31 rfl _ _ _ _ rfl rfl hrun ?_
      refine hK.out _ _ ⟨cellAt UL.out.2.1 rfl, cellAt UL.out.2.2 rfl⟩ (fun hH4 => ?_)
      clear hK K hrun
      have cl : u'.cell? ⟨PL, 0, none⟩ = some V := cellAt UL.out.1 rfl
      have zz := row_fz UL.out.1 0
      have S8 := Hid.mk (heap_setCell_at (i := 0) (u := .slice (some ⟨g', 0, none⟩) (n + 1) c') UL.out.1)
      have KS := (Kept.refl [PL] u').setCell (p := ⟨PL, 0, none⟩) (.inl (by simp)) (.slice (some ⟨g', 0, none⟩) (n + 1) c')
      have A8 := Hid.mk (KS.heap UL.out.2.1 (by have := HH.out.2.2.1; simp; exact fun h => this h.symm))
      have PB8 : (u'.setCell ⟨PL, 0, none⟩ (.slice (some ⟨g', 0, none⟩) (n + 1) c')).cell? ⟨PB, 0, none⟩ = some (.slice (some ⟨g, off, none⟩) m cap) := cellAt (KS.heap UL.out.2.2 (by
        intro h
        have e : PB = PL := by simpa using h
        have h1 := UL.out.1
        have h2 := UL.out.2.2
        rw [e, h1] at h2
        simp at h2)) rfl
      have R8 := Hid.mk (KS.row UO.out.1 (fun y hy hm => by
        have hy' : some g' = some y := hy
        cases hy'
        simp at hm
        exact UO.out.2.2.1 hm))
      have K8 : Hid (Kept (V.ownBlock.toList ++ [PL, PA]) w (u'.setCell ⟨PL, 0, none⟩ (.slice (some ⟨g', 0, none⟩) (n + 1) c'))) := Hid.mk ((UO.out.2.1.mono (fun y hy => .inl (by simp at hy; simp [hy]))).setCell (p := ⟨PL, 0, none⟩) (.inl (by simp)) _)
      refine wpAnyH_ready (rs := [10]) (by kernel_rfl) (by simp) ?_
      refine AllReadyH.cons rfl (fun K hK => ?_) AllReadyH.nil
      go_simp
      refine hK.out _ _ ⟨cellAt A8.out rfl, PB8⟩ (fun hH5 => ?_)
      clear hK K cl zz KS
      refine wpAnyH_done (by kernel_rfl) ?_ _
      clear hH4 hH5
      generalize hu8 : u'.setCell ⟨PL, 0, none⟩ (.slice (some ⟨g', 0, none⟩) (n + 1) c') = u8 at *
      have a8 : u8.cell? ⟨PA, 0, none⟩ = some (.int .i64 (at_ : Int)) := cellAt A8.out rfl
      have z8 := row_fz A8.out 0
      have SA9 := Hid.mk (heap_setCell_at (i := 0) (u := .int .i64 (S : Int)) A8.out)
      have KS9 := (Kept.refl [PA] u8).setCell (p := ⟨PA, 0, none⟩) (.inl (by simp)) (.int .i64 (S : Int))
      have SL9 := Hid.mk (KS9.heap S8.out (by have := HH.out.2.2.1; simpa using this))
      have R9 := Hid.mk (KS9.row R8.out (fun y hy hm => by
        have hy' : some g' = some y := hy
        cases hy'
        simp at hm
        exact UO.out.2.2.2 hm))
      have K9 : Hid (Kept (V.ownBlock.toList ++ [PL, PA]) w (u8.setCell ⟨PA, 0, none⟩ (.int .i64 (S : Int)))) := Hid.mk (K8.out.setCell (p := ⟨PA, 0, none⟩) (.inl (by simp)) _)
      clear PB8 hu8 KS9
      go_wp2
      go_end0
      exact ⟨rfl, _, SL9.out, SA9.out, R9.out, K9.out⟩
end Go.Proofs.YthhegomjipbdbaaGreatDoor.Pc

namespace Go.Proofs.YthhegomjipbdbaaGreatDoor.Pc
open Go.RowKit

/-- A list of entries with room, and none in it. -/
theorem make_ents (r : Nat) (w : World) (hr : r ≤ 1000000) : ∃ w', Sem.run Tryz.prog (Instr.makeSlice 31 (.int .i64 0) (.int .i64 (r : Int))) w = .ok (.slice (some ⟨w.heap.size, 0, none⟩) 0 r) w' ∧ w'.ownsRow w.heap.size 87 3 (.slice (some ⟨w.heap.size, 0, none⟩) 0 r) 0 [] ∧ Kept [] w w' := by
  obtain ⟨j0, gi, gz0, gz1, gz2⟩ := info_parts Tryz.infoEn
  obtain ⟨w', hrun, r1, r2⟩ := run_make_own (P := Tryz.prog) w w.heap.size 31 87 j0 (.agg #[.int .i64 0, .int .i64 0, .int .u32 0]) 3 Tryz.underlying31 gi gz0 gz1 .i64 .i64 r (by rw [gz2]; omega) (by unfold maxLen; omega) (Nat.le_refl _)
  exact ⟨w', hrun, r1, (Kept.of_grown r2).mono (by simp)⟩
/-- Lengths and sums that a table tells, parity rows behind payloads. -/
def teln (l : List Nat) (N k : Nat) : Nat := if k < N then nb l (8 * k) 4 else mxl (fun i => nb l (8 * i) 4) N
def tesu (l : List Nat) (N k : Nat) : Nat := if k < N then nb l (8 * k + 4) 4 else nb l (8 * N + 4 * (k - N)) 4
/-- Entries as cells. -/
def enL (at0 : Nat) (ln su : Nat → Nat) : Nat → List Value
  | 0 => []
  | k + 1 => enL at0 ln su k ++ [.int .i64 ((at0 + sm ln k : Nat) : Int), .int .i64 (ln k : Int), .int .u32 (su k : Int)]
theorem enL_len (at0 : Nat) (ln su : Nat → Nat) (k : Nat) : (enL at0 ln su k).length = k * 3 := by
  induction k with
  | zero => rfl
  | succ k ih => rw [enL, List.length_append, ih]; simp; omega

set_option maxHeartbeats 16000000 in
set_option maxRecDepth 1000000 in
theorem entries_any (W H D : Int) (A : Bool) (sw sh : Int) (r : Nat → Int) (N p : Nat) (ln : Int) (g off cap m G c : Nat) (l : List Nat) (w : World) (hr : Reads w (some ⟨g, off, none⟩) l) (hb : Byts l) (hm : l.length = m) (hc : m ≤ cap) (hcap : cap ≤ 9223372036854775807) (hI : In w G N (fun k => nb l (8 * k) 4)) (h1 : 1 ≤ N) (h2 : N ≤ 70000) (hp : p ≤ 16) (hmm : 8 * N + 4 * p ≤ m) (hle : ∀ k, k < N → nb l (8 * k) 4 ≤ 16777215) :
    Calls Tryz.prog 32 #[hvv W H D A sw sh r (N : Int) (p : Int) ln, .slice (some ⟨g, off, none⟩) m cap, .slice (some ⟨G, 0, none⟩) N c] w fun e w' => ∃ V, e = .returned V ∧ w'.ownsRow w.heap.size 87 3 V (N + p) (enL (36 + 8 * N + 4 * p) (teln l N) (tesu l N) (N + p)) ∧ Kept [] w w' := by
  obtain ⟨r0, er0⟩ : ∃ x, r 0 = x := ⟨_, rfl⟩
  obtain ⟨r1, er1⟩ : ∃ x, r 1 = x := ⟨_, rfl⟩
  obtain ⟨r2, er2⟩ : ∃ x, r 2 = x := ⟨_, rfl⟩
  obtain ⟨r3, er3⟩ : ∃ x, r 3 = x := ⟨_, rfl⟩
  have e9 : hvv W H D A sw sh r (N : Int) (p : Int) ln = .agg #[.int .i64 W, .int .i64 H, .int .i64 D, .bool A, .int .i64 sw, .int .i64 sh, .int .i64 r0, .int .i64 r1, .int .i64 r2, .int .i64 r3, .int .i64 (N : Int), .int .i64 (p : Int), .int .i64 ln] := by unfold hvv; rw [er0, er1, er2, er3]
  rw [e9]
  obtain ⟨w1, e1⟩ : ∃ w1, w.alloc (.cells #[.int .i64 W, .int .i64 H, .int .i64 D, .bool A, .int .i64 sw, .int .i64 sh, .int .i64 r0, .int .i64 r1, .int .i64 r2, .int .i64 r3, .int .i64 (N : Int), .int .i64 (p : Int), .int .i64 ln] 27 (0, 0)) = w1 := ⟨_, rfl⟩
  obtain ⟨w2, e2⟩ : ∃ w2, w1.alloc (.cells #[.slice (some ⟨g, off, none⟩) m cap] 28 (0, 0)) = w2 := ⟨_, rfl⟩
  obtain ⟨B, eB⟩ : ∃ B, w.heap.size = B := ⟨_, rfl⟩
  have z1 : w1.heap.size = B + 1 := by rw [← e1, ← eB]; exact Array.size_push _
  have k1 : Kept [] w w1 := by rw [← e1]; exact (Kept.refl [] w).alloc _
  have k2 : Kept [] w1 w2 := by rw [← e2]; exact (Kept.refl [] w1).alloc _
  have HB2 := Hid.mk (k2.heap (show w1.heap[B]? = some (.cells #[.int .i64 W, .int .i64 H, .int .i64 D, .bool A, .int .i64 sw, .int .i64 sh, .int .i64 r0, .int .i64 r1, .int .i64 r2, .int .i64 r3, .int .i64 (N : Int), .int .i64 (p : Int), .int .i64 ln] 27 (0, 0)) by rw [← e1, ← eB]; exact heap_alloc_new _ _) (by simp))
  have HP2 := Hid.mk (show w2.heap[B + 1]? = some (.cells #[.slice (some ⟨g, off, none⟩) m cap] 28 (0, 0)) by rw [← e2, ← z1]; exact heap_alloc_new _ _)
  have K2 := Hid.mk (k1.trans k2)
  obtain ⟨R, eR⟩ : ∃ R, N + p = R := ⟨_, rfl⟩
  have q1 : (N : Int) + (p : Int) = (R : Int) := by omega
  have bR : R ≤ 9000000000000000000 := by omega
  obtain ⟨w3, m3, o3, k3⟩ := make_ents R w2 (by omega)
  obtain ⟨S2, eS2⟩ : ∃ x, w2.heap.size = x := ⟨_, rfl⟩
  rw [eS2] at m3 o3
  obtain ⟨w4, e4⟩ : ∃ x, w3.alloc (.cells #[.slice (some ⟨S2, 0, none⟩) 0 R] 31 (0, 0)) = x := ⟨_, rfl⟩
  obtain ⟨PL, ePL⟩ : ∃ x, w3.heap.size = x := ⟨_, rfl⟩
  have k4 : Kept [] w3 w4 := by rw [← e4]; exact (Kept.refl [] w3).alloc _
  have HL4 := Hid.mk (show w4.heap[PL]? = some (.cells #[.slice (some ⟨S2, 0, none⟩) 0 R] 31 (0, 0)) by rw [← e4, ← ePL]; exact heap_alloc_new _ _)
  obtain ⟨ts, ets⟩ : ∃ x, 8 * N + 4 * p + 4 = x := ⟨_, rfl⟩
  obtain ⟨a0, ea0⟩ : ∃ x, 32 + ts = x := ⟨_, rfl⟩
  have q2 : (32 : Int) + (ts : Int) = (a0 : Int) := by omega
  have ba0 : a0 ≤ 9000000000000000000 := by omega
  have CT := Hid.mk (fun u => ptz_any N p u (by omega) (by omega))
  rw [ets] at CT
  have EA : Hid (36 + 8 * N + 4 * p = a0) := Hid.mk (by omega)
  rw [EA.out, eR]
  have HBD : Hid (N + p = R ∧ a0 ≤ 1000000) := Hid.mk ⟨eR, by omega⟩
  have K4 := Hid.mk (K2.out.trans (k3.trans k4))
  have J4 := Hid.mk (k3.trans k4)
  have O4 := Hid.mk (k4.row o3 (by simp))
  have HZ : Hid (B + 1 < S2 ∧ S2 < PL ∧ w.heap.size = B) := Hid.mk ⟨by rw [← eS2]; exact lt_of_block HP2.out, by
    rcases o3.2 with ⟨h, _⟩ | ⟨g', cp, cur, h, _, h3, _⟩
    · cases h
    · cases h; rw [← ePL]; exact lt_of_block h3, eB⟩
  have HR := Hid.mk hr
  have HBY := Hid.mk hb
  have HC := Hid.mk (And.intro hm (And.intro hc (And.intro hcap (And.intro hmm (And.intro h1 (And.intro h2 hp))))))
  have HI := Hid.mk hI
  have HLE := Hid.mk hle
  have v1 : wrap64 ((N : Int) + (p : Int)) = (R : Int) := w64n q1 bR
  have v2 : IntKind.i64.wrap ((N : Int) + (p : Int)) = (R : Int) := win q1 bR
  have v3 : wrap64 ((32 : Int) + (ts : Int)) = (a0 : Int) := w64n q2 ba0
  have v4 : IntKind.i64.wrap ((32 : Int) + (ts : Int)) = (a0 : Int) := win q2 ba0
  obtain ⟨b0, b1, b2, b3, b4, b5, b6, b7, b8, b9, b10, b11, b12⟩ := cel13 HB2.out
  obtain ⟨d0, d1, d2, d3, d4, d5, d6, d7, d8, d9, d10, d11, d12⟩ := cel13 (J4.out.heap HB2.out (by simp))
  clear er0 er1 er2 er3 e9 hr hb hm hc hcap hI h1 h2 hp hmm hle k1 k2 k3 k4 o3 q1 q2 bR ba0 eR ets ea0
  go_enter Tryz.func32, Tryz.ntmps32
  go_wp2_with (fail)
  clear e1 e2 eB z1 m3 e4 ePL eS2 b0 b1 b2 b3 b4 b5 b6 b7 b8 b9 b10 b11 b12
  refine (CT.out _).mono ?_
  rintro e w5 ⟨rfl, hw⟩
  obtain rfl := hw.symm
  clear hw CT
  obtain ⟨w6, e6⟩ : ∃ x, w4.alloc (.cells #[.int .i64 (a0 : Int)] 3 (0, 0)) = x := ⟨_, rfl⟩
  obtain ⟨PA, ePA⟩ : ∃ x, w4.heap.size = x := ⟨_, rfl⟩
  have k6 : Kept [] w4 w6 := by rw [← e6]; exact (Kept.refl [] w4).alloc _
  have HZ6 : Hid (PL < PA) := Hid.mk (by rw [← ePA]; exact lt_of_block HL4.out)
  have E6 : Hid (∃ V, w6.heap[PL]? = some (.cells #[V] 31 (0, 0)) ∧ w6.heap[PA]? = some (.cells #[.int .i64 ((a0 + sm (teln l N) (0) : Nat) : Int)] 3 (0, 0)) ∧ w6.ownsRow S2 87 3 V (0) (enL a0 (teln l N) (tesu l N) (0)) ∧ w6.heap[B]? = some (.cells #[.int .i64 W, .int .i64 H, .int .i64 D, .bool A, .int .i64 sw, .int .i64 sh, .int .i64 r0, .int .i64 r1, .int .i64 r2, .int .i64 r3, .int .i64 (N : Int), .int .i64 (p : Int), .int .i64 ln] 27 (0, 0)) ∧ w6.heap[B + 1]? = some (.cells #[.slice (some ⟨g, off, none⟩) m cap] 28 (0, 0)) ∧ Kept [] w w6 ∧ S2 ≤ w6.heap.size) := Hid.mk ⟨_, k6.heap HL4.out (by simp), show w6.heap[PA]? = some (.cells #[.int .i64 (a0 : Int)] 3 (0, 0)) by rw [← e6, ← ePA]; exact heap_alloc_new _ _, k6.row O4.out (by simp), k6.heap (J4.out.heap HB2.out (by simp)) (by simp), k6.heap (J4.out.heap HP2.out (by simp)) (by simp), K4.out.trans k6, Nat.le_trans (Nat.le_of_lt HZ.out.2.1) (Nat.le_of_lt (lt_of_block (k6.heap HL4.out (by simp))))⟩
  have TL : Hid (∀ k, teln l N k ≤ 16777215) := Hid.mk (fun k => by
    unfold teln
    split
    · exact HLE.out k (by assumption)
    · exact mxl_le HLE.out)
  have CALL : Hid (∀ wr k lnv plv, k < R → (∃ V, wr.heap[PL]? = some (.cells #[V] 31 (0, 0)) ∧ wr.heap[PA]? = some (.cells #[.int .i64 ((a0 + sm (teln l N) (k) : Nat) : Int)] 3 (0, 0)) ∧ wr.ownsRow S2 87 3 V (k) (enL a0 (teln l N) (tesu l N) (k)) ∧ wr.heap[B]? = some (.cells #[.int .i64 W, .int .i64 H, .int .i64 D, .bool A, .int .i64 sw, .int .i64 sh, .int .i64 r0, .int .i64 r1, .int .i64 r2, .int .i64 r3, .int .i64 (N : Int), .int .i64 (p : Int), .int .i64 ln] 27 (0, 0)) ∧ wr.heap[B + 1]? = some (.cells #[.slice (some ⟨g, off, none⟩) m cap] 28 (0, 0)) ∧ Kept [] w wr ∧ S2 ≤ wr.heap.size) → lnv = teln l N k → nb l plv 4 = tesu l N k → plv + 4 ≤ m → Calls Tryz.prog 59 #[.int .i64 (lnv : Int), .int .i64 (plv : Int), .pointer (some ⟨PL, 0, none⟩), .pointer (some ⟨PA, 0, none⟩), .pointer (some ⟨B + 1, 0, none⟩)] wr fun e w' => e = .returned (.tuple #[]) ∧ (∃ V, w'.heap[PL]? = some (.cells #[V] 31 (0, 0)) ∧ w'.heap[PA]? = some (.cells #[.int .i64 ((a0 + sm (teln l N) (k + 1) : Nat) : Int)] 3 (0, 0)) ∧ w'.ownsRow S2 87 3 V (k + 1) (enL a0 (teln l N) (tesu l N) (k + 1)) ∧ w'.heap[B]? = some (.cells #[.int .i64 W, .int .i64 H, .int .i64 D, .bool A, .int .i64 sw, .int .i64 sh, .int .i64 r0, .int .i64 r1, .int .i64 r2, .int .i64 r3, .int .i64 (N : Int), .int .i64 (p : Int), .int .i64 ln] 27 (0, 0)) ∧ w'.heap[B + 1]? = some (.cells #[.slice (some ⟨g, off, none⟩) m cap] 28 (0, 0)) ∧ Kept [] w w' ∧ S2 ≤ w'.heap.size)) := Hid.mk (fun wr k lnv plv hkR ⟨V, hL, hA, hO, hB, hP, hK, hS⟩ hln hsu hpl => by
    have hz := HZ.out
    have hz6 := HZ6.out
    have hbd := HBD.out
    have hcc := HC.out
    have hsm := sm_le (l := teln l N) (n := k) (b := 16777215) (fun i _ => TL.out i)
    have hkb : k * 16777215 ≤ 70016 * 16777215 := Nat.mul_le_mul_right _ (by omega)
    have htl := TL.out k
    refine (eadd_any PL PA (B + 1) S2 g off m cap k (a0 + sm (teln l N) k) lnv plv l V _ wr hL hA hP hO hS (HR.out.keep hK) HBY.out hcc.1 hcc.2.1 hcc.2.2.1 hpl (by omega) (by omega)).mono ?_
    rintro e w' ⟨he, V', g1, g2, g3, g4⟩
    have hV : ∀ x, x ∈ V.ownBlock.toList ++ [PL, PA] → S2 ≤ x := fun x hx => by
      simp only [List.mem_append, List.mem_cons, List.not_mem_nil, or_false] at hx
      rcases hx with hx | hx | hx
      · have hx' : V.ownBlock = some x := by simpa using hx
        rcases hO.2 with ⟨h, _⟩ | ⟨g', cp, cur, h, hb', _⟩
        · rw [h] at hx'; cases hx'
        · rw [h] at hx'; cases hx'; exact hb'
      · omega
      · omega
    rw [hsu, hln] at g3
    rw [hln, Nat.add_assoc] at g2
    exact ⟨he, V', g1, g2, g3, g4.heap hB (fun h => by have := hV _ h; omega), g4.heap hP (fun h => by have := hV _ h; omega), hK.step g4 (fun x hx => .inr (by have := hV x hx; omega)), Nat.le_trans hS g4.size⟩)
  go_wp2_with (fail)
  clear e6 ePA d0 d1 d2 d3 d4 d5 d6 d7 d8 d9 d10 d11 d12 v1 v2 v3 v4 k6
  go_loopw [28, 10, 11] (fun i u v wr => ∃ k : Nat, k ≤ N ∧ i = .int .i64 (k : Int) ∧ Hid (∃ V, wr.heap[PL]? = some (.cells #[V] 31 (0, 0)) ∧ wr.heap[PA]? = some (.cells #[.int .i64 ((a0 + sm (teln l N) (k) : Nat) : Int)] 3 (0, 0)) ∧ wr.ownsRow S2 87 3 V (k) (enL a0 (teln l N) (tesu l N) (k)) ∧ wr.heap[B]? = some (.cells #[.int .i64 W, .int .i64 H, .int .i64 D, .bool A, .int .i64 sw, .int .i64 sh, .int .i64 r0, .int .i64 r1, .int .i64 r2, .int .i64 r3, .int .i64 (N : Int), .int .i64 (p : Int), .int .i64 ln] 27 (0, 0)) ∧ wr.heap[B + 1]? = some (.cells #[.slice (some ⟨g, off, none⟩) m cap] 28 (0, 0)) ∧ Kept [] w wr ∧ S2 ≤ wr.heap.size)) (fun i _ _ _ => N - (intOf i).toNat)
  case atStart => exact ⟨0, Nat.zero_le _, rfl, E6⟩
  case round =>
    obtain ⟨k, hk, rfl, HE⟩ := hrel
    have hNN : N ≤ 100000 := by have := HC.out; omega
    by_cases hlt : k < N
    · have ik : (k : Int) < (N : Int) := by omega
      obtain ⟨_, _, _, _, _, _, hKw, _⟩ := HE.out
      obtain ⟨x, ex⟩ : ∃ x, nb l (8 * k) 4 = x := ⟨_, rfl⟩
      have c1 : wr.cell? ⟨G, k, none⟩ = some (.int .i64 (x : Int)) := by rw [← ex]; exact Tl.cell_keep hKw (HI.out k hlt) (by simp)
      obtain ⟨P8, e8⟩ : ∃ x, 8 * k = x := ⟨_, rfl⟩
      obtain ⟨P4, e4⟩ : ∃ x, P8 + 4 = x := ⟨_, rfl⟩
      have q1 : 8 * (k : Int) = (P8 : Int) := by omega
      have q2 : (P8 : Int) + 4 = (P4 : Int) := by omega
      have b1 : P8 ≤ 9000000000000000000 := by omega
      have b2 : P4 ≤ 9000000000000000000 := by omega
      have CK := Hid.mk (CALL.out wr k x P4 (by have := HBD.out; omega) HE.out (by unfold teln; rw [if_pos hlt, ex]) (by unfold tesu; rw [if_pos hlt, e8, e4]) (by have := HC.out; omega))
      have v1 : wrap64 (8 * (k : Int)) = (P8 : Int) := w64n q1 b1
      have v2 : IntKind.i64.wrap (8 * (k : Int)) = (P8 : Int) := win q1 b1
      have v3 : wrap64 ((P8 : Int) + 4) = (P4 : Int) := w64n q2 b2
      have v4 : IntKind.i64.wrap ((P8 : Int) + 4) = (P4 : Int) := win q2 b2
      clear hKw ex e8 e4 q1 q2 b1 b2 HE
      go_wp2_with (fail)
      refine CK.out.mono ?_
      rintro e w7 ⟨rfl, hE⟩
      have HE := Hid.mk hE
      clear hE c1 v1 v2 v3 v4 CK
      go_wp2
      go_roundw
      case rel => exact ⟨k + 1, by omega, by go_num, HE⟩
      case measure => simp [intOf]; omega
    · obtain rfl : N = k := by omega
      obtain ⟨V, hL, hA, hO, hB, hP, hK, hS⟩ := HE.out
      obtain ⟨b0, b1, b2, b3, b4, b5, b6, b7, b8, b9, b10, b11, b12⟩ := cel13 hB
      clear hlt hk hL hA hO hB hP hK hS V
      go_wp2_with (fail)
      clear b0 b1 b2 b3 b4 b5 b6 b7 b8 b9 b10 b11 b12
      go_loopw [42, 12] (fun i u wr => ∃ k : Nat, k ≤ p ∧ i = .int .i64 (k : Int) ∧ Hid (∃ V, wr.heap[PL]? = some (.cells #[V] 31 (0, 0)) ∧ wr.heap[PA]? = some (.cells #[.int .i64 ((a0 + sm (teln l N) (N + k) : Nat) : Int)] 3 (0, 0)) ∧ wr.ownsRow S2 87 3 V (N + k) (enL a0 (teln l N) (tesu l N) (N + k)) ∧ wr.heap[B]? = some (.cells #[.int .i64 W, .int .i64 H, .int .i64 D, .bool A, .int .i64 sw, .int .i64 sh, .int .i64 r0, .int .i64 r1, .int .i64 r2, .int .i64 r3, .int .i64 (N : Int), .int .i64 (p : Int), .int .i64 ln] 27 (0, 0)) ∧ wr.heap[B + 1]? = some (.cells #[.slice (some ⟨g, off, none⟩) m cap] 28 (0, 0)) ∧ Kept [] w wr ∧ S2 ≤ wr.heap.size)) (fun i _ _ => p - (intOf i).toNat)
      case atStart => exact ⟨0, Nat.zero_le _, rfl, HE⟩
      case round =>
        obtain ⟨k, hk, rfl, HE⟩ := hrel
        have hpp : p ≤ 16 := HC.out.2.2.2.2.2.2
        by_cases hlt : k < p
        · have ik : (k : Int) < (p : Int) := by omega
          obtain ⟨_, _, _, _, hB, _, hKw, _⟩ := HE.out
          have b10 := (cel13 hB).2.2.2.2.2.2.2.2.2.2.1
          have CM := Hid.mk (fun u (hu : Kept [] wr u) => max_any G N c (fun k => nb l (8 * k) 4) u (fun i hi => Tl.cell_keep (hKw.trans hu) (HI.out i hi) (by simp)) HC.out.2.2.2.2.1 (by omega) (fun i hi => by have := HLE.out i hi; omega))
          obtain ⟨M, eM⟩ : ∃ x, mxl (fun k => nb l (8 * k) 4) N = x := ⟨_, rfl⟩
          rw [eM] at CM
          obtain ⟨P8, e8⟩ : ∃ x, 8 * N = x := ⟨_, rfl⟩
          obtain ⟨P4, e4⟩ : ∃ x, 4 * k = x := ⟨_, rfl⟩
          obtain ⟨P9, e9⟩ : ∃ x, P8 + P4 = x := ⟨_, rfl⟩
          have q1 : 8 * (N : Int) = (P8 : Int) := by omega
          have q2 : 4 * (k : Int) = (P4 : Int) := by omega
          have q3 : (P8 : Int) + (P4 : Int) = (P9 : Int) := by omega
          have c1 : P8 ≤ 9000000000000000000 := by omega
          have c2 : P4 ≤ 9000000000000000000 := by omega
          have c3 : P9 ≤ 9000000000000000000 := by omega
          have CK : Hid (∀ u, Kept [] wr u → Calls Tryz.prog 59 #[.int .i64 (M : Int), .int .i64 (P9 : Int), .pointer (some ⟨PL, 0, none⟩), .pointer (some ⟨PA, 0, none⟩), .pointer (some ⟨B + 1, 0, none⟩)] u fun e w' => e = .returned (.tuple #[]) ∧ (∃ V, w'.heap[PL]? = some (.cells #[V] 31 (0, 0)) ∧ w'.heap[PA]? = some (.cells #[.int .i64 ((a0 + sm (teln l N) (N + k + 1) : Nat) : Int)] 3 (0, 0)) ∧ w'.ownsRow S2 87 3 V (N + k + 1) (enL a0 (teln l N) (tesu l N) (N + k + 1)) ∧ w'.heap[B]? = some (.cells #[.int .i64 W, .int .i64 H, .int .i64 D, .bool A, .int .i64 sw, .int .i64 sh, .int .i64 r0, .int .i64 r1, .int .i64 r2, .int .i64 r3, .int .i64 (N : Int), .int .i64 (p : Int), .int .i64 ln] 27 (0, 0)) ∧ w'.heap[B + 1]? = some (.cells #[.slice (some ⟨g, off, none⟩) m cap] 28 (0, 0)) ∧ Kept [] w w' ∧ S2 ≤ w'.heap.size)) := Hid.mk (fun u hu => CALL.out u (N + k) M P9 (by have := HBD.out; omega) (by
            obtain ⟨V, f1, f2, f3, f4, f5, f6, f7⟩ := HE.out
            exact ⟨V, hu.heap f1 (by simp), hu.heap f2 (by simp), hu.row f3 (by simp), hu.heap f4 (by simp), hu.heap f5 (by simp), f6.trans hu, Nat.le_trans f7 hu.size⟩) (by unfold teln; rw [if_neg (by omega), eM]) (by unfold tesu; rw [if_neg (by omega), show N + k - N = k by omega, e8, e4, e9]) (by have := HC.out; omega))
          have v1 : wrap64 (8 * (N : Int)) = (P8 : Int) := w64n q1 c1
          have v2 : IntKind.i64.wrap (8 * (N : Int)) = (P8 : Int) := win q1 c1
          have v3 : wrap64 (4 * (k : Int)) = (P4 : Int) := w64n q2 c2
          have v4 : IntKind.i64.wrap (4 * (k : Int)) = (P4 : Int) := win q2 c2
          have v5 : wrap64 ((P8 : Int) + (P4 : Int)) = (P9 : Int) := w64n q3 c3
          have v6 : IntKind.i64.wrap ((P8 : Int) + (P4 : Int)) = (P9 : Int) := win q3 c3
          clear hB hKw e8 e4 e9 q1 q2 q3 c1 c2 c3 eM HE
          go_wp2_with (fail)
          refine wp_region_held_drew (S := fun u => u.cell? ⟨B, 10, none⟩ = some (.int .i64 (N : Int))) (by kernel_rfl) b10 (fun hH0 => ?_)
          refine wpAnyH_take (i := 0) (oi := _) (v := ?_) rfl (by kernel_rfl) (by kernel_rfl) (by kernel_rfl) (fun _ _ _ h => h) (Or.inl ⟨by rfl, ?y0⟩) (by assumption) ?r0
          case y0 => (intro u hSw; (try dsimp only at hSw); go_simp; try with_reducible rfl)
          refine wpAnyH_take (i := 1) (oi := _) (v := ?_) rfl (by kernel_rfl) (by kernel_rfl) (by kernel_rfl) (fun _ _ _ h => h) (Or.inl ⟨by rfl, ?y1⟩) (by assumption) ?r1
          case y1 => (intro u hSw; (try dsimp only at hSw); go_simp; try with_reducible rfl)
          refine wpAnyH_take (i := 3) (oi := _) (v := ?_) rfl (by kernel_rfl) (by kernel_rfl) (by kernel_rfl) (fun _ _ _ h => h) (Or.inl ⟨by rfl, ?y3⟩) (by assumption) ?r3
          case y3 => (intro u hSw; (try dsimp only at hSw); go_simp; try with_reducible rfl)
          refine wpAnyH_take (i := 4) (oi := _) (v := ?_) rfl (by kernel_rfl) (by kernel_rfl) (by kernel_rfl) (fun _ _ _ h => h) (Or.inl ⟨by rfl, ?y4⟩) (by assumption) ?r4
          case y4 => (intro u hSw; (try dsimp only at hSw); go_simp; try with_reducible rfl)
          refine wpAnyH_take (i := 5) (oi := _) (v := ?_) rfl (by kernel_rfl) (by kernel_rfl) (by kernel_rfl) (fun _ _ _ h => h) (Or.inl ⟨by rfl, ?y5⟩) (by assumption) ?r5
          case y5 => (intro u hSw; (try dsimp only at hSw); go_simp; try with_reducible rfl)
          refine wpAnyH_take (i := 6) (oi := _) (v := ?_) rfl (by kernel_rfl) (by kernel_rfl) (by kernel_rfl) (fun _ _ _ h => h) (Or.inl ⟨by rfl, ?y6⟩) (by assumption) ?r6
          case y6 => (intro u hSw; (try dsimp only at hSw); go_simp; try with_reducible rfl)
          refine wpAnyH_take (i := 7) (oi := _) (v := ?_) rfl (by kernel_rfl) (by kernel_rfl) (by kernel_rfl) (fun _ _ _ h => h) (Or.inl ⟨by rfl, ?y7⟩) (by assumption) ?r7
          case y7 => (intro u hSw; (try dsimp only at hSw); go_simp; try with_reducible rfl)
          refine wpAnyH_take (i := 8) (oi := _) (v := ?_) rfl (by kernel_rfl) (by kernel_rfl) (by kernel_rfl) (fun _ _ _ h => h) (Or.inl ⟨by rfl, ?y8⟩) (by assumption) ?r8
          case y8 => (intro u hSw; (try dsimp only at hSw); go_simp; try with_reducible rfl)
          refine wpAnyH_ready (rs := [2]) (by kernel_rfl) (by simp) ?_
          refine AllReadyH.cons rfl (fun K hK => ?_) AllReadyH.nil
          go_simp
          go_at_call 30
          refine (CM.out _ (Kept.refl [] wr).drew).mono ?_
          rintro e w7 ⟨rfl, hw⟩
          obtain rfl := hw.symm
          refine hK.out _ _ b10 (fun hH1 => ?_)
          clear hK K hw
          refine wpAnyH_ready (rs := [9]) (by kernel_rfl) (by simp) ?_
          refine AllReadyH.cons rfl (fun K hK => ?_) AllReadyH.nil
          go_simp
          go_at_call 59
          refine (CK.out _ (Kept.refl [] wr).drew).mono ?_
          rintro e w8 ⟨rfl, hE⟩
          have HE := Hid.mk hE
          refine hK.out _ _ (by
            obtain ⟨_, _, _, _, hB, _⟩ := HE.out
            exact (cel13 hB).2.2.2.2.2.2.2.2.2.2.1) (fun hH2 => ?_)
          clear hK K hE v1 v2 v3 v4 v5 v6 CK CM b10 hH0 hH1
          refine wpAnyH_done (by kernel_rfl) ?_ _
          clear hH2
          go_wp2
          go_roundw
          case rel => exact ⟨k + 1, by omega, by go_num, HE⟩
          case measure => simp [intOf]; omega
        · obtain rfl : p = k := by omega
          obtain ⟨V, hL, hA, hO, hB, hP, hK, hS⟩ := HE.out
          have c0 : wr.cell? ⟨PL, 0, none⟩ = some V := cellAt hL rfl
          have HO : Hid (wr.ownsRow w.heap.size 87 3 V R (enL a0 (teln l N) (tesu l N) R)) := Hid.mk (by
            have hz := HZ.out
            have hbd := HBD.out
            rw [hbd.1] at hO
            refine ⟨hO.1, ?_⟩
            rcases hO.2 with hn | ⟨g', cp, cur, f1, f2, rest⟩
            · exact .inl hn
            · exact .inr ⟨g', cp, cur, f1, by omega, rest⟩)
          have HK := Hid.mk hK
          clear hlt hk hL hA hO hB hP hK hS HE
          go_wp2
          go_ret
          exact ⟨V, rfl, HO.out, HK.out⟩
end Go.Proofs.YthhegomjipbdbaaGreatDoor.Pc
