import Derived.Test.YtgjjnkhkjnkahaaDoorWa
namespace Go.Proofs.YtgjjnkhkjnkahaaDoor
open Go.RowKit

set_option maxHeartbeats 16000000 in
set_option maxRecDepth 1000000 in
theorem copied_any (W H D : Int) (A : Bool) (po : Option Addr) (n c : Nat) (ln : Nat → Nat) (F : Nat → Nat → Nat) (w : World) (hr : Pn w po n ln F) (hn : n ≤ 1048576) (hln : ∀ i, i < n → ln i ≤ 1048576) :
    Calls Tryd.prog 6 #[frv W H D A po n c] w fun e w' => ∃ go gc gs cs, e = .returned (frv W H D A go n gc) ∧ Cz w.heap.size w' (.slice go n gc) n gs cs ln (fun i => cpF (F i) (ln i)) ∧ Kept [] w w' := by
  obtain ⟨i0, gi, gz0, gz1, gz2⟩ := info_parts Tryd.info38
  have N1 := heap_alloc_new w (.cells #[.int .i64 W, .int .i64 H, .int .i64 D, .bool A, .slice po n c] 29 (0, 0))
  obtain ⟨w1, e1⟩ : ∃ w1, w.alloc (.cells #[.int .i64 W, .int .i64 H, .int .i64 D, .bool A, .slice po n c] 29 (0, 0)) = w1 := ⟨_, rfl⟩
  obtain ⟨w2, e2⟩ : ∃ w2, w1.alloc (.cells #[.int .i64 0, .int .i64 0, .int .i64 0, .bool false, .slice none 0 0] 29 (0, 0)) = w2 := ⟨_, rfl⟩
  have k1 : Kept [] w w1 := by rw [← e1]; exact alloc_kept _ _
  have k2 : Kept [] w1 w2 := by rw [← e2]; exact alloc_kept _ _
  rw [e1] at N1
  have N2 : w2.heap[w.heap.size + 1]? = some (.cells #[.int .i64 0, .int .i64 0, .int .i64 0, .bool false, .slice none 0 0] 29 (0, 0)) := by
    have := heap_alloc_new w1 (.cells #[.int .i64 0, .int .i64 0, .int .i64 0, .bool false, .slice none 0 0] 29 (0, 0))
    rw [e2] at this
    rwa [← e1, World.size_alloc] at this
  obtain ⟨b, eb⟩ : ∃ b, w.heap.size = b := ⟨_, rfl⟩
  have HN := Hid.mk (And.intro (k2.heap N1 (by simp)) N2)
  have K2 := Hid.mk (k1.trans k2)
  have HR := Hid.mk (And.intro hr hln)
  have EB := Hid.mk eb
  have E1 := Hid.mk e1
  have E2 := Hid.mk e2
  rw [eb] at HN
  clear N1 N2 k1 k2 hr hln e1 e2
  go_enter Tryd.func6, Tryd.ntmps6
  go_wp2_with (fail)
  try rw [E1.out, E2.out]
  try simp only [eb]
  clear eb
  go_loopw [3, 4] (fun l i wr => ∃ (k : Nat) (gs cs : Nat → Nat), k ≤ n ∧ i = .int .i64 (k : Int) ∧ Cz w.heap.size wr l k gs cs ln (fun i => cpF (F i) (ln i)) ∧ Kept [] w wr ∧ wr.heap[b]? = some (.cells #[.int .i64 W, .int .i64 H, .int .i64 D, .bool A, .slice po n c] 29 (0, 0)) ∧ wr.heap[b + 1]? = some (.cells #[.int .i64 0, .int .i64 0, .int .i64 0, .bool false, .slice none 0 0] 29 (0, 0))) (fun _ i _ => n - (intOf i).toNat)
  case atStart => exact ⟨0, fun _ => 0, fun _ => 0, by omega, rfl, Cz.start _ _ _ _ _ _, K2.out, HN.out.1, HN.out.2⟩
  case round =>
    obtain ⟨wo, rfl⟩ : ∃ wo, wo = wr := ⟨_, rfl⟩
    obtain ⟨k, gs, cs, hk, rfl, hG, hkw, hA, hZ⟩ := hrel
    have HG := Hid.mk hG
    have HKW := Hid.mk hkw
    have HA := Hid.mk hA
    have HZ := Hid.mk hZ
    clear hG hkw hA hZ
    obtain ⟨⟨_, _, _, _, x4⟩, _⟩ := five HA.out
    by_cases hlt : k < n
    · have ix : (k : Int) < (n : Int) := by omega
      obtain ⟨g, off, bo, c', rfl, hc0, hrd, hnil⟩ := HR.out.1.at hlt
      have hc := cell_keep HKW.out hc0 (by simp)
      have hm := HR.out.2 k hlt
      have HD := Hid.mk (hrd.keep HKW.out)
      obtain ⟨m, em⟩ : ∃ m, ln k = m := ⟨_, rfl⟩
      rw [em] at hc hm hnil HD
      have EM := Hid.mk em
      have HNL := Hid.mk hnil
      obtain ⟨w3, hmk, hmo, k3⟩ := make_room wo m hm
      obtain ⟨r, er⟩ : ∃ r, wo.heap.size = r := ⟨_, rfl⟩
      have ER := Hid.mk er
      have HMO := Hid.mk hmo
      have K3 := Hid.mk k3
      have hck := cell_keep k3 hc (by simp)
      have x4k := cell_keep k3 x4 (by simp)
      have HLT : Hid (g < wo.heap.size ∧ g < w.heap.size) := Hid.mk ⟨World.block_lt_of_cell? wo _ hc, World.block_lt_of_cell? w _ hc0⟩
      rw [er] at hmk
      clear em hnil hmo k3 er hc0 hrd
      go_wp2_with (at_builtin; refine wpList_app w3 rfl _ _ 37 wo.heap.size 38 i0 (.int .u16 0) 2 Tryd.underlying37 gi gz0 gz1 gz2 rfl (by decide) rfl (slv r 0 (m + 2)) 0 [] (by rfl) (by have := HMO.out; rw [ER.out] at this ⊢; exact this) bo m c' (vU (F k)) (by rfl) (HD.out.keep K3.out).sv HNL.out (fun _ _ => rfl) K3.out.size (by omega) ?_; intro V1 w4 ho4 hk4 hl4; have HO4 := Hid.mk ho4; have HK4 := Hid.mk hk4; have HL4 := Hid.mk hl4; clear ho4 hk4 hl4)
      have ho5 := HO4.out
      rw [Nat.zero_add, List.nil_append] at ho5
      obtain ⟨r1, c1, rfl⟩ : ∃ r1 c1, V1 = slv r1 m c1 := own_form ho5 (by
        rcases HL4.out with h | ⟨g9, h, _⟩
        · rw [h]; simp [Value.ownBlock]
        · rw [h]; simp)
      have k4 : Kept [] wo w4 := K3.out.own (by simpa [Value.ownBlock] using HK4.out) (Nat.le_of_eq ER.out)
      have ho6 : w4.drew.ownsRow wo.heap.size 38 1 (slv r1 m c1) m (fl (vU (F k)) m) := ((Kept.refl [] w4).drew).row ho5 (by simp)
      have hr1 := (wr_of_own ho5).2.1
      obtain ⟨g2, c2, ud, hrun2, hod, hkd⟩ := app_two w4.drew wo.heap.size r1 m c1 (F k) ho6 k4.size hm
      have kd : Kept [] wo ud := (k4.drew).own hkd hr1
      have hwd := wr_of_own hod
      have HC := HG.out.keep kd (by simp)
      obtain ⟨g3, c3, w6, hrun3, ho7, hk7, hl7⟩ := app_one ud w.heap.size k u3 (slv g2 m c2) _ HC.own rfl (Nat.le_trans HKW.out.size kd.size) (by omega)
      have HS := Hid.mk (HG.out.step (wA := ud) (gn := g2) (c := c2) HKW.out.size kd (by rw [EM.out]; exact hwd.2.2) hwd.2.1 (by show Wr ud g2 (ln k + 2) (cpF (F k) (ln k)); rw [EM.out]; exact hwd.1) (by rw [EM.out]; exact ho7) hk7)
      have S4 : Hid (Kept u3.ownBlock.toList wo w4.drew) := Hid.mk ((k4.drew).mono (by simp))
      have S5 : Hid (Kept u3.ownBlock.toList wo (w4.drew.alloc (.cells #[.int .u16 60001, .int .u16 60002] 38))) := Hid.mk (S4.out.alloc _)
      have S6 : Hid (Kept u3.ownBlock.toList wo ud) := Hid.mk (kd.mono (by simp))
      have S7 : Hid (Kept u3.ownBlock.toList wo (ud.alloc (.cells #[slv g2 m c2] 37))) := Hid.mk (S6.out.alloc _)
      have S8 : Hid (Kept u3.ownBlock.toList wo w6) := Hid.mk (S6.out.trans hk7)
      have nb : b ∉ u3.ownBlock.toList := by rw [mem_own]; exact own_other HG.out.own HA.out (by decide)
      have ng : g ∉ u3.ownBlock.toList := fun hm9 => by rw [mem_own] at hm9; have := own_lt HG.out.own g hm9; have := HLT.out; omega
      have CE : Hid (∀ u, Kept u3.ownBlock.toList wo u → u.cell? ⟨b, 4, none⟩ = some (.slice (some ⟨g, off, none⟩) n c) ∧ u.cell? ⟨g, off + k, none⟩ = some (.slice bo m c')) := Hid.mk (fun u hu => ⟨cell_keep hu x4 nb, cell_keep hu hc ng⟩)
      have nb1 : b + 1 ∉ u3.ownBlock.toList := by rw [mem_own]; exact own_other HG.out.own HZ.out (by decide)
      have HF : Hid (w6.heap[b]? = some (.cells #[.int .i64 W, .int .i64 H, .int .i64 D, .bool A, .slice (some ⟨g, off, none⟩) n c] 29 (0, 0)) ∧ w6.heap[b + 1]? = some (.cells #[.int .i64 0, .int .i64 0, .int .i64 0, .bool false, .slice none 0 0] 29 (0, 0)) ∧ Kept [] w w6) := Hid.mk ⟨S8.out.heap HA.out nb, S8.out.heap HZ.out nb1, HKW.out.step S8.out (fun x hx => by rw [mem_own] at hx; exact .inr (own_lt HG.out.own x hx).1)⟩
      have hmc : (m : Int) ≤ (c2 : Int) := by have := hwd.2.2; omega
      have hmc2 : m ≤ c2 := by have := hwd.2.2; omega
      have hmc3 : ¬ c2 < m := by omega
      clear ho5 ho6 k4 hr1 hod hkd kd hwd HC ho7 hk7 hl7 nb ng nb1 hmk hck x4k x4 hc
      refine wp_region_held_drew (S := fun u => Kept u3.ownBlock.toList wo u) (by kernel_rfl) S4.out (fun hH0 => ?_)
      refine wpAnyH_take (i := 0) (oi := _) (v := ?_) rfl (by kernel_rfl) (by kernel_rfl) (by kernel_rfl) (fun _ _ _ h => h) (Or.inl ⟨by rfl, ?y0wr⟩) (by assumption) ?r0wr
      case y0wr => (intro u hSw; have hSu : Kept u3.ownBlock.toList wo u := hSw; obtain ⟨t0, t1⟩ := CE.out u hSu; go_simp; try with_reducible rfl)
      refine wpAnyH_take (i := 1) (oi := _) (v := ?_) rfl (by kernel_rfl) (by kernel_rfl) (by kernel_rfl) (fun _ _ _ h => h) (Or.inl ⟨by rfl, ?y1wr⟩) (by assumption) ?r1wr
      case y1wr => (intro u hSw; have hSu : Kept u3.ownBlock.toList wo u := hSw; obtain ⟨t0, t1⟩ := CE.out u hSu; go_simp; try with_reducible rfl)
      refine wpAnyH_take (i := 4) (oi := _) (v := ?_) rfl (by kernel_rfl) (by kernel_rfl) (by kernel_rfl) (fun _ _ _ h => h) (Or.inl ⟨by rfl, ?y4wr⟩) (by assumption) ?r4wr
      case y4wr => (intro u hSw; have hSu : Kept u3.ownBlock.toList wo u := hSw; obtain ⟨t0, t1⟩ := CE.out u hSu; go_simp; try with_reducible rfl)
      refine wpAnyH_take (i := 5) (oi := _) (v := ?_) rfl (by kernel_rfl) (by kernel_rfl) (by kernel_rfl) (fun _ _ _ h => h) (Or.inl ⟨by rfl, ?y5wr⟩) (by assumption) ?r5wr
      case y5wr => (intro u hSw; have hSu : Kept u3.ownBlock.toList wo u := hSw; obtain ⟨t0, t1⟩ := CE.out u hSu; go_simp; try with_reducible rfl)
      refine wpAnyH_take (i := 6) (oi := _) (v := ?_) rfl (by kernel_rfl) (by kernel_rfl) (by kernel_rfl) (fun _ _ _ h => h) (Or.inl ⟨by rfl, ?y6wr⟩) (by assumption) ?r6wr
      case y6wr => (intro u hSw; have hSu : Kept u3.ownBlock.toList wo u := hSw; obtain ⟨t0, t1⟩ := CE.out u hSu; go_simp; try with_reducible rfl)
      refine wpAnyH_take (i := 7) (oi := _) (v := ?_) rfl (by kernel_rfl) (by kernel_rfl) (by kernel_rfl) (fun _ _ _ h => h) (Or.inl ⟨by rfl, ?y7wr⟩) (by assumption) ?r7wr
      case y7wr => (intro u hSw; have hSu : Kept u3.ownBlock.toList wo u := hSw; obtain ⟨t0, t1⟩ := CE.out u hSu; go_simp; try with_reducible rfl)
      refine wpAnyH_take (i := 8) (oi := _) (v := ?_) rfl (by kernel_rfl) (by kernel_rfl) (by kernel_rfl) (fun _ _ _ h => h) (Or.inl ⟨by rfl, ?y8wr⟩) (by assumption) ?r8wr
      case y8wr => (intro u hSw; have hSu : Kept u3.ownBlock.toList wo u := hSw; obtain ⟨t0, t1⟩ := CE.out u hSu; go_simp; try with_reducible rfl)
      refine wpAnyH_take (i := 9) (oi := _) (v := ?_) rfl (by kernel_rfl) (by kernel_rfl) (by kernel_rfl) (fun _ _ _ h => h) (Or.inl ⟨by rfl, ?y9wr⟩) (by assumption) ?r9wr
      case y9wr => (intro u hSw; have hSu : Kept u3.ownBlock.toList wo u := hSw; obtain ⟨t0, t1⟩ := CE.out u hSu; go_simp; try with_reducible rfl)
      refine wpAnyH_ready (rs := [2]) (by kernel_rfl) (by simp) ?_
      refine AllReadyH.cons rfl (fun K hK => ?_) AllReadyH.nil
      go_simp
      refine hK.out _ _ S5.out (fun hH1 => ?_)
      clear hK K
      refine wpAnyH_ready (rs := [3]) (by kernel_rfl) (by simp) ?_
      refine AllReadyH.cons rfl (fun K hK => ?_) AllReadyH.nil
      refine step_app rfl _ _ 37 rfl _ _ _ _ rfl rfl hrun2 ?_
      refine hK.out _ _ S6.out (fun hH2 => ?_)
      clear hK K
      refine wpAnyH_take (i := 10) (oi := _) (v := ?_) rfl (by kernel_rfl) (by kernel_rfl) (by kernel_rfl) (fun _ _ _ h => h) (Or.inl ⟨by rfl, ?y10wb⟩) (by assumption) ?r10wb
      case y10wb => (intro u hSw; have hSu : Kept u3.ownBlock.toList wo u := hSw; obtain ⟨t0, t1⟩ := CE.out u hSu; go_simp; try with_reducible rfl)
      refine wpAnyH_ready (rs := [11]) (by kernel_rfl) (by simp) ?_
      refine AllReadyH.cons rfl (fun K hK => ?_) AllReadyH.nil
      go_simp
      refine hK.out _ _ S7.out (fun hH3 => ?_)
      clear hK K
      refine wpAnyH_ready (rs := [12]) (by kernel_rfl) (by simp) ?_
      refine AllReadyH.cons rfl (fun K hK => ?_) AllReadyH.nil
      refine step_app rfl _ _ 27 rfl _ _ _ _ rfl rfl hrun3 ?_
      refine hK.out _ _ S8.out (fun hH4 => ?_)
      clear hK K
      refine wpAnyH_take (i := 13) (oi := _) (v := ?_) rfl (by kernel_rfl) (by kernel_rfl) (by kernel_rfl) (fun _ _ _ h => h) (Or.inl ⟨by rfl, ?y13wc⟩) (by assumption) ?r13wc
      case y13wc => (intro u hSw; have hSu : Kept u3.ownBlock.toList wo u := hSw; obtain ⟨t0, t1⟩ := CE.out u hSu; go_simp; try with_reducible rfl)
      refine wpAnyH_done (by kernel_rfl) ?_ _
      clear hH0 hH1 hH2 hH3 hH4 CE
      go_wp2
      exact ⟨⟨k + 1, _, _, by omega, by go_num, HS.out, HF.out.2.2, HF.out.1, HF.out.2.1⟩, by simp [intOf]; omega⟩
    · obtain rfl : n = k := by omega
      obtain ⟨ao, cc, rfl⟩ := HG.out.form
      obtain ⟨⟨y0, y1, y2, y3, y4⟩, _⟩ := five HA.out
      obtain ⟨⟨z0, z1, z2, z3, z4⟩, f0, f1, f2, f3, f4⟩ := five HZ.out
      clear x4
      go_wp2_with (fail)
      have s5 := set5 (.int .i64 W) (.int .i64 H) (.int .i64 D) (.bool A) (.slice ao n cc) HZ.out
      refine bodyPost_ret (v := frv W H D A ao n cc) ?_ rfl ⟨ao, cc, gs, cs, rfl, ?_, ?_⟩
      · exact results_cell_row rfl _ _ (b + 1) 29 _ (0, 0) _ rfl s5.1 Tryd.underlying29 rfl Tryd.info29
      · exact HG.out.keepx s5.2 HZ.out
      · exact HKW.out.own s5.2 (by have := EB.out; omega)
end Go.Proofs.YtgjjnkhkjnkahaaDoor
