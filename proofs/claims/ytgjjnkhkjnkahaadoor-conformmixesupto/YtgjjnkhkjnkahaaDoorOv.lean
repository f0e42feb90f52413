import Derived.Test.YtgjjnkhkjnkahaaDoorGb
namespace Go.Proofs.YtgjjnkhkjnkahaaDoor
open Go.RowKit

set_option maxHeartbeats 8000000 in
set_option maxRecDepth 1000000 in
theorem over_any (W H D : Int) (A : Bool) (po : Option Addr) (n c : Nat) (ln : Nat → Nat) (F : Nat → Nat → Nat) (w : World) (hr : Pl w po n ln F) (hn : n ≤ 1048576) (hln : ∀ i, i < n → ln i ≤ 1048576) : Calls Tryd.prog 10 #[frv W H D A po n c] w fun e w' => ∃ po' c', e = .returned (frv W H D A po' n c') ∧ Pl w' po' n ln (fun _ _ => 7) ∧ Kept [] w w' := by
  obtain ⟨j0, gi, gz0, gz1, gz2⟩ := info_parts Tryd.infoR
  have N := ent555 w (.int .i64 W) (.int .i64 H) (.int .i64 D) (.bool A) (.slice po n c) (.int .i64 0) (.int .i64 0) (.int .i64 0) (.bool false) (.slice none 0 0) (.int .i64 W) (.int .i64 H) (.int .i64 D) (.bool A) (.slice none 0 0) 29
  obtain ⟨w1, ew1⟩ : ∃ w1, ((w.alloc (.cells #[.int .i64 W, .int .i64 H, .int .i64 D, .bool A, .slice po n c] 29 (0, 0))).alloc (.cells #[.int .i64 0, .int .i64 0, .int .i64 0, .bool false, .slice none 0 0] 29 (0, 0))).alloc (.cells #[.int .i64 W, .int .i64 H, .int .i64 D, .bool A, .slice none 0 0] 29 (0, 0)) = w1 := ⟨_, rfl⟩
  rw [ew1] at N
  have HN := Hid.mk N
  have EW := Hid.mk ew1
  obtain ⟨b, eb⟩ : ∃ b, w.heap.size = b := ⟨_, rfl⟩
  have HG0 : Hid (Gf w w1 (b + 1 + 1) (.int .i64 W) (.int .i64 H) (.int .i64 D) (.bool A) (.slice none 0 0) 0 (fun _ => 0) ln (fun _ _ => 7)) := Hid.mk ⟨by rw [← eb]; exact N.2.2.1, Gx.start _ _ _ _ _, by omega, N.2.2.2⟩
  have HR := Hid.mk (And.intro hr hln)
  have EB := Hid.mk eb
  rw [eb] at HN
  obtain ⟨⟨x0, x1, x2, x3, x4⟩, _⟩ := five HN.out.1
  clear N ew1 hr hln
  go_enter Tryd.func10, Tryd.ntmps10
  go_wp2_with (fail)
  try rw [EW.out]
  try simp only [eb]
  clear eb x0 x1 x2 x3
  go_loopw [4] (fun i wr => ∃ (k : Nat) (V : Value) (bs : Nat → Nat), k ≤ n ∧ i = .int .i64 (k : Int) ∧ Gf w wr (b + 1 + 1) (.int .i64 W) (.int .i64 H) (.int .i64 D) (.bool A) V k bs ln (fun _ _ => 7) ∧ wr.heap[b]? = some (.cells #[.int .i64 W, .int .i64 H, .int .i64 D, .bool A, .slice po n c] 29 (0, 0)) ∧ wr.heap[b + 1]? = some (.cells #[.int .i64 0, .int .i64 0, .int .i64 0, .bool false, .slice none 0 0] 29 (0, 0))) (fun i _ => n - (intOf i).toNat)
  case atStart => exact ⟨0, _, _, by omega, rfl, HG0.out, HN.out.1, HN.out.2.1⟩
  case round =>
    obtain ⟨wo, rfl⟩ : ∃ wo, wo = wr := ⟨_, rfl⟩
    obtain ⟨k, V, bs, hk, rfl, hG, hA, hR⟩ := hrel
    have HG := Hid.mk hG
    have HA := Hid.mk hA
    have HZ := Hid.mk hR
    clear hG hA hR x4
    by_cases hlt : k < n
    · have ix : (k : Int) < (n : Int) := by omega
      obtain ⟨g, off, bo, c', rfl, hc0, hrd⟩ := HR.out.1.at hlt
      have hc := cell_keep HG.out.kept hc0 (by simp)
      have hm := HR.out.2 k hlt
      obtain ⟨⟨_, _, _, _, x4⟩, _⟩ := five HA.out
      obtain ⟨m, em⟩ : ∃ m, ln k = m := ⟨_, rfl⟩
      rw [em] at hc hm
      have EM := Hid.mk em
      obtain ⟨mkW, hmk, hmw⟩ := make_row m (m : Int) rfl (by omega)
      have hmk1 := hmk wo
      obtain ⟨hr1, hk1⟩ := hmw wo
      obtain ⟨w3, ew3⟩ : ∃ w3, mkW wo = w3 := ⟨_, rfl⟩
      obtain ⟨r, er⟩ : ∃ r, wo.heap.size = r := ⟨_, rfl⟩
      rw [ew3, er] at hmk1
      rw [ew3] at hk1
      rw [ew3, er] at hr1
      have HR1 : Hid (Row w3 r m (fun j => if j < 0 then 7 else 0)) := Hid.mk (hr1.congr (fun j _ => by rw [if_neg (by omega)]))
      have HK1 := Hid.mk hk1
      have ER := Hid.mk er
      clear hmk hmw hr1 hk1 ew3 er em hc0 hrd
      go_wp2_with (fail)
      clear hmk1 x4 hc
      go_loopw [6] (fun i wq => ∃ t : Nat, t ≤ m ∧ i = .int .i64 (t : Int) ∧ Row wq r m (fun j => if j < t then 7 else 0) ∧ Kept [r] w3 wq) (fun i _ => m - (intOf i).toNat)
      case atStart => exact ⟨0, by omega, rfl, HR1.out, Kept.refl _ _⟩
      case round =>
        obtain ⟨t, ht, rfl, hrow, hkt⟩ := hrel
        by_cases hlt2 : t < m
        · have ix2 : (t : Int) < (m : Int) := by omega
          have c3 := hrow.at hlt2
          have c4 := hrow.fz t
          have HS : Hid (Row (wr.setCell ⟨r, t, none⟩ (.int .u16 7)) r m (fun j => if j < t + 1 then 7 else 0)) := Hid.mk ((hrow.set (v := 7)).congr (fun j hj => by
            by_cases e : j = t
            · subst e; rw [if_pos rfl, if_pos (by omega)]
            · rw [if_neg e]
              by_cases e2 : j < t
              · rw [if_pos e2, if_pos (by omega)]
              · rw [if_neg e2, if_neg (by omega)]))
          have HK2 : Hid (Kept [r] w3 (wr.setCell ⟨r, t, none⟩ (.int .u16 7))) := Hid.mk (hkt.setCell (p := ⟨r, t, none⟩) (.inl (by simp)) _)
          clear hrow hkt
          go_wp2_with (fail)
          go_roundw
          case rel => exact ⟨t + 1, by omega, by go_num, HS.out, HK2.out⟩
          case measure => simp [intOf]; omega
        · obtain rfl : m = t := by omega
          have kk : Kept [] wo wr := HK1.out.own hkt (by have := ER.out; omega)
          have G2 := HG.out.keep kk
          have HQ : Hid (∀ V' w', w'.ownsRow w.heap.size 37 1 V' (k + 1) (fl (fun i => slv (bs i) (ln i) (ln i)) k ++ [slv r m m]) → Kept V.ownBlock.toList wr w' → (w'.cell? ⟨b + 1 + 1, 4, none⟩ = some V ∧ w'.frozen? ⟨b + 1 + 1, 4, none⟩ = false) ∧ ∃ bs', Gf w (w'.setCell ⟨b + 1 + 1, 4, none⟩ V') (b + 1 + 1) (.int .i64 W) (.int .i64 H) (.int .i64 D) (.bool A) V' (k + 1) bs' ln (fun _ _ => 7) ∧ (w'.setCell ⟨b + 1 + 1, 4, none⟩ V').heap[b]? = some (.cells #[.int .i64 W, .int .i64 H, .int .i64 D, .bool A, .slice (some ⟨g, off, none⟩) n c] 29 (0, 0)) ∧ (w'.setCell ⟨b + 1 + 1, 4, none⟩ V').heap[b + 1]? = some (.cells #[.int .i64 0, .int .i64 0, .int .i64 0, .bool false, .slice none 0 0] 29 (0, 0))) := Hid.mk (fun V' w' q1 q2 => by
            have hh := G2.app (r := r) (V' := V') (w' := w') (by rw [EM.out]; exact hrow.congr (fun j hj => by rw [if_pos hj])) (fun i hi => by have := (HG.out.all.row i hi).lt; have := ER.out; omega) (by have := HG.out.kept.size; have := ER.out; omega) (by rw [EM.out]; exact q1) q2
            obtain ⟨⟨_, _, _, _, p4⟩, _, _, _, _, p9⟩ := five hh.1
            have k4 : Kept [b + 1 + 1] w' (w'.setCell ⟨b + 1 + 1, 4, none⟩ V') := (Kept.refl _ _).setCell (p := ⟨b + 1 + 1, 4, none⟩) (.inl (by simp)) _
            exact ⟨⟨p4, p9⟩, _, hh.2.1, k4.heap (q2.heap (kk.heap HA.out (by simp)) (by rw [mem_own]; exact own_other G2.all.own (kk.heap HA.out (by simp)) (by decide))) (by simp; omega), k4.heap (q2.heap (kk.heap HZ.out (by simp)) (by rw [mem_own]; exact own_other G2.all.own (kk.heap HZ.out (by simp)) (by decide))) (by simp)⟩)
          have HO := Hid.mk G2.all.own
          have hBw : w.heap.size ≤ wr.heap.size := G2.kept.size
          obtain ⟨⟨_, _, _, _, x4⟩, _⟩ := five G2.box
          clear hrow hkt kk G2 HG
          go_wp2_with (at_builtin; refine wpList_app1 wr rfl _ _ 27 w.heap.size 37 j0 (.slice none 0 0) 24 Tryd.underlying27 gi gz0 gz1 gz2 rfl rfl V k (fl (fun i => slv (bs i) (ln i) (ln i)) k) (by rfl) HO.out (slv r m m) (by rfl) rfl hBw (by omega) (by omega) ?_; intro V' w4 hs3 hk3 _; obtain ⟨gN, cN, rfl⟩ := own_suc hs3; obtain ⟨⟨p4, p9⟩, bs', hq⟩ := HQ.out _ w4 hs3 hk3; have HQ2 := Hid.mk hq; clear hq)
          exact ⟨⟨k + 1, _, bs', by omega, by go_num, HQ2.out.1, HQ2.out.2.1, HQ2.out.2.2⟩, by simp [intOf]; omega⟩
    · obtain rfl : n = k := by omega
      obtain ⟨⟨x0, x1, x2, x3, x4⟩, _⟩ := five HG.out.box
      obtain ⟨⟨_, _, _, _, y4⟩, _⟩ := five HA.out
      obtain ⟨⟨z0, z1, z2, z3, z4⟩, f0, f1, f2, f3, f4⟩ := five HZ.out
      obtain ⟨po', c', eV, hpl⟩ := HG.out.all.pl
      subst eV
      have HP := Hid.mk hpl
      clear hpl
      go_wp2_with (fail)
      have s5 := set5 (.int .i64 W) (.int .i64 H) (.int .i64 D) (.bool A) (.slice po' n c') HZ.out
      refine bodyPost_ret (v := frv W H D A po' n c') ?_ rfl ⟨po', c', rfl, ?_, ?_⟩
      · exact results_cell_row rfl _ _ (b + 1) 29 _ (0, 0) _ rfl s5.1 Tryd.underlying29 rfl Tryd.info29
      · exact HG.out.all.plk s5.2 HZ.out
      · exact HG.out.kept.own s5.2 (by have := EB.out; omega)
end Go.Proofs.YtgjjnkhkjnkahaaDoor
