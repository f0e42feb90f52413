import Derived.Test.YtgjjnkhkjnkahaaDoorMc
import Derived.Test.YtgjjnkhkjnkahaaDoorLb
namespace Go.Proofs.YtgjjnkhkjnkahaaDoor
open Go.RowKit

/-- A frame whose planes grow: its variable, its rows. -/
structure Gf (w0 w : World) (X : Nat) (a b c d V : Value) (k : Nat) (bs ln : Nat → Nat) (F : Nat → Nat → Nat) : Prop where
  box : w.heap[X]? = some (.cells #[a, b, c, d, V] 29 (0, 0))
  all : Gx w0.heap.size w V k bs ln F
  new : w0.heap.size ≤ X
  kept : Kept [] w0 w
theorem Gf.keep {w0 w w' : World} {X : Nat} {a b c d V : Value} {k : Nat} {bs ln : Nat → Nat} {F : Nat → Nat → Nat} (h : Gf w0 w X a b c d V k bs ln F) (hk : Kept [] w w') : Gf w0 w' X a b c d V k bs ln F :=
  ⟨hk.heap h.box (by simp), h.all.keep0 hk, h.new, h.kept.trans hk⟩
/-- What is new to w is written. -/
theorem Kept.own {w w2 w3 : World} {r : Nat} (h : Kept [] w w2) (k : Kept [r] w2 w3) (hr : w.heap.size ≤ r) : Kept [] w w3 := h.step k (fun x hx => by simp at hx; subst hx; exact .inr hr)
/-- One row more. -/
theorem Gf.app {w0 w w' : World} {X r : Nat} {a b c d V V' : Value} {k : Nat} {bs ln : Nat → Nat} {F : Nat → Nat → Nat} (h : Gf w0 w X a b c d V k bs ln F) (hr : Row w r (ln k) (F k)) (hb : ∀ i, i < k → bs i < r) (hB : w0.heap.size ≤ r)
    (ho : w'.ownsRow w0.heap.size 37 1 V' (k + 1) (fl (fun i => slv (bs i) (ln i) (ln i)) k ++ [slv r (ln k) (ln k)])) (hk : Kept V.ownBlock.toList w w') :
    w'.heap[X]? = some (.cells #[a, b, c, d, V] 29 (0, 0)) ∧ Gf w0 (w'.setCell ⟨X, 4, none⟩ V') X a b c d V' (k + 1) (nx bs k r) ln F ∧ Kept [] w0 w' := by
  have hX := hk.heap h.box (by rw [mem_own]; exact own_other h.all.own h.box (by decide))
  have Ks : Kept [X] w' (w'.setCell ⟨X, 4, none⟩ V') := (Kept.refl _ _).setCell (p := ⟨X, 4, none⟩) (.inl (by simp)) _
  have G3 := h.all.step (b := r) hr hb hB ho hk
  have K2 : Kept [] w0 w' := h.kept.step hk (fun x hx => by
    rw [mem_own] at hx
    right
    rcases h.all.own.2 with ⟨e, _⟩ | ⟨g2, cap, cur, e, hb, _⟩
    · rw [e] at hx; simp [Value.ownBlock] at hx
    · rw [e] at hx; simp [Value.ownBlock] at hx; subst hx; exact hb)
  refine ⟨hX, ⟨heap_setCell_at hX, ?_, h.new, K2.own Ks h.new⟩, K2⟩
  refine G3.keep Ks (fun g' hg' => ?_) (fun i hi => ?_)
  · have h := own_other G3.own hX (by decide)
    simp
    intro e
    subst e
    exact h hg'
  · have h := G3.row i hi
    simp
    intro e
    unfold Row at h
    rw [e, hX] at h
    simp at h
/-- Planes that grew are read. -/
theorem Gx.pl {B : Nat} {w : World} {V : Value} {k : Nat} {bs ln : Nat → Nat} {F : Nat → Nat → Nat} (h : Gx B w V k bs ln F) : ∃ po c, V = .slice po k c ∧ Pl w po k ln F := by
  by_cases hk : 0 < k
  · obtain ⟨g, cap, e, _, _, _, hc⟩ := h.cell hk
    exact ⟨_, cap, e, .inr ⟨g, 0, rfl, fun i hi => ⟨_, _, by rw [Nat.zero_add]; exact hc i hi, (h.row i hi).rd⟩⟩⟩
  · obtain rfl : k = 0 := by omega
    rcases h.own.2 with ⟨e, _⟩ | ⟨g, cap, cur, e, _⟩
    · exact ⟨none, 0, e, .inl rfl⟩
    · exact ⟨_, _, e, .inl rfl⟩
theorem pz16 : pz 16 16 0 = 256 ∧ pz 16 16 1 = 128 ∧ pz 16 16 2 = 128 := by decide

set_option maxHeartbeats 8000000 in
set_option maxRecDepth 1000000 in
theorem small_any (v : Nat) (w : World) : Calls Tryd.prog 13 #[.int .u16 (v : Int)] w fun e w' => ∃ po c, e = .returned (frv 16 16 10 false po 3 c) ∧ Pl w' po 3 (pz 16 16) (fun _ _ => v) ∧ Kept [] w w' := by
  obtain ⟨j0, gi, gz0, gz1, gz2⟩ := info_parts Tryd.infoR
  obtain ⟨w1, e1⟩ : ∃ w1, w.alloc (.cells #[.int .i64 0, .int .i64 0, .int .i64 0, .bool false, .slice none 0 0] 29 (0, 0)) = w1 := ⟨_, rfl⟩
  obtain ⟨w2, e2⟩ : ∃ w2, w1.alloc (.cells #[.int .i64 16, .int .i64 16, .int .i64 10, .bool false, .slice none 0 0] 29 (0, 0)) = w2 := ⟨_, rfl⟩
  have k1 : Kept [] w w1 := by rw [← e1]; exact alloc_kept _ _
  have k2 : Kept [] w1 w2 := by rw [← e2]; exact alloc_kept _ _
  have b1 : w1.heap[w.heap.size]? = some (.cells #[.int .i64 0, .int .i64 0, .int .i64 0, .bool false, .slice none 0 0] 29 (0, 0)) := by rw [← e1]; exact heap_alloc_new _ _
  have b2 : w2.heap[w1.heap.size]? = some (.cells #[.int .i64 16, .int .i64 16, .int .i64 10, .bool false, .slice none 0 0] 29 (0, 0)) := by rw [← e2]; exact heap_alloc_new _ _
  have hs1 : w.heap.size < w1.heap.size := lt_of_block b1
  have HG0 : Hid (Gf w w2 w1.heap.size (.int .i64 16) (.int .i64 16) (.int .i64 10) (.bool false) (.slice none 0 0) 0 (fun _ => 0) (pz 16 16) (fun _ _ => v)) := Hid.mk ⟨b2, Gx.start _ _ _ _ _, by omega, k1.trans k2⟩
  have HR0 := Hid.mk (k2.heap b1 (by simp))
  have hs2 : w1.heap.size = w.heap.size + 1 := by rw [← e1, World.size_alloc]
  obtain ⟨X, eX⟩ : ∃ X, w.heap.size + 1 = X := ⟨_, rfl⟩
  have HX : Hid (w.heap.size < X) := Hid.mk (by omega)
  have EX := Hid.mk eX
  have E2 := Hid.mk e2
  have E1 := Hid.mk e1
  rw [hs2, eX] at HG0
  clear k1 k2 b1 b2 hs1 hs2 eX e1 e2
  go_enter Tryd.func13, Tryd.ntmps13
  go_wp2_with (fail)
  rw [E1.out, E2.out, EX.out]
  go_loopw [4] (fun i wr => ∃ (k : Nat) (V : Value) (bs : Nat → Nat), k ≤ 3 ∧ i = .int .i64 (k : Int) ∧ Gf w wr X (.int .i64 16) (.int .i64 16) (.int .i64 10) (.bool false) V k bs (pz 16 16) (fun _ _ => v) ∧ wr.heap[w.heap.size]? = some (.cells #[.int .i64 0, .int .i64 0, .int .i64 0, .bool false, .slice none 0 0] 29 (0, 0))) (fun i _ => 3 - (intOf i).toNat)
  case atStart => exact ⟨0, _, _, by omega, rfl, HG0.out, HR0.out⟩
  case round =>
    obtain ⟨wo, rfl⟩ : ∃ wo, wo = wr := ⟨_, rfl⟩
    obtain ⟨k, V, bs, hk, rfl, hG, hR⟩ := hrel
    have HG := Hid.mk hG
    have HR := Hid.mk hR
    clear hG hR
    by_cases hlt : k < 3
    · have ix : (k : Int) < 3 := by omega
      by_cases h0 : 0 < (k : Int)
      · have hk12 : k = 1 ∨ k = 2 := by omega
        have EM : Hid (pz 16 16 k = 128) := Hid.mk (by rcases hk12 with rfl | rfl <;> decide)
        clear hk12
        obtain ⟨mkW, hmk, hmw⟩ := make_row 128 128 rfl (by omega)
        have hmk1 := hmk wo
        obtain ⟨hr1, hk1⟩ := hmw wo
        obtain ⟨w3, ew3⟩ : ∃ w3, mkW wo = w3 := ⟨_, rfl⟩
        obtain ⟨r, er⟩ : ∃ r, wo.heap.size = r := ⟨_, rfl⟩
        rw [ew3, er] at hmk1
        rw [ew3] at hk1
        rw [ew3, er] at hr1
        have HR1 : Hid (Row w3 r 128 (fun j => if j < 0 then v else 0)) := Hid.mk (hr1.congr (fun j _ => by rw [if_neg (by omega)]))
        have HK1 := Hid.mk hk1
        have ER := Hid.mk er
        clear hmk hmw hr1 hk1 ew3 er
        go_wp2_with (fail)
        clear hmk1
        go_loopw [7] (fun i wq => ∃ t : Nat, t ≤ 128 ∧ i = .int .i64 (t : Int) ∧ Row wq r 128 (fun j => if j < t then v else 0) ∧ Kept [r] w3 wq) (fun i _ => 128 - (intOf i).toNat)
        case atStart => exact ⟨0, by omega, rfl, HR1.out, Kept.refl _ _⟩
        case round =>
          obtain ⟨t, ht, rfl, hrow, hkt⟩ := hrel
          by_cases hlt2 : t < 128
          · have ix2 : (t : Int) < 128 := by omega
            have c3 := hrow.at hlt2
            have c4 := hrow.fz t
            have HS : Hid (Row (wr.setCell ⟨r, t, none⟩ (.int .u16 (v : Int))) r 128 (fun j => if j < t + 1 then v else 0)) := Hid.mk (hrow.set.congr (fun j hj => by
              by_cases e : j = t
              · subst e; rw [if_pos rfl, if_pos (by omega)]
              · rw [if_neg e]
                by_cases e2 : j < t
                · rw [if_pos e2, if_pos (by omega)]
                · rw [if_neg e2, if_neg (by omega)]))
            have HK2 : Hid (Kept [r] w3 (wr.setCell ⟨r, t, none⟩ (.int .u16 (v : Int)))) := Hid.mk (hkt.setCell (p := ⟨r, t, none⟩) (.inl (by simp)) _)
            clear hrow hkt
            go_wp2_with (fail)
            go_roundw
            case rel => exact ⟨t + 1, by omega, by go_num, HS.out, HK2.out⟩
            case measure => simp [intOf]; omega
          · obtain rfl : t = 128 := by omega
            have kk : Kept [] wo wr := HK1.out.own hkt (by have := ER.out; omega)
            have G2 := HG.out.keep kk
            have HQ : Hid (∀ V' w', w'.ownsRow w.heap.size 37 1 V' (k + 1) (fl (fun i => slv (bs i) (pz 16 16 i) (pz 16 16 i)) k ++ [slv r 128 128]) → Kept V.ownBlock.toList wr w' → (w'.cell? ⟨X, 4, none⟩ = some V ∧ w'.frozen? ⟨X, 4, none⟩ = false) ∧ ∃ bs', Gf w (w'.setCell ⟨X, 4, none⟩ V') X (.int .i64 16) (.int .i64 16) (.int .i64 10) (.bool false) V' (k + 1) bs' (pz 16 16) (fun _ _ => v) ∧ (w'.setCell ⟨X, 4, none⟩ V').heap[w.heap.size]? = some (.cells #[.int .i64 0, .int .i64 0, .int .i64 0, .bool false, .slice none 0 0] 29 (0, 0))) := Hid.mk (fun V' w' q1 q2 => by
              have hh := G2.app (r := r) (V' := V') (w' := w') (by rw [EM.out]; exact hrow.congr (fun j hj => by rw [if_pos hj])) (fun i hi => by have := (HG.out.all.row i hi).lt; have := ER.out; omega) (by have := HG.out.kept.size; have := ER.out; omega) (by rw [EM.out]; exact q1) q2
              obtain ⟨⟨_, _, _, _, p4⟩, _, _, _, _, p9⟩ := five hh.1
              refine ⟨⟨p4, p9⟩, _, hh.2.1, ?_⟩
              have k4 : Kept [X] w' (w'.setCell ⟨X, 4, none⟩ V') := (Kept.refl _ _).setCell (p := ⟨X, 4, none⟩) (.inl (by simp)) _
              exact k4.heap (q2.heap (kk.heap HR.out (by simp)) (by rw [mem_own]; exact own_other G2.all.own (kk.heap HR.out (by simp)) (by decide))) (by have := HX.out; simp; omega))
            have HO := Hid.mk G2.all.own
            have hBw : w.heap.size ≤ wr.heap.size := G2.kept.size
            obtain ⟨⟨_, _, _, _, x4⟩, _⟩ := five G2.box
            clear hrow hkt kk G2 HG
            go_wp2_with (at_builtin; refine wpList_app1 wr rfl _ _ 27 w.heap.size 37 j0 (.slice none 0 0) 24 Tryd.underlying27 gi gz0 gz1 gz2 rfl rfl V k (fl (fun i => slv (bs i) (pz 16 16 i) (pz 16 16 i)) k) (by rfl) HO.out (slv r 128 128) (by rfl) rfl hBw (by omega) (by omega) ?_; intro V' w4 hs3 hk3 _; obtain ⟨gN, cN, rfl⟩ := own_suc hs3; obtain ⟨⟨p4, p9⟩, bs', hq⟩ := HQ.out _ w4 hs3 hk3; have HQ2 := Hid.mk hq; clear hq)
            exact ⟨⟨k + 1, _, bs', by omega, by go_num, HQ2.out.1, HQ2.out.2⟩, by simp [intOf]; omega⟩
      · have hk0 : k = 0 := by omega
        have EM : Hid (pz 16 16 k = 256) := Hid.mk (by subst hk0; decide)
        clear hk0
        obtain ⟨mkW, hmk, hmw⟩ := make_row 256 256 rfl (by omega)
        have hmk1 := hmk wo
        obtain ⟨hr1, hk1⟩ := hmw wo
        obtain ⟨w3, ew3⟩ : ∃ w3, mkW wo = w3 := ⟨_, rfl⟩
        obtain ⟨r, er⟩ : ∃ r, wo.heap.size = r := ⟨_, rfl⟩
        rw [ew3, er] at hmk1
        rw [ew3] at hk1
        rw [ew3, er] at hr1
        have HR1 : Hid (Row w3 r 256 (fun j => if j < 0 then v else 0)) := Hid.mk (hr1.congr (fun j _ => by rw [if_neg (by omega)]))
        have HK1 := Hid.mk hk1
        have ER := Hid.mk er
        clear hmk hmw hr1 hk1 ew3 er
        go_wp2_with (fail)
        clear hmk1
        go_loopw [7] (fun i wq => ∃ t : Nat, t ≤ 256 ∧ i = .int .i64 (t : Int) ∧ Row wq r 256 (fun j => if j < t then v else 0) ∧ Kept [r] w3 wq) (fun i _ => 256 - (intOf i).toNat)
        case atStart => exact ⟨0, by omega, rfl, HR1.out, Kept.refl _ _⟩
        case round =>
          obtain ⟨t, ht, rfl, hrow, hkt⟩ := hrel
          by_cases hlt2 : t < 256
          · have ix2 : (t : Int) < 256 := by omega
            have c3 := hrow.at hlt2
            have c4 := hrow.fz t
            have HS : Hid (Row (wr.setCell ⟨r, t, none⟩ (.int .u16 (v : Int))) r 256 (fun j => if j < t + 1 then v else 0)) := Hid.mk (hrow.set.congr (fun j hj => by
              by_cases e : j = t
              · subst e; rw [if_pos rfl, if_pos (by omega)]
              · rw [if_neg e]
                by_cases e2 : j < t
                · rw [if_pos e2, if_pos (by omega)]
                · rw [if_neg e2, if_neg (by omega)]))
            have HK2 : Hid (Kept [r] w3 (wr.setCell ⟨r, t, none⟩ (.int .u16 (v : Int)))) := Hid.mk (hkt.setCell (p := ⟨r, t, none⟩) (.inl (by simp)) _)
            clear hrow hkt
            go_wp2_with (fail)
            go_roundw
            case rel => exact ⟨t + 1, by omega, by go_num, HS.out, HK2.out⟩
            case measure => simp [intOf]; omega
          · obtain rfl : t = 256 := by omega
            have kk : Kept [] wo wr := HK1.out.own hkt (by have := ER.out; omega)
            have G2 := HG.out.keep kk
            have HQ : Hid (∀ V' w', w'.ownsRow w.heap.size 37 1 V' (k + 1) (fl (fun i => slv (bs i) (pz 16 16 i) (pz 16 16 i)) k ++ [slv r 256 256]) → Kept V.ownBlock.toList wr w' → (w'.cell? ⟨X, 4, none⟩ = some V ∧ w'.frozen? ⟨X, 4, none⟩ = false) ∧ ∃ bs', Gf w (w'.setCell ⟨X, 4, none⟩ V') X (.int .i64 16) (.int .i64 16) (.int .i64 10) (.bool false) V' (k + 1) bs' (pz 16 16) (fun _ _ => v) ∧ (w'.setCell ⟨X, 4, none⟩ V').heap[w.heap.size]? = some (.cells #[.int .i64 0, .int .i64 0, .int .i64 0, .bool false, .slice none 0 0] 29 (0, 0))) := Hid.mk (fun V' w' q1 q2 => by
              have hh := G2.app (r := r) (V' := V') (w' := w') (by rw [EM.out]; exact hrow.congr (fun j hj => by rw [if_pos hj])) (fun i hi => by have := (HG.out.all.row i hi).lt; have := ER.out; omega) (by have := HG.out.kept.size; have := ER.out; omega) (by rw [EM.out]; exact q1) q2
              obtain ⟨⟨_, _, _, _, p4⟩, _, _, _, _, p9⟩ := five hh.1
              refine ⟨⟨p4, p9⟩, _, hh.2.1, ?_⟩
              have k4 : Kept [X] w' (w'.setCell ⟨X, 4, none⟩ V') := (Kept.refl _ _).setCell (p := ⟨X, 4, none⟩) (.inl (by simp)) _
              exact k4.heap (q2.heap (kk.heap HR.out (by simp)) (by rw [mem_own]; exact own_other G2.all.own (kk.heap HR.out (by simp)) (by decide))) (by have := HX.out; simp; omega))
            have HO := Hid.mk G2.all.own
            have hBw : w.heap.size ≤ wr.heap.size := G2.kept.size
            obtain ⟨⟨_, _, _, _, x4⟩, _⟩ := five G2.box
            clear hrow hkt kk G2 HG
            go_wp2_with (at_builtin; refine wpList_app1 wr rfl _ _ 27 w.heap.size 37 j0 (.slice none 0 0) 24 Tryd.underlying27 gi gz0 gz1 gz2 rfl rfl V k (fl (fun i => slv (bs i) (pz 16 16 i) (pz 16 16 i)) k) (by rfl) HO.out (slv r 256 256) (by rfl) rfl hBw (by omega) (by omega) ?_; intro V' w4 hs3 hk3 _; obtain ⟨gN, cN, rfl⟩ := own_suc hs3; obtain ⟨⟨p4, p9⟩, bs', hq⟩ := HQ.out _ w4 hs3 hk3; have HQ2 := Hid.mk hq; clear hq)
            exact ⟨⟨k + 1, _, bs', by omega, by go_num, HQ2.out.1, HQ2.out.2⟩, by simp [intOf]; omega⟩
    · obtain rfl : k = 3 := by omega
      obtain ⟨⟨x0, x1, x2, x3, x4⟩, _⟩ := five HG.out.box
      obtain ⟨⟨z0, z1, z2, z3, z4⟩, f0, f1, f2, f3, f4⟩ := five HR.out
      obtain ⟨po, c, eV, hpl⟩ := HG.out.all.pl
      subst eV
      have HP := Hid.mk hpl
      clear hpl
      go_wp2_with (fail)
      have s5 := set5 (.int .i64 16) (.int .i64 16) (.int .i64 10) (.bool false) (.slice po 3 c) HR.out
      refine bodyPost_ret (v := frv 16 16 10 false po 3 c) ?_ rfl ⟨po, c, rfl, ?_, ?_⟩
      · exact results_cell_row rfl _ _ w.heap.size 29 _ (0, 0) _ rfl s5.1 Tryd.underlying29 rfl Tryd.info29
      · have hl := HG.out.all.cell (by omega)
        obtain ⟨g, cap, e, hg1, hg2, ⟨cs, hg3⟩, hc⟩ := hl
        cases e
        refine .inr ⟨g, 0, rfl, fun i hi => ⟨_, _, cell_keep s5.2 (by rw [Nat.zero_add]; exact hc i hi) ?_, ((HG.out.all.row i hi).keep s5.2 ?_).rd⟩⟩
        · simp; intro e; subst e; rw [HR.out] at hg3; simp at hg3
        · simp; intro e; have h := HG.out.all.row i hi; unfold Row at h; rw [e, HR.out] at h; simp at h
      · exact HG.out.kept.own s5.2 (Nat.le_refl _)
end Go.Proofs.YtgjjnkhkjnkahaaDoor
