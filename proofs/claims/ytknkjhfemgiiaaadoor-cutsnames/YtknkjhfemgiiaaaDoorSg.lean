import Derived.Test.YtknkjhfemgiiaaaDoorSf
namespace Go.Proofs.YtknkjhfemgiiaaaDoor
open Go.RowKit Go.Lib

theorem dn_le (s : ByteArray) (k : Nat) : dn s k ≤ 4 := by
  unfold dn Utf8.decode
  simp only
  repeat' split
  all_goals simp
/-- How a line's scan stands behind some runes. -/
structure Lp (w wr : World) (s : ByteArray) (start : Int) (k : Nat) (S : Sn) (vw vs : Value) (sy : ByteArray) : Prop where
  sc : Sc (w.heap.size + 3) wr (w.heap.size + 1) S vw vs sy
  ln : wr.heap[w.heap.size]? = some (.cells #[.slice none 0 0, .int .i64 0] 43 (0, 0))
  it : wr.heap[w.heap.size + 2]? = some (.stringIter s k)
  hk : Kept [] w wr
  st : 0 ≤ S.st ∧ S.st ≤ 3
  l1 : S.ws.length ≤ k
  l2 : S.sg.length ≤ k
  lk : k ≤ s.size + 4
  rs : scn s start s.size k S = lnR s start
theorem Lp.start (w : World) (s : ByteArray) (st : Int) : Lp w (((w.alloc (.cells #[.slice none 0 0, .int .i64 0] 43 (0, 0))).alloc (.cells #[.int .i64 0, .slice none 0 0, .int .i64 0, .int .i64 0, .string ⟨#[]⟩, .slice none 0 0] 67 (0, 0))).iter s 0) s st 0 sn0 (.slice none 0 0) (.slice none 0 0) ⟨#[]⟩ := by
  obtain ⟨w1, e1⟩ : ∃ w1, w.alloc (.cells #[.slice none 0 0, .int .i64 0] 43 (0, 0)) = w1 := ⟨_, rfl⟩
  have b1 := heap_alloc_new w (.cells #[.slice none 0 0, .int .i64 0] 43 (0, 0))
  have k1 : Kept [] w w1 := by rw [← e1]; exact alloc_kept _ _
  have z1 : w1.heap.size = w.heap.size + 1 := by rw [← e1]; simp
  rw [e1] at b1 ⊢
  obtain ⟨w2, e2⟩ : ∃ w2, w1.alloc (.cells #[.int .i64 0, .slice none 0 0, .int .i64 0, .int .i64 0, .string ⟨#[]⟩, .slice none 0 0] 67 (0, 0)) = w2 := ⟨_, rfl⟩
  have b2 := heap_alloc_new w1 (.cells #[.int .i64 0, .slice none 0 0, .int .i64 0, .int .i64 0, .string ⟨#[]⟩, .slice none 0 0] 67 (0, 0))
  have k2 : Kept [] w1 w2 := by rw [← e2]; exact alloc_kept _ _
  have z2 : w2.heap.size = w.heap.size + 2 := by rw [← e2]; simp [z1]
  rw [e2] at b2 ⊢
  rw [z1] at b2
  have k3 : Kept [] w2 (w2.iter s 0) := alloc_kept _ _
  have b3 := World.iter_heap w2 s 0
  rw [z2] at b3
  exact ⟨⟨k3.heap b2 (by simp), ⟨by simp [sn0, wcs], .inl ⟨rfl, rfl⟩⟩, ⟨by simp [sn0], .inl ⟨rfl, rfl⟩⟩⟩, (k2.trans k3).heap b1 (by simp), b3, (k1.trans k2).trans k3, ⟨by decide, by decide⟩, by simp [sn0], by simp [sn0], by omega, rfl⟩
/-- The next rune is taken. -/
theorem Lp.iter {w wr : World} {s : ByteArray} {start : Int} {k : Nat} {S : Sn} {vw vs : Value} {sy : ByteArray} (h : Lp w wr s start k S vw vs sy) (d : Nat) :
    Sc (w.heap.size + 3) (wr.iterAt (w.heap.size + 2) s (k + d)) (w.heap.size + 1) S vw vs sy ∧ (wr.iterAt (w.heap.size + 2) s (k + d)).heap[w.heap.size]? = some (.cells #[.slice none 0 0, .int .i64 0] 43 (0, 0)) ∧
    (wr.iterAt (w.heap.size + 2) s (k + d)).heap[w.heap.size + 2]? = some (.stringIter s (k + d)) ∧ Kept [] w (wr.iterAt (w.heap.size + 2) s (k + d)) := by
  have hk : Kept [w.heap.size + 2] wr (wr.iterAt (w.heap.size + 2) s (k + d)) := ⟨rfl, rfl, rfl, by rw [iterAt_size]; exact Nat.le_refl _, fun i _ hi => iterAt_other _ _ _ _ _ (by simpa using hi)⟩
  refine ⟨h.sc.kept hk (by simp) (fun g hg hm => ?_) (fun g hg hm => ?_), hk.heap h.ln (by simp), iterAt_heap _ _ _ _ _ h.it, h.hk.step hk (fun x hx => by simp at hx; omega)⟩
  · have := own_base h.sc.wr g (by simp [hg]); simp at hm; omega
  · have := own_base h.sc.sr g (by simp [hg]); simp at hm; omega
/-- A step was made. -/
theorem Lp.next {w wr wa wb : World} {s : ByteArray} {start : Int} {k d : Nat} {S : Sn} {vw vs : Value} {sy : ByteArray} (h : Lp w wr s start k S vw vs sy)
    (ha : wa.heap[w.heap.size]? = some (.cells #[.slice none 0 0, .int .i64 0] 43 (0, 0)) ∧ wa.heap[w.heap.size + 2]? = some (.stringIter s (k + d)) ∧ Kept [] w wa) (hd : d = dn s k) (hlt : k < s.size) (hno : ¬ (S.st = 0 ∧ rn s k = 35))
    (hp : ScP (w.heap.size + 3) (w.heap.size + 1) wa wb (stp S (start + k) (rn s k))) : ∃ S' vw' vs' sy', Lp w wb s start (k + d) S' vw' vs' sy' := by
  obtain ⟨vw', vs', sy', hsc, hb⟩ := hp
  subst hd
  have h1 : 1 ≤ dn s k := decode_width_pos s k hlt
  have hl := stp_len S (start + k) (rn s k)
  refine ⟨_, vw', vs', sy', hsc, (hb.block _ (by omega) (by omega)).trans ha.1, (hb.block _ (by omega) (by omega)).trans ha.2.1, ⟨hb.os.trans ha.2.2.os, hb.tape.trans ha.2.2.tape, hb.output.trans ha.2.2.output, Nat.le_trans ha.2.2.size hb.size, fun i hi hn => (hb.block i (by omega) (by omega)).trans (ha.2.2.block i hi hn)⟩, stp_st _ _ _ h.st, by have := h.l1; omega, by have := h.l2; omega, by have := dn_le s k; omega, ?_⟩
  rw [← h.rs]
  have hz : s.size = (s.size - 1) + 1 := by omega
  conv => rhs; rw [hz]
  simp only [scn, if_pos hlt, if_neg hno]
  exact scn_fuel _ _ _ _ _ _ (by omega) (by omega)
/-- What a line's scan answers. -/
def LnP (s : ByteArray) (start : Int) (w : World) (e : Ending) (w' : World) : Prop := ∃ vw, e = .returned (.agg #[vw, .int .i64 (lnE s start)]) ∧ w'.ownsRow w.heap.size 56 3 vw (lnW s start).length (wcs (lnW s start)) ∧ Kept [] w w'
theorem own_down {w : World} {B B' e m n : Nat} {v : Value} {xs : List Value} (h : w.ownsRow B e m v n xs) (hB : B' ≤ B) : w.ownsRow B' e m v n xs := by
  refine ⟨h.1, ?_⟩
  rcases h.2 with h2 | ⟨g, cap, cur, h1, h2, h3⟩
  · exact .inl h2
  · exact .inr ⟨g, cap, cur, h1, by omega, h3⟩

set_option maxHeartbeats 8000000 in
set_option maxRecDepth 1000000 in
theorem scanLine_any (s : ByteArray) (start : Int) (w : World) (hs : s.size ≤ 50000) (h0 : 0 ≤ start) (h1 : start ≤ 50000) : Calls Tryd.prog 10 #[.string s, .int .i64 start] w fun e w' => LnP s start w e w' := by
  have hL0 := Lp.start w s start
  have HL0 := Hid.mk hL0
  clear hL0
  go_enter Tryd.func10, Tryd.ntmps10
  go_wp2
  go_loopw [6, 7, 8] (fun _ _ _ wr => ∃ k S vw vs sy, Lp w wr s start k S vw vs sy) (fun _ _ _ wr => s.size - wr.iterPos (w.heap.size + 2))
  case atStart => exact ⟨0, _, _, _, _, HL0.out⟩
  case round =>
    obtain ⟨k, S, vw, vs, sy, L⟩ := hrel
    clear HL0
    obtain ⟨va, vc, evw, -⟩ := row_form2 L.sc.wr
    subst evw
    by_cases hlt : k < s.size
    · have hnx0 := fun ty => run_next_any_at (P := Tryd.prog) wr (w.heap.size + 2) s k ty L.it hlt
      obtain ⟨n1, n2, n3, n4⟩ := L.iter (dn s k)
      have hd1 : 1 ≤ dn s k := decode_width_pos s k hlt
      have ip := iterPos_of L.it
      have HI := Hid.mk ip
      obtain ⟨d, ed⟩ : ∃ d, dn s k = d := ⟨_, rfl⟩
      obtain ⟨r, er⟩ : ∃ r, rn s k = r := ⟨_, rfl⟩
      obtain ⟨wa, ewa⟩ : ∃ wa, wr.iterAt (w.heap.size + 2) s (k + dn s k) = wa := ⟨_, rfl⟩
      have hnx : ∀ ty, (Instr.next (.pointer (some ⟨w.heap.size + 2, 0, none⟩)) true ty).run Tryd.prog wr = .ok (.tuple #[.bool true, .int .i64 (k : Int), .int .i32 r]) wa := fun ty => by rw [hnx0, ← er, ← ewa]; rfl
      rw [ewa] at n1 n2 n3 n4
      rw [ed] at n3 hd1
      obtain ⟨c0, c1, -⟩ := n1.cells
      have hq := L.st
      have hl1 := L.l1
      have hl2 := L.l2
      have hBa : w.heap.size + 3 ≤ wa.heap.size := lt_of_block n3
      obtain ⟨q, eq⟩ : ∃ q, S.st = q := ⟨_, rfl⟩
      rw [eq] at c0 hq
      have wk : wrap64 (start + (k : Int)) = start + k := w64_in (by omega) (by omega)
      have HN := Hid.mk n1
      have HA := Hid.mk (And.intro n2 (And.intro n3 n4))
      have HL := Hid.mk L
      clear hnx0 n1 n2 n3 n4 ip ewa L
      have NX : Hid (∀ wb, ¬ (q = 0 ∧ r = 35) → ScP (w.heap.size + 3) (w.heap.size + 1) wa wb (stp S (start + k) r) → ∃ S' vw' vs' sy', Lp w wb s start (k + d) S' vw' vs' sy') := Hid.mk (fun wb hno hp => HL.out.next (d := d) HA.out ed.symm hlt (by rw [eq, er]; exact hno) (by rw [er]; exact hp))
      have hq4 : q = 0 ∨ q = 1 ∨ q = 2 ∨ q = 3 := by omega
      rcases hq4 with rfl | rfl | rfl | rfl
      · by_cases h35 : r = 35
        · subst h35
          have HR : Hid (scn s start s.size k S = (S, some k)) := Hid.mk (by
            have hz : s.size = (s.size - 1) + 1 := by omega
            rw [hz]
            simp [scn, hlt, eq, er])
          have HF : Hid (lnE s start = start + k ∧ lnW s start = S.ws) := Hid.mk (by
            have h9 := HL.out.rs
            rw [HR.out] at h9
            unfold lnE lnW
            rw [← h9]
            exact ⟨rfl, rfl⟩)
          have f0 := frozen_of_row wa w.heap.size 0 _ _ HA.out.1
          have f1 := frozen_of_row wa w.heap.size 1 _ _ HA.out.1
          have l0 : wa.cell? ⟨w.heap.size, 0, none⟩ = some (.slice none 0 0) := by simp [World.cell?, HA.out.1]
          have l1 : wa.cell? ⟨w.heap.size, 1, none⟩ = some (.int .i64 0) := by simp [World.cell?, HA.out.1]
          have KS : Hid (Kept [w.heap.size] wa ((wa.setCell ⟨w.heap.size, 0, none⟩ (.slice va S.ws.length vc)).setCell ⟨w.heap.size, 1, none⟩ (.int .i64 (start + k)))) := Hid.mk (((Kept.refl _ _).setCell (.inl (by simp)) _).setCell (.inl (by simp)) _)
          clear hq hl1 hl2 eq er
          go_wp2
          refine bodyPost_ret (v := .agg #[.slice va S.ws.length vc, .int .i64 (start + k)]) (by simp [results, Tryd.results10, go_sem, l0, l1]) rfl ⟨.slice va S.ws.length vc, ?_, ?_, ?_⟩
          · rw [HF.out.1]
          · rw [HF.out.2]
            exact own_down (KS.out.row HN.out.wr (fun g hg hm => by have := own_base HN.out.wr g (by simp [hg]); simp at hm; omega)) (by omega)
          · exact HA.out.2.2.step KS.out (fun x hx => by simp at hx; omega)
        · have HST : Hid (stp S (start + k) r = snB S (start + k) r) := Hid.mk (by simp [stp, eq])
          have HNO : Hid (¬ ((0 : Int) = 0 ∧ r = 35)) := Hid.mk (by simp [h35])
          have CM := Hid.mk (begin_any _ _ (start + k) r wa S (.slice va S.ws.length vc) vs sy HN.out hBa)
          clear hq hl1 hl2 eq er
          go_wp2_with (go_at_call 19; refine CM.out.mono ?_; rintro e w2 ⟨rfl, h2⟩)
          obtain ⟨S', vw', vs', sy', L'⟩ := NX.out _ HNO.out (by rw [HST.out]; exact h2)
          refine ⟨⟨k + d, S', vw', vs', sy', L'⟩, ?_⟩
          rw [HI.out, iterPos_of L'.it]; omega
      · have HST : Hid (stp S (start + k) r = snG S r) := Hid.mk (by simp [stp, eq])
        have HNO : Hid (¬ ((1 : Int) = 0 ∧ r = 35)) := Hid.mk (by simp)
        have CM := Hid.mk (goOn_any _ _ r wa S (.slice va S.ws.length vc) vs sy HN.out hBa (by omega) (by omega))
        clear hq hl1 hl2 eq er
        go_wp2_with (go_at_call 20; refine CM.out.mono ?_; rintro e w2 ⟨rfl, h2⟩)
        obtain ⟨S', vw', vs', sy', L'⟩ := NX.out _ HNO.out (by rw [HST.out]; exact h2)
        refine ⟨⟨k + d, S', vw', vs', sy', L'⟩, ?_⟩
        rw [HI.out, iterPos_of L'.it]; omega
      · have HST : Hid (stp S (start + k) r = snT S r) := Hid.mk (by simp [stp, eq])
        have HNO : Hid (¬ ((2 : Int) = 0 ∧ r = 35)) := Hid.mk (by simp)
        have CM := Hid.mk (goOnText_any _ _ r wa S (.slice va S.ws.length vc) vs sy HN.out hBa (by omega) (by omega))
        clear hq hl1 hl2 eq er
        go_wp2_with (go_at_call 21; refine CM.out.mono ?_; rintro e w2 ⟨rfl, h2⟩)
        obtain ⟨S', vw', vs', sy', L'⟩ := NX.out _ HNO.out (by rw [HST.out]; exact h2)
        refine ⟨⟨k + d, S', vw', vs', sy', L'⟩, ?_⟩
        rw [HI.out, iterPos_of L'.it]; omega
      · have HST : Hid (stp S (start + k) r = snU S r) := Hid.mk (by simp [stp, eq])
        have HNO : Hid (¬ ((3 : Int) = 0 ∧ r = 35)) := Hid.mk (by simp)
        have CM := Hid.mk (unescape_any _ _ r wa S (.slice va S.ws.length vc) vs sy HN.out hBa (by omega))
        clear hq hl1 hl2 eq er
        go_wp2_with (go_at_call 22; refine CM.out.mono ?_; rintro e w2 ⟨rfl, h2⟩)
        obtain ⟨S', vw', vs', sy', L'⟩ := NX.out _ HNO.out (by rw [HST.out]; exact h2)
        refine ⟨⟨k + d, S', vw', vs', sy', L'⟩, ?_⟩
        rw [HI.out, iterPos_of L'.it]; omega
    · have hnx := fun ty => run_next_end_at (P := Tryd.prog) wr (w.heap.size + 2) s k ty L.it hlt
      have HR : Hid (scn s start s.size k S = (S, none)) := Hid.mk (scn_end _ _ _ _ _ hlt)
      have hl1 := L.l1
      have HL := Hid.mk L
      have hlk := L.lk
      have hBr : w.heap.size + 3 ≤ wr.heap.size := lt_of_block L.it
      have CF := Hid.mk (finish_any _ _ wr S _ vs sy L.sc hBr (by omega))
      have HF : Hid (lnE s start = start + s.size ∧ lnW s start = (snF S).ws) := Hid.mk (by
        have h9 := HL.out.rs
        rw [HR.out] at h9
        unfold lnE lnW
        rw [← h9]
        exact ⟨rfl, rfl⟩)
      have wk : wrap64 (start + (s.size : Int)) = start + s.size := w64_in (by omega) (by omega)
      clear L hl1 hlk
      go_wp2_with (fail)
      refine CF.out.mono ?_
      rintro e w2 ⟨rfl, vw', vs', sy', S2, B2⟩
      obtain ⟨va', vc', evw, -⟩ := row_form2 S2.wr
      subst evw
      obtain ⟨-, c1, -⟩ := S2.cells
      have hb0 := (B2.block w.heap.size (by omega) (by omega)).trans HL.out.ln
      have f0 := frozen_of_row w2 w.heap.size 0 _ _ hb0
      have f1 := frozen_of_row w2 w.heap.size 1 _ _ hb0
      have l0 : w2.cell? ⟨w.heap.size, 0, none⟩ = some (.slice none 0 0) := by simp [World.cell?, hb0]
      have l1 : w2.cell? ⟨w.heap.size, 1, none⟩ = some (.int .i64 0) := by simp [World.cell?, hb0]
      have K2 : Hid (Kept [] w w2) := Hid.mk ⟨B2.os.trans HL.out.hk.os, B2.tape.trans HL.out.hk.tape, B2.output.trans HL.out.hk.output, Nat.le_trans HL.out.hk.size B2.size, fun i hi hn => (B2.block i (by omega) (by omega)).trans (HL.out.hk.block i hi hn)⟩
      have KS : Hid (Kept [w.heap.size] w2 ((w2.setCell ⟨w.heap.size, 0, none⟩ (.slice va' (snF S).ws.length vc')).setCell ⟨w.heap.size, 1, none⟩ (.int .i64 (start + s.size)))) := Hid.mk (((Kept.refl _ _).setCell (.inl (by simp)) _).setCell (.inl (by simp)) _)
      have HS2 := Hid.mk S2
      clear S2 B2 hb0
      go_wp2
      refine bodyPost_ret (v := .agg #[.slice va' (snF S).ws.length vc', .int .i64 (start + s.size)]) (by simp [results, Tryd.results10, go_sem, l0, l1]) rfl ⟨.slice va' (snF S).ws.length vc', ?_, ?_, ?_⟩
      · rw [HF.out.1]
      · rw [HF.out.2]
        exact own_down (KS.out.row HS2.out.wr (fun g hg hm => by have := own_base HS2.out.wr g (by simp [hg]); simp at hm; omega)) (by omega)
      · exact K2.out.step KS.out (fun x hx => by simp at hx; omega)
end Go.Proofs.YtknkjhfemgiiaaaDoor
