import Derived.Test.YtodlkpcbkilglaaDoorLmZ
namespace Go.Proofs.YtodlkpcbkilglaaDoor
open Go.RowKit Go.Shelf

theorem upd_len {f : Nat → List Nat} {n b : Nat} {x : List Nat} (h : ∀ i, (f i).length ≤ b) (hx : x.length ≤ b) : ∀ i, (Bt.upd f n x i).length ≤ b := fun i => by
  unfold Bt.upd
  split
  · exact hx
  · exact h i
theorem acc_book {wc w14 : World} {Bk N : Nat} {V : Nat → Value} {ls : Nat → List Nat} (hA : Acc wc w14 N V ls) (hk : Kept [] wc w14) (hB : Bk < wc.heap.size) (hN0 : 0 < N) (hN : N ≤ 100) (hl : ∀ i, (ls i).length ≤ 1000000000) :
    (∀ k, k < N → ∀ u, BkP w14 u Bk k V ls → Calls Tryd.prog 20 #[.pointer (some ⟨Bk, 0, none⟩), V k] u fun e u' => e = .returned (.tuple #[]) ∧ BkP w14 u' Bk (k + 1) V ls) ∧
    ∀ u, BkP w14 u Bk N V ls → Calls Tryd.prog 21 #[.pointer (some ⟨Bk, 0, none⟩)] u fun e u' => e = .returned (.bool true) ∧ Bt.Kept [Bk] wc u' := by
  refine ⟨fun k hkN u hb => bkp_keep w14 u Bk k V ls hb (hA k hkN).1 (fun e => ?_) (hA k hkN).2.2 (by omega) (Nat.le_trans (hl k) (by decide)), fun u hb => bkp_ends wc w14 u Bk N V ls hb (kept_to hk) hN0 hN (fun i => Nat.le_trans (hl i) (by decide)) (fun i hi => (hA i hi).2.1)⟩
  have := (hA k hkN).2.1 Bk e
  omega
theorem pkB_len (v : Bool) (W H D : Int) (A : Bool) (n : Nat) (ln : Nat → Nat) (F : Nat → Nat → Nat) (hF : ∀ i j, F i j < 65536) : (pkB v W H D A n ln F).length ≤ 1000000000 := by
  by_cases hE : vE W H D A n ln F = 0
  · by_cases h0 : pkE v W H D A n ln F = 0
    · have hV := vE_zero.1 hE
      have hs := hV.shp
      obtain ⟨h, rfl⟩ : ∃ h : Nat, H = (h : Int) := ⟨H.toNat, by have := hs.2.1; omega⟩
      have hh : 1 ≤ h ∧ h ≤ 4096 := by have := hs.2.1; omega
      have hl : ∀ p, p < n → ln p = wdN W p * h := fun i hi => by
        have := hV.len i hi
        rw [← (wdN_ok hs i).2.2] at this
        exact_mod_cast this
      cases v with
      | false =>
        have eb : pkB false W (h : Int) D A n ln F = dpl n ln F := by
          unfold pkB; rw [if_pos h0, ← ctN_dpl hh.1 hF hl, hV.num]; rfl
        rw [eb]
        have h1 := dpl_len (n := n) (ln := ln) (F := F) (b := 16777216) (fun p hp => by
          rw [hl p hp]
          have := Nat.mul_le_mul (wdN_ok hs p).2.1 hh.2
          omega)
        have h2 : n ≤ 4 := by rw [hV.num]; exact np_hi A
        have h3 := Nat.mul_le_mul_right (2 * 16777216) h2
        omega
      | true =>
        have eb : pkB true W (h : Int) D A n ln F = (List.range (h * v2L W 0)).map (obF W F 3 0) := by
          rw [obF_list]; unfold pkB; rw [if_pos h0]; rfl
        rw [eb, List.length_map, List.length_range]
        have h1 := (v2L_hi hs.1.1 hs.1.2).1
        have := Nat.mul_le_mul hh.2 h1
        omega
    · unfold pkB; rw [if_neg h0]; simp
  · have h0 : pkE v W H D A n ln F ≠ 0 := by unfold pkE; rw [if_neg hE]; exact hE
    unfold pkB; rw [if_neg h0]; simp

set_option maxHeartbeats 16000000 in
set_option maxRecDepth 1000000 in
/-- PixelPacks of any frame. -/
theorem pixelPacks_any (W H D : Int) (A : Bool) (po : Option Addr) (n c : Nat) (ln : Nat → Nat) (F : Nat → Nat → Nat) (w : World) (hT : Tab w) (hr : Pl w po n ln F) (hF : ∀ i j, F i j < 65536) (hZ : ∀ i j, ¬ (i < n ∧ j < ln i) → F i j = 0) (hn : n ≤ 1048576) (hln : ∀ i, i < n → ln i ≤ 1048576) :
    Calls Tryd.prog 5 #[frv W H D A po n c] w fun e w' => e = .returned (.bool true) ∧ Kept [] w w' := by
  have HLN := Hid.mk hln
  have HN := Hid.mk hn
  have HF := Hid.mk hF
  have HZ := Hid.mk hZ
  have HT := Hid.mk hT
  have HR := Hid.mk hr
  have hn2 : n ≤ 9223372036854775807 := by omega
  have hl2 : ∀ i, i < n → ln i ≤ 9223372036854775807 := fun i hi => by have := hln i hi; omega
  have CD : Hid (∀ (v : Bool) (u : World), Kept [] w u → Calls Tryd.prog (if v = true then 19 else 18) #[frv W H D A po n c] u fun e u' => ∃ V, e = .returned (.tuple #[V, .int .i64 (pkE v W H D A n ln F)]) ∧ Rds u' V (pkB v W H D A n ln F) ∧ Kept [] u u') := Hid.mk (fun v u hk => rpk_any v W H D A po n c ln F u (hr.keep hk) hF hZ hn2 hl2)
  obtain ⟨E1, hE1⟩ : ∃ E1, pkE false W H D A n ln F = E1 := ⟨_, rfl⟩
  obtain ⟨E2, hE2⟩ : ∃ E2, pkE true W H D A n ln F = E2 := ⟨_, rfl⟩
  obtain ⟨B1, hB1⟩ : ∃ B1, pkB false W H D A n ln F = B1 := ⟨_, rfl⟩
  obtain ⟨B2, hB2⟩ : ∃ B2, pkB true W H D A n ln F = B2 := ⟨_, rfl⟩
  have CD1 : Hid (∀ (u : World), Kept [] w u → Calls Tryd.prog 18 #[frv W H D A po n c] u fun e u' => ∃ V, e = .returned (.tuple #[V, .int .i64 E1]) ∧ Rds u' V B1 ∧ Kept [] u u') := Hid.mk (fun u hk => by have := CD.out false u hk; rw [hE1, hB1] at this; exact this)
  have CD2 : Hid (∀ (u : World), Kept [] w u → Calls Tryd.prog 19 #[frv W H D A po n c] u fun e u' => ∃ V, e = .returned (.tuple #[V, .int .i64 E2]) ∧ Rds u' V B2 ∧ Kept [] u u') := Hid.mk (fun u hk => by have := CD.out true u hk; rw [hE2, hB2] at this; exact this)
  have HLB : Hid (B1.length ≤ 1000000000 ∧ B2.length ≤ 1000000000) := Hid.mk ⟨by rw [← hB1]; exact pkB_len _ _ _ _ _ _ _ _ hF, by rw [← hB2]; exact pkB_len _ _ _ _ _ _ _ _ hF⟩
  have HEB := Hid.mk (And.intro hE1 (And.intro hE2 (And.intro hB1 hB2)))
  have hB := heap_alloc_new w (.cells #[.int .i64 W, .int .i64 H, .int .i64 D, .bool A, .slice po n c] 31)
  have hk0 := alloc_kept w (.cells #[.int .i64 W, .int .i64 H, .int .i64 D, .bool A, .slice po n c] 31)
  obtain ⟨wa, ewa⟩ : ∃ wa, wa = w.alloc (.cells #[.int .i64 W, .int .i64 H, .int .i64 D, .bool A, .slice po n c] 31) := ⟨_, rfl⟩
  rw [← ewa] at hB hk0
  obtain ⟨fb, efb⟩ : ∃ fb, fb = w.heap.size := ⟨_, rfl⟩
  rw [← efb] at hB
  have HFB := Hid.mk (And.intro hB (And.intro hk0 efb))
  clear hB hk0 hr hF hZ hln CD hE1 hE2 hB1 hB2 hT hn2 hl2
  go_enter Tryd.func5, Tryd.ntmps5
  go_wp2_with (fail)
  rw [← ewa, ← efb]
  clear ewa efb
  refine (alive_any _ (HT.out.keep HFB.out.2.1 (by simp))).mono ?_
  rintro e u1 ⟨rfl, hk1⟩
  have hq := heap_alloc_new u1 (.cells #[.slice none 0 0, .slice none 0 0] 35)
  have hqk := alloc_kept u1 (.cells #[.slice none 0 0, .slice none 0 0] 35)
  obtain ⟨u2, eu2⟩ : ∃ u2, u2 = u1.alloc (.cells #[.slice none 0 0, .slice none 0 0] 35) := ⟨_, rfl⟩
  rw [← eu2] at hq hqk
  obtain ⟨Bk, eBk⟩ : ∃ Bk, Bk = u1.heap.size := ⟨_, rfl⟩
  rw [← eBk] at hq
  have HBk := Hid.mk (And.intro hq (And.intro eBk (lt_of_block (hk1.heap HFB.out.1 (by simp)))))
  have HK2 := Hid.mk ((HFB.out.2.1.trans hk1).trans hqk)
  have hf2 := (hk1.trans hqk).heap HFB.out.1 (by simp)
  have Hf2 := Hid.mk hf2
  obtain ⟨⟨p0, p1, p2, p3, p4⟩, _⟩ := five hf2
  have EU2 := Hid.mk (And.intro eu2 eBk)
  rw [eu2] at p0 p1 p2 p3 p4
  clear hq hqk hk1 hf2 eu2 eBk
  go_wp2_with (fail)
  rw [← EU2.out.1, ← EU2.out.2]
  clear p0 p1 p2 p3 p4
  refine (lentFrame_any W H D A po n c ln F u2 (HR.out.keep HK2.out) HN.out HLN.out).mono ?_
  rintro e u3 ⟨G, gs, rfl, hL, hG, hk3⟩
  have hc3 := heap_alloc_new u3 (.cells #[.int .i64 W, .int .i64 H, .int .i64 D, .bool A, .slice (some ⟨G, 0, none⟩) n (n + 3)] 31)
  have hck := alloc_kept u3 (.cells #[.int .i64 W, .int .i64 H, .int .i64 D, .bool A, .slice (some ⟨G, 0, none⟩) n (n + 3)] 31)
  obtain ⟨wc, ewc⟩ : ∃ wc, wc = u3.alloc (.cells #[.int .i64 W, .int .i64 H, .int .i64 D, .bool A, .slice (some ⟨G, 0, none⟩) n (n + 3)] 31) := ⟨_, rfl⟩
  obtain ⟨cb, ecb⟩ : ∃ cb, cb = u3.heap.size := ⟨_, rfl⟩
  rw [← ewc] at hc3 hck
  rw [← ecb] at hc3
  have HC := Hid.mk (And.intro hc3 (And.intro ecb (And.intro (Nat.lt_of_lt_of_le (lt_of_block HBk.out.1) hG) (lt_of_block hL.box))))
  have HGS : Hid (∀ i, i < n + 3 → gs i < cb) := Hid.mk (fun i hi => by rw [ecb]; exact (hL.row i hi).lt)
  have HL := Hid.mk (hL.keep hck)
  have HKC := Hid.mk ((HK2.out.trans hk3).trans hck)
  have HFC := Hid.mk ((hk3.trans hck).heap Hf2.out (by simp))
  have HBC := Hid.mk ((hk3.trans hck).heap HBk.out.1 (by simp))
  have CP : Hid (∀ (v : Bool) (u : World), Kept [] wc u → Calls Tryd.prog (if v = true then 16 else 15) #[frv W H D A (some ⟨G, 0, none⟩) n (n + 3)] u fun e u' => PkC (pkE v W H D A n ln F) (pkB v W H D A n ln F) u e u') := Hid.mk (fun v u hk => pk_any v W H D A (some ⟨G, 0, none⟩) n (n + 3) ln gs (fun _ => 0) (fun i => ln i + 70) F u (HT.out.keep (HKC.out.trans hk) (by simp)) (HL.out.keep hk).b.pq (fun i hi => (HL.out.keep hk).b.rd0 i hi) (fun i _ => by omega) (by have := HN.out; omega) (fun i hi => by have := HLN.out i hi; omega))
  have CP1 : Hid (∀ (u : World), Kept [] wc u → Calls Tryd.prog 15 #[frv W H D A (some ⟨G, 0, none⟩) n (n + 3)] u fun e u' => PkC E1 B1 u e u') := Hid.mk (fun u hk => by have := CP.out false u hk; rw [HEB.out.1, HEB.out.2.2.1] at this; exact this)
  have CP2 : Hid (∀ (u : World), Kept [] wc u → Calls Tryd.prog 16 #[frv W H D A (some ⟨G, 0, none⟩) n (n + 3)] u fun e u' => PkC E2 B2 u e u') := Hid.mk (fun u hk => by have := CP.out true u hk; rw [HEB.out.2.1, HEB.out.2.2.2] at this; exact this)
  obtain ⟨⟨p0, p1, p2, p3, p4⟩, _⟩ := five hc3
  have EWC := Hid.mk (And.intro ewc ecb)
  rw [ewc] at p0 p1 p2 p3 p4
  rw [ecb] at p0 p1 p2 p3 p4
  clear hc3 hck hL hG hk3 ewc ecb CP
  go_wp2_with (fail)
  rw [← EWC.out.1, ← EWC.out.2]
  clear p0 p1 p2 p3 p4
  have A0 : Hid (Acc wc wc 0 (fun _ => .slice none 0 0) (fun _ => [])) := Hid.mk (fun i hi => by omega)
  have K0 := Hid.mk (Kept.refl [] wc)
  refine (CP1.out _ K0.out).mono ?_

  rintro e v1 ⟨V1, rfl, hl, hf, hk⟩
  have A1 := Hid.mk (A0.out.step K0.out (Kept.refl _ _) hl hf hk)
  have K1 := Hid.mk (K0.out.trans hk)
  obtain ⟨⟨p0, p1, p2, p3, p4⟩, _⟩ := five ((K1.out).heap HC.out.1 (by simp))
  clear hl hf hk
  go_wp2_with (fail)
  clear p0 p1 p2 p3 p4
  refine (CP1.out _ K1.out).mono ?_
  rintro e v2 ⟨V2, rfl, hl, hf, hk⟩
  have A2 := Hid.mk (A1.out.step K1.out (Kept.refl _ _) hl hf hk)
  have K2 := Hid.mk (K1.out.trans hk)
  obtain ⟨⟨p0, p1, p2, p3, p4⟩, _⟩ := five ((K2.out).heap HC.out.1 (by simp))
  clear hl hf hk
  go_wp2_with (fail)
  clear p0 p1 p2 p3 p4
  refine (CP2.out _ K2.out).mono ?_
  rintro e v3 ⟨V3, rfl, hl, hf, hk⟩
  have A3 := Hid.mk (A2.out.step K2.out (Kept.refl _ _) hl hf hk)
  have K3 := Hid.mk (K2.out.trans hk)
  obtain ⟨⟨p0, p1, p2, p3, p4⟩, _⟩ := five ((K3.out).heap HC.out.1 (by simp))
  clear hl hf hk
  go_wp2_with (fail)
  clear p0 p1 p2 p3 p4
  refine (CP2.out _ K3.out).mono ?_
  rintro e v4 ⟨V4, rfl, hl, hf, hk⟩
  have A4 := Hid.mk (A3.out.step K3.out (Kept.refl _ _) hl hf hk)
  have K4 := Hid.mk (K3.out.trans hk)
  obtain ⟨⟨p0, p1, p2, p3, p4⟩, _⟩ := five ((K4.out).heap HC.out.1 (by simp))
  clear hl hf hk
  go_wp2_with (fail)
  clear p0 p1 p2 p3 p4
  refine (tiny_any _).mono ?_
  rintro e t5 ⟨tg, rfl, htg, hk⟩
  have KT5 := Hid.mk (K4.out.trans hk)
  have AT5 := Hid.mk (A4.out.keep hk)
  have HTG := Hid.mk htg
  clear htg hk
  go_wp2_with (fail)
  refine (tiny_pk false _ tg (HT.out.keep (HKC.out.trans KT5.out) (by simp)) HTG.out).mono ?_
  rintro e v5 ⟨V5, rfl, hl, hf, hk⟩
  have A5 := Hid.mk (AT5.out.step KT5.out (Kept.refl _ _) hl hf hk)
  have K5 := Hid.mk (KT5.out.trans hk)
  obtain ⟨⟨p0, p1, p2, p3, p4⟩, _⟩ := five ((K5.out).heap HC.out.1 (by simp))
  clear hl hf hk HTG
  go_wp2_with (fail)
  clear p0 p1 p2 p3 p4
  refine (tiny_any _).mono ?_
  rintro e t6 ⟨tg, rfl, htg, hk⟩
  have KT6 := Hid.mk (K5.out.trans hk)
  have AT6 := Hid.mk (A5.out.keep hk)
  have HTG := Hid.mk htg
  clear htg hk
  go_wp2_with (fail)
  refine (tiny_pk true _ tg (HT.out.keep (HKC.out.trans KT6.out) (by simp)) HTG.out).mono ?_
  rintro e v6 ⟨V6, rfl, hl, hf, hk⟩
  have A6 := Hid.mk (AT6.out.step KT6.out (Kept.refl _ _) hl hf hk)
  have K6 := Hid.mk (KT6.out.trans hk)
  obtain ⟨⟨p0, p1, p2, p3, p4⟩, _⟩ := five ((K6.out).heap HC.out.1 (by simp))
  clear hl hf hk HTG
  go_wp2_with (fail)
  clear p0 p1 p2 p3 p4
  refine (CP1.out _ K6.out).mono ?_
  rintro e v7 ⟨V7, rfl, hl, hf, hk⟩
  have A7 := Hid.mk (A6.out.step K6.out (Kept.refl _ _) hl hf hk)
  have K7 := Hid.mk (K6.out.trans hk)
  obtain ⟨⟨p0, p1, p2, p3, p4⟩, _⟩ := five ((K7.out).heap HC.out.1 (by simp))
  clear hl hf hk
  go_wp2_with (fail)
  clear p0 p1 p2 p3 p4
  refine (CP2.out _ K7.out).mono ?_
  rintro e v8 ⟨V8, rfl, hl, hf, hk⟩
  have A8 := Hid.mk (A7.out.step K7.out (Kept.refl _ _) hl hf hk)
  have K8 := Hid.mk (K7.out.trans hk)
  obtain ⟨⟨p0, p1, p2, p3, p4⟩, _⟩ := five ((K8.out).heap HFC.out (by simp))
  clear hl hf hk
  go_wp2_with (fail)
  clear p0 p1 p2 p3 p4
  refine (CD1.out _ (HKC.out.trans K8.out)).mono ?_
  rintro e v9 ⟨V9, rfl, hr9, hk9⟩
  have HR9 := Hid.mk hr9
  have HK9 := Hid.mk hk9
  have K9 := Hid.mk (K8.out.trans hk9)
  obtain ⟨⟨p0, p1, p2, p3, p4⟩, _⟩ := five ((K9.out).heap HFC.out (by simp))
  clear hr9 hk9
  go_wp2_with (fail)
  clear p0 p1 p2 p3 p4
  refine (CD2.out _ (HKC.out.trans K9.out)).mono ?_
  rintro e v10 ⟨V10, rfl, hr10, hk10⟩
  have K10 := Hid.mk (K9.out.trans hk10)
  have hk89 := HK9.out.trans hk10
  have AA := Hid.mk (A8.out.keep hk89)
  obtain ⟨ao5, e5, _⟩ := (AA.out 4 (by omega)).1.reads
  obtain ⟨ao6, e6, _⟩ := (AA.out 5 (by omega)).1.reads
  have e5' : V5 = .slice ao5 (LT false).length (LT false).length := e5
  have e6' : V6 = .slice ao6 (LT true).length (LT true).length := e6
  rw [LT_len] at e5' e6'
  have e5'' : V5 = .slice ao5 6 6 := e5'
  have e6'' : V6 = .slice ao6 128 128 := e6'
  clear e5 e6 e5' e6'
  subst e5''
  subst e6''
  have s1 : Sem.run Tryd.prog (convert 37 9 V1) v10 = .ok (.string (Bt.bstr B1)) v10 := (AA.out 0 (by omega)).1.str
  have s2 : Sem.run Tryd.prog (convert 37 9 V2) v10 = .ok (.string (Bt.bstr B1)) v10 := (AA.out 1 (by omega)).1.str
  have s3 : Sem.run Tryd.prog (convert 37 9 V3) v10 = .ok (.string (Bt.bstr B2)) v10 := (AA.out 2 (by omega)).1.str
  have s4 : Sem.run Tryd.prog (convert 37 9 V4) v10 = .ok (.string (Bt.bstr B2)) v10 := (AA.out 3 (by omega)).1.str
  have s7 : Sem.run Tryd.prog (convert 37 9 V7) v10 = .ok (.string (Bt.bstr B1)) v10 := (AA.out 6 (by omega)).1.str
  have s8 : Sem.run Tryd.prog (convert 37 9 V8) v10 = .ok (.string (Bt.bstr B2)) v10 := (AA.out 7 (by omega)).1.str
  have s9 : Sem.run Tryd.prog (convert 37 9 V9) v10 = .ok (.string (Bt.bstr B1)) v10 := (HR9.out.keep hk10).str
  have s10 : Sem.run Tryd.prog (convert 37 9 V10) v10 = .ok (.string (Bt.bstr B2)) v10 := hr10.str
  clear hr10 hk10 hk89 HR9 A0 A1 A2 A3 A4 A5 A6 A7 A8 AT5 AT6 KT5 KT6 K1 K2 K3 K4 K5 K6 K7 K8
  go_wp2_with (fail)
  clear s1 s2 s3 s4 s7 s8 s9 s10
  have hBw : Hid (Bk < wc.heap.size ∧ w.heap.size ≤ Bk ∧ fb < Bk ∧ Bk < G ∧ Bk ≠ cb) := Hid.mk ⟨lt_of_block HBC.out, by have := HBk.out.2; have := HFB.out.2.2; omega, by have := HBk.out.2; omega, HC.out.2.2.1, by have := HC.out.2; omega⟩
  have CK := Hid.mk (acc_book (Bk := Bk) AA.out K10.out hBw.out.1 (by omega) (by omega) (by
    refine upd_len (upd_len (upd_len (upd_len (upd_len (upd_len (upd_len (upd_len (fun _ => by simp) ?_) ?_) ?_) ?_) ?_) ?_) ?_) ?_
    all_goals first | exact HLB.out.1 | exact HLB.out.2 | (rw [LT_len]; decide)))
  refine (CK.out.1 0 (by omega) _ (bkp_new (K10.out.heap HBC.out (by simp)) _ _)).mono ?_
  rintro e b1 ⟨rfl, hP⟩
  have P1 := Hid.mk hP
  clear hP
  go_wp2_with (fail)
  refine (CK.out.1 1 (by omega) _ P1.out).mono ?_
  rintro e b2 ⟨rfl, hP⟩
  have P2 := Hid.mk hP
  clear hP
  go_wp2_with (fail)
  refine (CK.out.1 2 (by omega) _ P2.out).mono ?_
  rintro e b3 ⟨rfl, hP⟩
  have P3 := Hid.mk hP
  clear hP
  go_wp2_with (fail)
  refine (CK.out.1 3 (by omega) _ P3.out).mono ?_
  rintro e b4 ⟨rfl, hP⟩
  have P4 := Hid.mk hP
  clear hP
  go_wp2_with (fail)
  refine (CK.out.1 4 (by omega) _ P4.out).mono ?_
  rintro e b5 ⟨rfl, hP⟩
  have P5 := Hid.mk hP
  clear hP
  go_wp2_with (fail)
  refine (CK.out.1 5 (by omega) _ P5.out).mono ?_
  rintro e b6 ⟨rfl, hP⟩
  have P6 := Hid.mk hP
  clear hP
  go_wp2_with (fail)
  refine (CK.out.1 6 (by omega) _ P6.out).mono ?_
  rintro e b7 ⟨rfl, hP⟩
  have P7 := Hid.mk hP
  clear hP
  go_wp2_with (fail)
  refine (CK.out.1 7 (by omega) _ P7.out).mono ?_
  rintro e b8 ⟨rfl, hP⟩
  have P8 := Hid.mk hP
  clear hP
  go_wp2_with (fail)
  refine (CK.out.2 _ P8.out).mono ?_
  rintro e uE ⟨rfl, hkE⟩
  have KE := Hid.mk (kept_of hkE)
  obtain ⟨⟨p0, p1, p2, p3, p4⟩, _⟩ := five (KE.out.heap HC.out.1 (by simpa using Ne.symm hBw.out.2.2.2.2))
  obtain ⟨⟨q0, q1, q2, q3, q4⟩, _⟩ := five (KE.out.heap HFC.out (by have := hBw.out; simp; omega))
  have KW := Hid.mk (HKC.out.step KE.out (fun z hz => by have := hBw.out; simp at hz; subst hz; exact .inr this.2.1))
  have LE := Hid.mk (HL.out.kept KE.out (fun x hx => by have := hBw.out; simp at hx; omega))
  clear hkE P1 P2 P3 P4 P5 P6 P7 P8 CK AA
  go_wp2_with (fail)
  clear p0 p1 p2 p3 p4 q0 q1 q2 q3 q4
  refine (backFrame_any W H D A G gs po n c ln F w uE LE.out HR.out (fun i _ j _ => HF.out i j) (by have := hBw.out; omega) KW.out HN.out HLN.out).mono ?_
  rintro e uB ⟨rfl, hLB, hkB, hfar⟩
  have HCB := Hid.mk (hfar cb _ (fun i hi => by have := HGS.out i hi; omega) (KE.out.heap HC.out.1 (by simpa using Ne.symm hBw.out.2.2.2.2)))
  have HKB := Hid.mk hkB
  have HLBx := Hid.mk hLB
  have hn2 : n ≤ 9223372036854775807 := by have := HN.out; omega
  have hl2 : ∀ i, i < n → ln i ≤ 9223372036854775807 := fun i hi => by have := HLN.out i hi; omega
  have hF' : ∀ i j, bxF n ln F i j < 65536 := fun i j => by unfold bxF; split; exact x85_lt (HF.out i j); decide
  have hZ' : ∀ i j, ¬ (i < n ∧ j < ln i) → bxF n ln F i j = 0 := fun i j h => by unfold bxF; rw [if_neg h]
  have CP : Hid (∀ (v : Bool) (u : World), Kept [] uB u → Calls Tryd.prog (if v = true then 16 else 15) #[frv W H D A (some ⟨G, 0, none⟩) n (n + 3)] u fun e u' => PkC (pkE v W H D A n ln (bxF n ln F)) (pkB v W H D A n ln (bxF n ln F)) u e u') := Hid.mk (fun v u hk => pk_any v W H D A (some ⟨G, 0, none⟩) n (n + 3) ln gs (fun _ => 0) (fun i => ln i + 70) (bxF n ln F) u (HT.out.keep (HKB.out.trans hk) (by simp)) (HLBx.out.keep hk).pq (fun i hi => (HLBx.out.keep hk).rdN i hi) (fun i _ => by omega) hn2 hl2)
  have CR : Hid (∀ (v : Bool) (u : World), Kept [] uB u → Calls Tryd.prog (if v = true then 19 else 18) #[frv W H D A (some ⟨G, 0, none⟩) n (n + 3)] u fun e u' => ∃ V, e = .returned (.tuple #[V, .int .i64 (pkE v W H D A n ln (bxF n ln F))]) ∧ Rds u' V (pkB v W H D A n ln (bxF n ln F)) ∧ Kept [] u u') := Hid.mk (fun v u hk => rpk_any v W H D A (some ⟨G, 0, none⟩) n (n + 3) ln (bxF n ln F) u (pl_of (HLBx.out.keep hk).pq (fun i hi => (HLBx.out.keep hk).rdN i hi)) hF' hZ' hn2 hl2)
  obtain ⟨E3, hE3⟩ : ∃ E3, pkE false W H D A n ln (bxF n ln F) = E3 := ⟨_, rfl⟩
  obtain ⟨E4, hE4⟩ : ∃ E4, pkE true W H D A n ln (bxF n ln F) = E4 := ⟨_, rfl⟩
  obtain ⟨B3, hB3⟩ : ∃ B3, pkB false W H D A n ln (bxF n ln F) = B3 := ⟨_, rfl⟩
  obtain ⟨B4, hB4⟩ : ∃ B4, pkB true W H D A n ln (bxF n ln F) = B4 := ⟨_, rfl⟩
  have CR3 : Hid (∀ (u : World), Kept [] uB u → Calls Tryd.prog 18 #[frv W H D A (some ⟨G, 0, none⟩) n (n + 3)] u fun e u' => ∃ V, e = .returned (.tuple #[V, .int .i64 E3]) ∧ Rds u' V B3 ∧ Kept [] u u') := Hid.mk (fun u hk => by have := CR.out false u hk; rw [hE3, hB3] at this; exact this)
  have CR4 : Hid (∀ (u : World), Kept [] uB u → Calls Tryd.prog 19 #[frv W H D A (some ⟨G, 0, none⟩) n (n + 3)] u fun e u' => ∃ V, e = .returned (.tuple #[V, .int .i64 E4]) ∧ Rds u' V B4 ∧ Kept [] u u') := Hid.mk (fun u hk => by have := CR.out true u hk; rw [hE4, hB4] at this; exact this)
  have CP3 : Hid (∀ (u : World), Kept [] uB u → Calls Tryd.prog 15 #[frv W H D A (some ⟨G, 0, none⟩) n (n + 3)] u fun e u' => PkC E3 B3 u e u') := Hid.mk (fun u hk => by have := CP.out false u hk; rw [hE3, hB3] at this; exact this)
  have CP4 : Hid (∀ (u : World), Kept [] uB u → Calls Tryd.prog 16 #[frv W H D A (some ⟨G, 0, none⟩) n (n + 3)] u fun e u' => PkC E4 B4 u e u') := Hid.mk (fun u hk => by have := CP.out true u hk; rw [hE4, hB4] at this; exact this)
  obtain ⟨⟨p0, p1, p2, p3, p4⟩, _⟩ := five HCB.out
  clear CP CR hE3 hE4 hB3 hB4 hLB hkB hfar hn2 hl2 hF' hZ'
  go_wp2_with (fail)
  clear p0 p1 p2 p3 p4
  refine (CR3.out _ (Kept.refl _ _)).mono ?_
  rintro e x1 ⟨X1, rfl, hr1, hk1⟩
  have R1 := Hid.mk hr1
  have J1 := Hid.mk hk1
  obtain ⟨⟨p0, p1, p2, p3, p4⟩, _⟩ := five (hk1.heap HCB.out (by simp))
  clear hr1 hk1
  go_wp2_with (fail)
  clear p0 p1 p2 p3 p4
  refine (CR4.out _ J1.out).mono ?_
  rintro e x2 ⟨X2, rfl, hr2, hk2⟩
  have R1' := Hid.mk (R1.out.keep hk2)
  have R2 := Hid.mk hr2
  have J2 := Hid.mk (J1.out.trans hk2)
  obtain ⟨⟨p0, p1, p2, p3, p4⟩, _⟩ := five (J2.out.heap HCB.out (by simp))
  clear hr2 hk2 R1
  go_wp2_with (fail)
  clear p0 p1 p2 p3 p4
  refine (CP3.out _ J2.out).mono ?_
  rintro e x3 ⟨X3, rfl, hl3, _, hk3⟩
  have R31 := Hid.mk (R1'.out.keep hk3)
  have R32 := Hid.mk (R2.out.keep hk3)
  have R33 := Hid.mk hl3
  have J3 := Hid.mk (J2.out.trans hk3)
  obtain ⟨⟨p0, p1, p2, p3, p4⟩, _⟩ := five (J3.out.heap HCB.out (by simp))
  clear hl3 hk3 R1' R2
  go_wp2_with (fail)
  clear p0 p1 p2 p3 p4
  refine (CP4.out _ J3.out).mono ?_
  rintro e x4 ⟨X4, rfl, hl4, _, hk4⟩
  have s1 := (R31.out.keep hk4).str
  have s2 := (R32.out.keep hk4).str
  have s3 := (R33.out.keep (kept_to hk4)).str
  have s4 := hl4.str
  have JF := Hid.mk ((HKB.out.trans J3.out).trans hk4)
  clear hl4 hk4 R31 R32 R33
  go_wp2_with (fail)
  go_ret
  exact ⟨by simp, JF.out⟩
end Go.Proofs.YtodlkpcbkilglaaDoor
