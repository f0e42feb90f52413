import Derived.Test.YtmgfapooanpgfaaRe
namespace Go.Proofs.Ytmgfapooanpgfaa
open Go.RowKit

set_option maxHeartbeats 8000000 in
set_option maxRecDepth 1000000 in
theorem fill_any (G B gg gf n p : Nat) (go : Nat → Bool) (ln Z0 : Nat → Nat) (A X Y : Nat → Nat → Nat) (w : World) (hCt : Ct w G B (n + p) ln Z0) (hCn : Cn Z0 ln (n + p) A) (hZ0 : ∀ q, Z0 q < 256) (hln : ∀ i, ln i ≤ 16777216) (hA0 : ∀ i x, ln i ≤ x → A i x = 0) (hA1 : ∀ i x, go i = true → A i x = 0) (hA2 : ∀ i x, A i x < 256)
    (hgt : gt (lR go n).length (fn (mf (uF go n p) (lR go n).length (lR go n).length)) (fn (mf (kF go n p) (lR go n).length (n + p))) (lR go n).length = some (X, Y)) (hn : n ≤ 200) (hp : p ≤ 16) (hV : Vr w gg 4 (n + p) (vB go)) (hF : Fac w gf p n) (hc : cnt go (n + p) ≤ p) :
    Calls Try.prog 36 #[.slice (some ⟨G, 0, none⟩) (n + p) (n + p), .slice (some ⟨gg, 0, none⟩) (n + p) (n + p), .slice (some ⟨gf, 0, none⟩) p p] w fun e w' => e = .returned (.tuple #[]) ∧ ∃ Z, Row w' B (rg Z (ofs ln (n + p))) ∧ Cn Z ln (n + p) (fun j x => if j < n ∧ go j = true then eF go n p Y A j x else A j x) ∧ (∀ q, Z q < 256) ∧ Kept [B] w w' := by
  obtain ⟨i0, hi, hz0, hz1, hz2⟩ := info_parts Try.info5
  have HCt := Hid.mk hCt
  have HCn := Hid.mk hCn
  have HZ0 := Hid.mk hZ0
  have Hln := Hid.mk hln
  have HA0 := Hid.mk hA0
  have HA1 := Hid.mk hA1
  have HA2 := Hid.mk hA2
  have HG9 := Hid.mk hgt
  clear hCt hCn hZ0 hln hA0 hA1 hA2 hgt
  obtain ⟨j0, gi, gz0, gz1, gz2⟩ := info_parts Try.infoR
  have hsub : ((n + p : Nat) : Int) - (p : Int) = (n : Int) := by omega
  have hs1 : Sv w (some ⟨gg, 0, none⟩) n (vB go) := .inr ⟨gg, 0, rfl, fun i hi => by rw [Nat.zero_add]; exact hV.at (by omega)⟩
  have hs2 : Sv w (if p = 0 then some ⟨gg, 0, none⟩ else some ⟨gg, n, none⟩) p (vB (fun i => go (n + i))) := by
    by_cases h : p = 0
    · exact .inl h
    · rw [if_neg h]; exact .inr ⟨gg, n, rfl, fun i hi => hV.at (by omega)⟩
  have C1 := Hid.mk (numbers_any (some ⟨gg, 0, none⟩) n (n + p) n go true w hs1 (by omega) (by omega))
  have C2 := Hid.mk (fun w1 (hk : Kept [] w w1) => numbers_any (if p = 0 then some ⟨gg, 0, none⟩ else some ⟨gg, n, none⟩) p p (lR go n).length (fun i => go (n + i)) false w1 (hs2.keep hk) (by omega) (by rw [lR_len]; have := cnt_le go n; omega))
  rw [show nm go true n n = lR go n from rfl] at C1
  rw [show nm (fun i => go (n + i)) false (lR go n).length p = lU go n p from rfl, lU_len hc] at C2
  have hrr : (lR go n).length ≤ 200 := by rw [lR_len]; have := cnt_le go n; omega
  obtain ⟨r, er⟩ : ∃ r, r = (lR go n).length := ⟨_, rfl⟩
  rw [← er] at C1 C2 hrr
  have ER := Hid.mk er
  clear er hs1 hs2
  obtain ⟨mkW, hmk, hmw⟩ := make_rows r (by omega)
  have HMW := Hid.mk hmw
  clear hmw
  go_enter Try.func36, Try.ntmps36
  go_upto_region 3 with (first | (go_at_call_of 52 r; refine (C2.out _ hk1).mono ?_; rintro e w2 ⟨uo, cu, rfl, hu2, hk2⟩) | (go_at_call_of 52 n; refine C1.out.mono ?_; rintro e w1 ⟨lo, cl, rfl, hl1, hk1⟩))
  obtain ⟨mo, emo⟩ : ∃ mo, mo = (if p = 0 then some (⟨gg, 0, none⟩ : Addr) else some ⟨gg, n, none⟩) := ⟨_, rfl⟩
  try rw [← emo]
  clear emo C1 C2
  go_cut [9, 10] (fun a b wc => ∃ gu gk, a = .slice (some ⟨gu, 0, none⟩) r r ∧ b = .slice (some ⟨gk, 0, none⟩) r r ∧ Vr wc gu 40 r (fun _ => .slice none 0 0) ∧ Vr wc gk 40 r (fun _ => .slice none 0 0) ∧ gu ≠ gk ∧ w2.heap.size ≤ gu ∧ w2.heap.size ≤ gk ∧ Kept [] w2 wc)
  case first =>
    go_region_law (fail)
    all_goals go_wp2
    all_goals go_meet
    · have a := HMW.out w2.drew
      have b := HMW.out (mkW w2.drew)
      exact ⟨_, _, rfl, rfl, a.1.keep b.2 (by simp), b.1, by have := a.1.lt; show w2.drew.heap.size ≠ _; omega, Nat.le_refl _, a.2.size, (a.2.trans b.2).undrew⟩
    · have a := HMW.out w2.drew
      have b := HMW.out (mkW w2.drew)
      exact ⟨_, _, rfl, rfl, b.1, a.1.keep b.2 (by simp), by have := a.1.lt; show _ ≠ w2.drew.heap.size; omega, a.2.size, Nat.le_refl _, (a.2.trans b.2).undrew⟩
  case rest =>
    obtain ⟨gu, gk, rfl, rfl, hvu, hvk, hne, hgu, hgk, hkc⟩ := hcut
    have HL2 : Hid (RdI w2 lo (fun t => ((lR go n).getD t 0 : Int)) r) := Hid.mk (hl1.keep hk2)
    have HU2 : Hid (RdI w2 uo (fun t => ((lU go n p).getD t 0 : Int)) r) := Hid.mk hu2
    have HF2 : Hid (Fac w2 gf p n) := Hid.mk (hF.keep (hk1.trans hk2))
    have HW2 : Hid (Kept [] w w2) := Hid.mk (hk1.trans hk2)
    have HG : Hid (gu ≠ gk ∧ w2.heap.size ≤ gu ∧ w2.heap.size ≤ gk) := Hid.mk ⟨hne, hgu, hgk⟩
    have HB0 : Hid (Bld wc gu gk r (n + p) 0 (uF go n p) (kF go n p) (fun _ => .slice none 0 0) (fun _ => .slice none 0 0)) := Hid.mk ⟨hvu, hvk, fun t h => by omega, fun t h => by omega, fun t _ _ => rfl⟩
    have HKc := Hid.mk hkc
    have HRp : Hid (r ≤ p) := Hid.mk (by have := lU_len hc; have := nm_len (fun i => go (n + i)) false (lR go n).length p; have := cnt_le (fun i => go (n + i) == false) p; have := ER.out; unfold lU at *; omega)
    clear hl1 hk1 hk2 hu2 hvu hvk hne hgu hgk hkc hmk HMW hF hV
    go_wp2
    go_loopw [43] (fun i wr => ∃ (k : Nat) (uv kv : Nat → Value), k ≤ r ∧ i = .int .i64 (k : Int) ∧ Bld wr gu gk r (n + p) k (uF go n p) (kF go n p) uv kv ∧ Kept [] w2 wr) (fun i _ => r - (intOf i).toNat)
    case atStart => exact ⟨0, _, _, by omega, rfl, HB0.out, HKc.out⟩
    case round =>
      obtain ⟨k, uv, kv, hk, rfl, hB, hkr⟩ := hrel
      clear HB0 HKc
      by_cases hlt : k < r
      · have hur := HU2.out
        obtain ⟨g1, o1, rfl, hc1'⟩ := HU2.out.at hlt
        have hc1 := cell_keep hkr hc1' (by simp)
        have hup := (lU_at (go := go) (n := n) (p := p) (t := k) (by rw [lU_len hc, ← ER.out]; exact hlt)).1
        have hrp := HRp.out
        have hn0 : 0 < n := by
          have := (lR_at (go := go) (n := n) (t := k) (by rw [← ER.out]; exact hlt)).1
          omega
        obtain ⟨u, eu⟩ : ∃ u, u = (lU go n p).getD k 0 := ⟨_, rfl⟩
        rw [← eu] at hc1 hup
        have Eu := Hid.mk eu
        obtain ⟨fo, cfo, hf1', hf2'⟩ := HF2.out u hup
        have hf1 := cell_keep hkr hf1' (by simp)
        have hf2 := hf2'.keep hkr
        obtain ⟨gkv, hgkc⟩ : ∃ v, wr.cell? ⟨gk, k, none⟩ = some v := ⟨_, hB.vk.at hlt⟩
        have HBr := Hid.mk hB
        have Hkr := Hid.mk hkr
        have ix : (k : Int) < (r : Int) := by omega
        have HMK : Hid (∀ w3, w3.ownsRow 0 5 1 (.slice (some ⟨wr.heap.size, 0, none⟩) (n + p) (n + p)) (n + p) (madeCells (Value.int .u8 0).cells ((n + p) * 1)).toList → wr.grownBy w3 none → w3.cell? ⟨gk, k, none⟩ = some gkv ∧ w3.frozen? ⟨gk, k, none⟩ = false ∧ Row w3 wr.heap.size (rg (fun _ => 0) (n + p)) ∧ Kept [] wr w3) := Hid.mk (fun w3 ho3 hg3 => by
          have hk3 := Kept.of_grown hg3
          have hr3 := row_heap ho3 rfl
          rw [madeBytes, show List.replicate (n + p) (byt 0) = (rg (fun _ => 0) (n + p)).map byt from rg_none _] at hr3
          exact ⟨cell_keep hk3 hgkc (by simp), (HBr.out.vk.keep hk3 (by simp)).fz k, hr3, hk3.mono (by simp)⟩)
        clear hc1' hf1' hf2' hB hkr hur eu
        go_upto_region 8 with (at_make; refine wpList_make_full _ rfl _ _ 40 rfl 0 5 i0 (.int .u8 0) 1 Try.underlying40 hi hz0 hz1 _ _ _ _ (n + p) rfl rfl (by omega) (by omega) (by rw [hz2]; omega) (by unfold maxLen; omega) (by omega) ?_; intro w3 ho3 hg3; obtain ⟨hq1, hq2, hq3, hq4⟩ := HMK.out w3 ho3 hg3; clear ho3 hg3)
        have HW5 : Hid (∀ v, Kept [gk] wr (w3.setCell ⟨gk, k, none⟩ v)) := Hid.mk (fun v => (hq4.mono (by simp)).setCell (p := ⟨gk, k, none⟩) (.inl (by simp)) v)
        have hszk : Hid (wr.heap.size ≠ gk ∧ wr.heap.size ≠ gu) := Hid.mk ⟨by have := HBr.out.vk.lt; omega, by have := HBr.out.vu.lt; omega⟩
        have HR5 : Hid (∀ v, Row (w3.setCell ⟨gk, k, none⟩ v) wr.heap.size (rg (fun _ => 0) (n + p))) := Hid.mk (fun v => hq3.keep ((Kept.refl [gk] w3).setCell (p := ⟨gk, k, none⟩) (.inl (by simp)) v) (by simpa using hszk.out.1))
        have HV5 : Hid (Vr (w3.setCell ⟨gk, k, none⟩ (.slice (some ⟨wr.heap.size, 0, none⟩) (n + p) (n + p))) gk 40 r (fun t => if t = k then .slice (some ⟨wr.heap.size, 0, none⟩) (n + p) (n + p) else kv t)) := Hid.mk ((HBr.out.vk.keep hq4 (by simp)).put (fun _ _ => rfl))
        obtain ⟨bk, ebk⟩ : ∃ bk, bk = wr.heap.size := ⟨_, rfl⟩
        have Ebk := Hid.mk ebk
        rw [← ebk] at hszk HR5 HV5 ⊢
        obtain ⟨w5, ew5⟩ : ∃ w5, w5 = w3.setCell ⟨gk, k, none⟩ (.slice (some ⟨bk, 0, none⟩) (n + p) (n + p)) := ⟨_, rfl⟩
        have K5 := Hid.mk (HW5.out (.slice (some ⟨bk, 0, none⟩) (n + p) (n + p)))
        have R5 := Hid.mk (HR5.out (.slice (some ⟨bk, 0, none⟩) (n + p) (n + p)))
        rw [← ew5] at K5 R5 HV5 ⊢
        clear ew5 HR5 HW5 hq1 hq2 hq3 hq4 ebk HMK hf1 hf2 hgkc hc1
        have HG2 := HG.out
        have K52 : Hid (Kept [] w2 w5) := Hid.mk (Hkr.out.step K5.out (fun x hx => by simp at hx; subst hx; exact .inr HG.out.2.2))
        obtain ⟨fo, cfo, hf1', hf2'⟩ := HF2.out u hup
        have hf1 := cell_keep K52.out hf1' (by simp)
        have hf2 := hf2'.keep K52.out
        have hck := HV5.out.at hlt
        rw [if_pos rfl] at hck
        obtain ⟨w6, hcp, hr6, hk6⟩ := copy_run w5.drew bk (n + p) (n + p) fo n cfo ((rg (fun _ => 0) (n + p)).map byt) ((rg (cf u) n).map byt) (show w5.drew.heap[bk]? = _ from R5.out) (by rw [List.length_map, rg_length]) (by rw [List.length_map, rg_length]) (by omega) (by
          have := reads_src hf2
          rw [rg_length] at this
          exact this) (bytes_one _)
        have R6 : Hid (Row w6 bk (rg (fun j => if j < n then cf u j else 0) (n + p))) := Hid.mk (by
          unfold Row
          rw [hr6, ← List.map_drop, ← List.map_append]
          congr 4
          apply List.ext_getElem?
          intro j
          by_cases hj : j < n + p
          · rw [rg_at _ _ _ hj]
            by_cases h2 : j < n
            · rw [List.getElem?_append_left (by rw [rg_length]; exact h2), rg_at _ _ _ h2, if_pos h2]
            · rw [List.getElem?_append_right (by rw [rg_length]; omega), rg_length, List.getElem?_drop, rg_at _ _ _ (by omega), if_neg h2]
          · rw [List.getElem?_eq_none (by simp [rg_length]; omega), List.getElem?_eq_none (by rw [rg_length]; omega)])
        have K6 : Hid (Kept [bk] w5 w6) := Hid.mk hk6.undrew
        clear hr6 hk6 hf2 hf1' hf2'
        have ixp : (u : Int) < (p : Int) := by omega
        go_cut [11] (fun q wb => q = .int .i64 (k : Int) ∧ Row wb bk (rg (fun j => if j < n then cf u j else 0) (n + p)) ∧ Kept [bk] w5 wb)
        case first =>
          go_region_law (fail)
          all_goals go_wp2
          all_goals go_meet
          all_goals exact ⟨rfl, R6.out, K6.out⟩
        case rest =>
          obtain ⟨rfl, hrb, hkb⟩ := hcut
          have HI0 : Hid (Inn wc wr w2 gu gk r (n + p) k bk uv kv 0 [] (fun j => if j < n then cf u j else 0) (.slice none 0 0)) := Hid.mk (by
            have kk : Kept [bk, gk] wr wc := (K5.out.mono (by simp)).step hkb (fun x hx => by simp at hx; subst hx; exact .inl (by simp))
            have hvu := HBr.out.vu.keep kk (by have := hszk.out.2; have := HG.out.1; simp; omega)
            refine ⟨?_, ⟨rfl, .inl ⟨rfl, rfl⟩⟩, hrb, HV5.out.keep hkb (by simpa using Ne.symm hszk.out.1), kk.mono (fun x hx => by simp at hx; rcases hx with rfl | rfl; exact .inr (by have := Ebk.out; omega); exact .inl (by simp)), K52.out.step hkb (fun x hx => by simp at hx; subst hx; exact .inr (by have := Ebk.out; have := Hkr.out.size; omega))⟩
            unfold Vr at hvu ⊢
            rw [hvu, fl_congr (fun s hs => ?_)]
            by_cases e : s = k
            · rw [if_pos e, e, HBr.out.un k (Nat.le_refl _) hlt]
            · rw [if_neg e])
          clear R6 K6 R5 K5 K52 HV5 hcp hck hf1 hrb hkb
          have hck := HI0.out.vk.at hlt
          rw [if_pos rfl] at hck
          obtain ⟨y0, hy0⟩ : ∃ v, wc.cell? ⟨bk, n + u, none⟩ = some v := ⟨_, HI0.out.rb.at (by rw [rg_length]; omega)⟩
          have hzb := HI0.out.rb.fz (n + u)
          have ixn : ((n : Int) + (u : Int)) < ((n : Int) + (p : Int)) := by omega
          have HW2b : Hid (w2.heap.size ≤ bk) := Hid.mk (by have := Ebk.out; have := Hkr.out.size; omega)
          have HI1 : Hid (∀ v, v = byt 1 → Inn (wc.setCell ⟨bk, n + u, none⟩ v) wr w2 gu gk r (n + p) k bk uv kv 0 [] (kP n u (lR go n) 0) (.slice none 0 0)) := Hid.mk (fun v hv => HI0.out.strike Ebk.out HW2b.out hszk.out.2 hszk.out.1 (fun j => by
            unfold kP
            rw [show stk (lR go n) 0 j = false from rfl]
            by_cases e : j = n + u
            · rw [if_pos e, if_neg (by omega), if_pos e]
            · by_cases h : j < n
              · rw [if_pos h, if_neg e, if_pos h]; rfl
              · rw [if_neg h, if_neg e, if_neg e, if_neg h]) hv)
          clear HI0
          obtain ⟨wo, rfl⟩ : ∃ wo, wo = wr := ⟨_, rfl⟩
          go_wp2
          go_loopw [73] (fun i wr1 => ∃ (t : Nat) (V : Value), t ≤ r ∧ i = .int .i64 (t : Int) ∧ Inn wr1 wo w2 gu gk r (n + p) k bk uv kv t ((rg (uF go n p k) t).map byt) (kP n u (lR go n) t) V) (fun i _ => r - (intOf i).toNat)
          case atStart => exact ⟨0, _, by omega, rfl, HI1.out _ rfl⟩
          case round =>
            obtain ⟨t, V, ht, rfl, hI⟩ := hrel
            clear HI1
            by_cases htl : t < r
            · obtain ⟨g2, o2, rfl, hcl'⟩ := HL2.out.at htl
              have hcl := cell_keep hI.k2 hcl' (by simp)
              have hjn := (lR_at (go := go) (n := n) (t := t) (by rw [← ER.out]; exact htl)).1
              have Hu : Hid (uF go n p k t = cf u ((lR go n).getD t 0)) := Hid.mk (by unfold uF; rw [← Eu.out])
              have HkP := Hid.mk (kP_next n u (lR go n) t hjn)
              obtain ⟨fo, cfo, hf1', hf2'⟩ := HF2.out u hup
              have hf1 := cell_keep hI.k2 hf1' (by simp)
              obtain ⟨gx, ox, hfo, hcx⟩ := (hf2'.keep hI.k2).cell (j := (lR go n).getD t 0) (by rw [rg_length]; exact hjn)
              rw [rg_getD _ _ _ hjn, ← Hu.out] at hcx
              obtain ⟨j, ej⟩ : ∃ j, j = (lR go n).getD t 0 := ⟨_, rfl⟩
              rw [← ej] at hcl hjn HkP hcx
              clear ej
              have hyl := uF_lo go n p k t
              have Hsn := Hid.mk (rg_snoc (uF go n p k) t)
              obtain ⟨y, ey⟩ : ∃ y, y = uF go n p k t := ⟨_, rfl⟩
              rw [← ey] at hcx hyl Hsn
              clear ey Hu
              have hcV := hI.vu.at hlt
              rw [if_pos rfl] at hcV
              have hck := hI.vk.at hlt
              rw [if_pos rfl] at hck
              have hul : gu < wr.heap.size := hI.vu.lt
              have hA : ∀ ob, (wr.drew.alloc ob).cell? ⟨gu, k, none⟩ = some V := fun ob => cell_keep ((Kept.refl [] wr).drew.alloc ob) hcV (by simp)
              have HOA : Hid ((wr.drew.alloc (.cells #[.int .u8 (y : Int)] 5)).ownsRow (bk + 1) 5 1 V t ((rg (uF go n p k) t).map byt)) := Hid.mk ((show wr.drew.ownsRow (bk + 1) 5 1 V t ((rg (uF go n p k) t).map byt) from hI.ow).alloc _)
              have HCA : Hid ((wr.drew.alloc (.cells #[.int .u8 (y : Int)] 5)).cell? ⟨wr.heap.size, 0, none⟩ = some (.int .u8 (y : Int))) := Hid.mk (show (wr.drew.alloc (.cells #[.int .u8 (y : Int)] 5)).cell? ⟨wr.drew.heap.size, 0, none⟩ = some (.int .u8 (y : Int)) from by rw [cell_of_row _ _ _ _ _ _ (heap_alloc_new wr.drew _)]; rfl)
              have HBA : Hid (bk + 1 ≤ (wr.drew.alloc (.cells #[.int .u8 (y : Int)] 5)).heap.size) := Hid.mk (by have := hI.rb.lt; rw [World.size_alloc]; show bk + 1 ≤ wr.heap.size + 1; omega)
              have HI := Hid.mk hI
              have HAP : Hid (∀ v' w', Kept V.ownBlock.toList (wr.drew.alloc (.cells #[.int .u8 (y : Int)] 5)) w' → w'.ownsRow (bk + 1) 5 1 v' (t + 1) ((rg (uF go n p k) t).map byt ++ [.int .u8 (y : Int)]) → Inn (w'.setCell ⟨gu, k, none⟩ v') wo w2 gu gk r (n + p) k bk uv kv (t + 1) ((rg (uF go n p k) (t + 1)).map byt) (kP n u (lR go n) t) v') := Hid.mk (fun v' w' h1 h2 => by
                rw [Hsn.out] at h2
                exact HI.out.app Ebk.out HW2b.out HG.out.2.1 HG.out.1 hszk.out.2 h1 h2)
              have HRD := Hid.mk (fun w' h => HI.out.ready hlt (o := .cells #[.int .u8 (y : Int)] 5) (w' := w') h)
              obtain ⟨xs, ex⟩ : ∃ xs, xs = (rg (uF go n p k) t).map byt := ⟨_, rfl⟩
              rw [← ex] at HOA HAP
              clear hcl' hf1' hf2' hI ex
              subst hfo
              have ixt : (t : Int) < (r : Int) := by omega
              have ixj : (j : Int) < (n : Int) := by omega
              go_upto_region 13 with (fail)
              go_cut [12] (fun q wy => q = .int .i64 (u : Int) ∧ ∃ V', Inn wy wo w2 gu gk r (n + p) k bk uv kv (t + 1) ((rg (uF go n p k) (t + 1)).map byt) (kP n u (lR go n) t) V')
              case first =>
                go_region_law (refine step_own rfl (.tmp 82) (.tmp 90) rfl (bk + 1) V t xs (by rfl) HOA.out wr.heap.size 1 (by rfl) (.int .u8 (y : Int)) HCA.out rfl (by omega) HBA.out ?_; intro v' w' hv1 hv2 hv3; have hq1 := (HRD.out w' hv2).1; have hq2 := (HRD.out w' hv2).2; obtain ⟨ao', cp', rfl⟩ := own_form hv1)
                all_goals go_wp2
                all_goals go_meet
                all_goals exact ⟨rfl, _, HAP.out _ _ hv2 hv1⟩
              case rest =>
                obtain ⟨rfl, V', hI⟩ := hcut
                have hck := hI.vk.at hlt
                rw [if_pos rfl] at hck
                obtain ⟨y0, hy0⟩ : ∃ v, wc.cell? ⟨bk, j, none⟩ = some v := ⟨_, hI.rb.at (by rw [rg_length]; omega)⟩
                have hzb := hI.rb.fz j
                have ixj2 : (j : Int) < ((n : Int) + (p : Int)) := by omega
                have HS : Hid (∀ v, v = byt 0 → Inn (wc.setCell ⟨bk, j, none⟩ v) wo w2 gu gk r (n + p) k bk uv kv (t + 1) ((rg (uF go n p k) (t + 1)).map byt) (kP n u (lR go n) (t + 1)) V') := Hid.mk (fun v hv => hI.strike Ebk.out HW2b.out hszk.out.2 hszk.out.1 HkP.out hv)
                clear hI HI HAP HRD HOA HCA HBA hA
                go_wp2
                exact ⟨⟨t + 1, V', by omega, by go_num, HS.out _ rfl⟩, by simp [intOf]; omega⟩
            · obtain rfl : r = t := by omega
              have HN : Hid (Bld wr gu gk r (n + p) (k + 1) (uF go n p) (kF go n p) (fun s => if s = k then V else uv s) (fun s => if s = k then .slice (some ⟨bk, 0, none⟩) (n + p) (n + p) else kv s)) := Hid.mk (HBr.out.next hI (by rw [Eu.out, ER.out]; exact kP_full go n p k) hszk.out.2 hszk.out.1)
              have HK2 := Hid.mk hI.k2
              clear hI
              go_wp2
              exact ⟨⟨k + 1, _, _, by omega, by go_num, HN.out, HK2.out⟩, by simp [intOf]; omega⟩
      · obtain rfl : r = k := by omega
        have C5 := Hid.mk (solve_fill gu gk r (n + p) (uF go n p) (kF go n p) X Y wr hB.mru hB.mrk (uF_lo go n p) (kF_lo go n p) (by omega) (by omega) (by have h := HG9.out; rw [← ER.out] at h; exact h))
        have HK9 : Hid (Kept [] w wr) := Hid.mk (HW2.out.trans hkr)
        have HL9 := Hid.mk (HL2.out.keep hkr)
        clear hB hkr HL2 HU2 HF2
        go_wp2_with (go_at_call 53; refine C5.out.mono ?_; rintro e w9 ⟨gs, bs, rfl, hs9, hgs, hbs, hk9⟩)
        have HKw : Hid (Kept [] w w9) := Hid.mk (HK9.out.trans hk9)
        have HBw : Hid (B < w.heap.size) := Hid.mk HCt.out.row.lt
        have HC9 : Hid (Ct w9 G B (n + p) ln Z0) := Hid.mk (HCt.out.keep HKw.out (by simp) (by simp))
        have HL9' := Hid.mk (HL9.out.keep hk9)
        have HS9 : Hid (∀ t, t < r → w9.cell? ⟨gs, t, none⟩ = some (.slice (some ⟨bs t, 0, none⟩) (n + p) (n + p)) ∧ Row w9 (bs t) (rg (Y t) (n + p)) ∧ bs t ≠ B) := Hid.mk (fun t ht => ⟨(hs9 t ht).1, (hs9 t ht).2, by have := hbs t ht; have := HK9.out.size; have := HBw.out; omega⟩)
        have HGS : Hid (gs ≠ B) := Hid.mk (by have := HK9.out.size; have := HBw.out; omega)
        have HLB : Hid (0 < r → ∀ g off, lo = some ⟨g, off, none⟩ → g ≠ B) := Hid.mk (fun h0 g off e => by
          intro eB
          obtain ⟨g3, o3, e3, hc3⟩ := HL9'.out.at h0
          rw [e] at e3
          cases e3
          subst eB
          have hq := row_cell_is HC9.out.row hc3
          have h2 := HC9.out.row.at (j := off + 0) (by rw [rg_length]; exact hq)
          rw [hc3] at h2
          cases h2)
        clear hs9 hgs hbs hk9 C5 HL9
        go_loopw [109] (fun i wr1 => ∃ (k : Nat) (Z : Nat → Nat), k ≤ r ∧ i = .int .i64 (k : Int) ∧ Row wr1 B (rg Z (ofs ln (n + p))) ∧ Cn Z ln (n + p) (fun j x => if j < n ∧ go j = true ∧ cnt go j < k then eF go n p Y A j x else A j x) ∧ (∀ q, Z q < 256) ∧ Kept [B] w9 wr1) (fun i _ => r - (intOf i).toNat)
        case atStart => exact ⟨0, Z0, by omega, rfl, HC9.out.row, HCn.out.congr (fun i _ x _ => (if_neg (by omega)).symm), HZ0.out, Kept.refl _ _⟩
        case round =>
          obtain ⟨k, Z, hk, rfl, hrow, hcn, hlo, hkr⟩ := hrel
          by_cases hlt : k < r
          · obtain ⟨g2, o2, rfl, hcl'⟩ := HL9'.out.at hlt
            have hcl := cell_keep hkr hcl' (by simpa using HLB.out (by omega) g2 o2 rfl)
            have hkl : k < (lR go n).length := by rw [← ER.out]; exact hlt
            have hja := lR_at (go := go) (n := n) hkl
            have hjx := lR_ix go n k hkl
            obtain ⟨hsc', hsr', hsb⟩ := HS9.out k hlt
            have hsc := cell_keep hkr hsc' (by simpa using HGS.out)
            have hsr := hsr'.keep hkr (by simpa using hsb)
            obtain ⟨j, ej⟩ : ∃ j, j = (lR go n).getD k 0 := ⟨_, rfl⟩
            rw [← ej] at hcl hja hjx
            clear ej
            have hcg := (HC9.out.out.keep hkr (by simpa using HC9.out.ne)).at (i := j) (by omega)
            have Hc := Hid.mk (addSum_any B (po ln j) (ln j) (ln j) (ofs ln (n + p)) (n + p) (n + p) (n + p) (n + p) (some ⟨bs k, 0, none⟩) (some ⟨G, 0, none⟩) (fun i => some ⟨B, po ln i, none⟩) ln Z (rg (Y k) (n + p)) (fun i => rg (A i) (ln i)) wr.drew (show Row wr.drew B _ from hrow) (po_le ln (by omega)) hlo
              (rg_byts (fun x _ => (gt_lo2 (uF_lo go n p) (kF_lo go n p) HG9.out) k x)) (rg_length _ _) (Nat.le_refl _) (show Reads wr.drew _ _ from hsr.reads) (fun _ g off e => by cases e; exact hsb)
              (.inr ⟨G, 0, rfl, fun i hi => by rw [Nat.zero_add]; have h := (HC9.out.out.keep hkr (by simpa using HC9.out.ne)).at hi; simp only [rg_length]; exact h⟩) (fun _ g off e => by cases e; exact HC9.out.ne)
              (fun i hi => ⟨rg_byts (fun x _ => HA2.out i x), by rw [rg_length]; exact Nat.le_refl _, by rw [rg_length]; have := Hln.out i; omega⟩)
              (fun i hi hf => by
                rw [rg_getD _ _ _ hi] at hf
                have hgi : go i = false := by
                  cases hg : go i
                  · rfl
                  · exact absurd (gt_gone hc HG9.out hi hg k hkl) hf
                refine ⟨show Reads wr.drew _ _ from ct_reads (N := n + p) hrow rfl (fun x hx => (hcn i hi x hx).trans (if_neg (by rw [hgi]; simp))) hi, ?_⟩
                rw [rg_length]
                exact ct_apt (fun e => by subst e; rw [hgi] at hja; simp at hja))
              (by have := Hln.out j; omega) (by omega))
            have HZ : Hid (∀ w', Row w' B (rg (asm Z (po ln j) (ln j) (n + p) (fun i => (rg (Y k) (n + p)).getD i 0) (fun i => rg (A i) (ln i))) (ofs ln (n + p))) → Kept [B] wr.drew w' → ∃ Z', Row w' B (rg Z' (ofs ln (n + p))) ∧ Cn Z' ln (n + p) (fun j x => if j < n ∧ go j = true ∧ cnt go j < k + 1 then eF go n p Y A j x else A j x) ∧ (∀ q, Z' q < 256) ∧ Kept [B] w9 w') := Hid.mk (fun w' h1 h2 => ⟨_, h1, (hcn.add (k := j) (M := n + p) (f := fun i => (rg (Y k) (n + p)).getD i 0) (L := fun i => rg (A i) (ln i))).congr (fun i hi x _ => by
              by_cases e : i = j
              · subst e
                simp only [if_true]
                rw [if_neg (by omega), if_pos ⟨hja.1, hja.2, by omega⟩, HA1.out i x hja.2, Nat.zero_xor, eF, hjx]
                exact sm_congr _ (fun q hq => by rw [rg_getD _ _ _ hq, rg_getD0 _ _ _ (HA0.out q x)])
              · simp only [if_neg e]
                by_cases h3 : i < n ∧ go i = true
                · have hx : cnt go i ≠ k := fun hx => by
                    have h4 := (lR_all h3.1 h3.2).2
                    have h5 := (lR_all hja.1 hja.2).2
                    rw [hx] at h4
                    rw [hjx] at h5
                    exact e (h4.symm.trans h5)
                  by_cases h6 : cnt go i < k
                  · rw [if_pos ⟨h3.1, h3.2, h6⟩, if_pos ⟨h3.1, h3.2, by omega⟩]
                  · rw [if_neg (fun h => h6 h.2.2), if_neg (fun h => by have := h.2.2; omega)]
                · rw [if_neg (fun h => h3 ⟨h.1, h.2.1⟩), if_neg (fun h => h3 ⟨h.1, h.2.1⟩)]), asm_lo hlo _ _ _ _ _, hkr.step (h2.undrew) (fun x hx => .inl hx)⟩)
            clear hrow hcn hlo hkr hcl' hsc' hsr' hsr
            have ix : (k : Int) < (r : Int) := by omega
            have ixj : (j : Int) < ((n : Int) + (p : Int)) := by omega
            obtain ⟨o, eo⟩ : ∃ o, o = po ln j := ⟨_, rfl⟩
            rw [← eo] at hcg Hc HZ
            clear eo
            go_upto_region 21 with (fail)
            go_region_law ((go_simp; go_at_call 30; refine (Hc.out).mono ?_; rintro e w4 ⟨rfl, hrow, hk4⟩))
            all_goals go_wp2
            all_goals (obtain ⟨Z', h1, h2, h3, h4⟩ := HZ.out _ hrow hk4)
            all_goals exact ⟨⟨k + 1, Z', by omega, by go_num, h1, h2, h3, h4⟩, by simp [intOf]; omega⟩
          · obtain rfl : r = k := by omega
            have HE : Hid (∃ Z, Row wr B (rg Z (ofs ln (n + p))) ∧ Cn Z ln (n + p) (fun j x => if j < n ∧ go j = true then eF go n p Y A j x else A j x) ∧ (∀ q, Z q < 256) ∧ Kept [B] w wr) := Hid.mk ⟨Z, hrow, hcn.congr (fun i hi x _ => by
              by_cases h : i < n ∧ go i = true
              · rw [if_pos h, if_pos ⟨h.1, h.2, by have := (lR_all h.1 h.2).1; have := ER.out; omega⟩]
              · rw [if_neg h, if_neg (fun h2 => h ⟨h2.1, h2.2.1⟩)]), hlo, (HKw.out.mono (by simp)).step hkr (fun x hx => .inl hx)⟩
            clear hrow hcn hlo hkr
            go_wp2
            go_end0
            exact ⟨rfl, HE.out⟩
end Go.Proofs.Ytmgfapooanpgfaa
