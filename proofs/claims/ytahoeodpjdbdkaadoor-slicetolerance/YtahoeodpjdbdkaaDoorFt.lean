import Derived.Test.YtahoeodpjdbdkaaDoorFqZ
import Derived.Test.YtahoeodpjdbdkaaDoorEe
namespace Go.Proofs.YtahoeodpjdbdkaaDoor
open Go.RowKit

theorem Smp.congr {w : World} {sb so n : Nat} {f g : Nat → Int} (h : Smp w sb so n f) (hg : ∀ i, i < n → g i = f i) : Smp w sb so n g := fun i hi => by rw [hg i hi]; exact h i hi
/-- Within the block as it is, nought behind. -/
def cutf (n : Nat) (f : Nat → Int) : Nat → Int := fun i => if i < n then f i else 0
theorem cutf_in (n : Nat) (f : Nat → Int) (i : Nat) (h : i < n) : cutf n f i = f i := if_pos h

/-- What may be coded. -/
theorem MayC.blk {W H D d : Int} {n : Nat} {f : Nat → Int} (h : MayC W H D d n f) (hf : ∀ i, 0 ≤ f i ∧ f i ≤ 65535) : ∃ (w h : Nat) (T : Int), W = (w : Int) ∧ H = (h : Int) ∧ Blk w h n D T d (cutf n f) := by
  obtain ⟨h1, h2, h3, h4, h5, h6⟩ := h
  have hb := szd_in h1
  refine ⟨W.toNat, H.toNat, if D = 10 then 1023 else 4095, by omega, by omega, ?_, ?_, ?_, h4, h5, ?_⟩
  · rw [show ((W.toNat : Nat) : Int) = W by omega, show ((H.toNat : Nat) : Int) = H by omega]; exact h1
  · have : ((W.toNat * H.toNat : Nat) : Int) = W * H := by rw [Int.natCast_mul, show ((W.toNat : Nat) : Int) = W by omega, show ((H.toNat : Nat) : Int) = H by omega]
    omega
  · rcases h3 with rfl | rfl
    · exact .inl ⟨rfl, rfl⟩
    · exact .inr ⟨rfl, rfl⟩
  · intro i
    unfold cutf
    split
    · have := h6 i (by assumption)
      have := hf i
      rcases h3 with rfl | rfl
      · rw [if_pos rfl]; have e : (2 : Int) ^ (Int.toNat 10) = 1024 := rfl; omega
      · rw [if_neg (by decide)]; have e : (2 : Int) ^ (Int.toNat 12) = 4096 := rfl; omega
    · split <;> omega

/-- What comes back may be coded, too. -/
theorem Blk.back {W H n : Nat} {D T d : Int} {f b : Nat → Int} {x : Nat × Nat} (B : Blk W H n D T d f) (ht : Tell T d D W H n f x b) : Blk W H n D T d (cutf n b) :=
  ⟨B.sz, B.n_, B.dp, B.d0, B.d1, fun i => by
    have hT := B.gd.t0
    unfold cutf
    split
    · have := tell_near B.gd B.w.1 B.f_ ht i (by assumption)
      omega
    · omega⟩

theorem heap_reads' {w : World} {g : Nat} {l : List Nat} (h : w.heap[g]? = some (.cells (l.map byt).toArray 5 (0, 0))) : Reads w (some ⟨g, 0, none⟩) l :=
  .inr ⟨g, 0, rfl, fun i hi => by simp [World.cell?, h, hi]⟩

set_option maxHeartbeats 8000000 in
set_option maxRecDepth 1000000 in
theorem again_any (W H D d : Int) (ao : Option Addr) (n c : Nat) (f : Nat → Int) (w : World) (hT : Tab w) (hs : In16 w ao n f) :
    Calls Tryd.prog 6 #[.agg #[.int .i64 W, .int .i64 H, .slice ao n c, .int .i64 D, .int .i64 d]] w fun e w' => e = .returned (.bool true) ∧ Kept [] w w' := by
  obtain ⟨w1, hw1, k1, b1⟩ := five_new w (.int .i64 W) (.int .i64 H) (.slice ao n c) (.int .i64 D) (.int .i64 d) 31
  obtain ⟨Q, hQ⟩ : ∃ Q, w.heap.size = Q := ⟨_, rfl⟩
  rw [hQ] at b1
  have K1 := Hid.mk k1
  have B1 := Hid.mk b1
  have HS := Hid.mk hs
  have HT := Hid.mk hT
  have C1 := Hid.mk (alive_any w1 (hT.kept k1 (by simp)))
  clear k1 b1 hs hT
  go_enter Tryd.func6, Tryd.ntmps6
  go_wp2_with (fail)
  refine C1.out.mono ?_
  rintro e w2 ⟨rfl, k2⟩
  have K2 := Hid.mk (K1.out.trans k2)
  have B2 := Hid.mk (k2.heap B1.out (by simp))
  obtain ⟨z0, z1, z2, z3, z4⟩ := five_cells B2.out
  have hs2 : In16 w2 ao n f := ⟨by
    rcases HS.out.1 with h | ⟨sb, so, h1, h2⟩
    · exact .inl h
    · exact .inr ⟨sb, so, h1, h2.keep K2.out (by simp)⟩, HS.out.2⟩
  have C2 := Hid.mk (may_any W H D d ao n c f w2 hs2)
  clear k2 C1 hs2
  go_wp2_with (fail)
  refine C2.out.mono ?_
  rintro e w3 ⟨bb, rfl, hbb, k3⟩
  have K3 := Hid.mk (K2.out.trans k3)
  have B3 := Hid.mk (k3.heap B2.out (by simp))
  have Hbb := Hid.mk hbb
  clear k3 C2 hbb z0 z1 z2 z3 z4
  obtain ⟨z0, z1, z2, z3, z4⟩ := five_cells B3.out
  cases bb with
  | false =>
    go_wp2
    go_ret
    exact ⟨rfl, K3.out⟩
  | true =>
    have hm := Hbb.out.1 rfl
    obtain ⟨Wn, Hn, T, rfl, rfl, BK⟩ := hm.blk HS.out.2
    have hw := BK.w
    obtain ⟨sb, so, rfl, hsm⟩ : ∃ sb so, ao = some ⟨sb, so, none⟩ ∧ Smp w sb so n f := by
      rcases HS.out.1 with h | h
      · omega
      · exact h
    obtain ⟨x, b, ht⟩ := tell_ex (T := T) (d := d) (D := D) (cutf n f) hw.1 BK.n_ hw.2.2.2.2.1
    obtain ⟨x', b', ht'⟩ := tell_ex (T := T) (d := d) (D := D) (cutf n b) hw.1 BK.n_ hw.2.2.2.2.1
    obtain ⟨rfl, hbb'⟩ := tell_again BK.gd hw.1 BK.n_ BK.f_ ht (fun i hi => cutf_in n b i hi) ht'
    have BB := Hid.mk (BK.back ht)
    have HBK := Hid.mk BK
    have HTl := Hid.mk (And.intro ht ht')
    have Hb' := Hid.mk hbb'
    have HSm := Hid.mk (hsm.congr (fun i hi => cutf_in n f i hi))
    have hnn : n ≤ 4194304 := hw.2.2.2.2.2
    have C3 := Hid.mk (Encode_any (sc := c) w3 BK (HSm.out.keep K3.out (by simp)) (HT.out.kept K3.out (by simp)) ht)
    clear hm BK hsm ht ht' hbb' hw Hbb
    obtain ⟨L, hL⟩ : ∃ L, nby x' = L := ⟨_, rfl⟩
    rw [hL] at C3
    go_wp2_with (fail)
    refine C3.out.mono ?_
    rintro e w4 ⟨g4, rfl, hg4, hb4, k4⟩
    have K4 := Hid.mk (K3.out.trans k4)
    have B4 := Hid.mk (k4.heap B3.out (by simp))
    have G4 := Hid.mk hb4
    have C4 := Hid.mk (Decode_any (cap := nby x') w4 HBK.out (HT.out.kept K4.out (by simp)) HTl.out.1 (heap_reads' hb4))
    rw [hL] at C4
    clear hg4 hb4 k4 C3 z0 z1 z2 z3 z4
    obtain ⟨z0, z1, z2, z3, z4⟩ := five_cells B4.out
    go_wp2_with (fail)
    refine C4.out.mono ?_
    rintro e w5 ⟨G, rfl, hG, hS5, k5⟩
    have K5 := Hid.mk (K4.out.trans k5)
    have B5 := Hid.mk (k5.heap B4.out (by simp))
    have G5 := Hid.mk (k5.heap G4.out (by simp))
    have S5 := Hid.mk hS5
    clear hG hS5 k5 C4 z0 z1 z2 z3 z4
    obtain ⟨w6, hw6, k6, b6⟩ := three_new w5 (.int .i64 (Wn : Int)) (.int .i64 (Hn : Int)) (.slice (some ⟨G, 0, none⟩) n n) 29
    obtain ⟨R, hR⟩ : ∃ R, w5.heap.size = R := ⟨_, rfl⟩
    rw [hR] at b6
    have K6 := Hid.mk (K5.out.trans k6)
    have B6 := Hid.mk (k6.heap B5.out (by simp))
    have G6 := Hid.mk (k6.heap G5.out (by simp))
    have S6 := Hid.mk (S5.out.keep k6 (by simp))
    have R6 := Hid.mk b6
    obtain ⟨z0, z1, z2, z3, z4⟩ := five_cells B6.out
    obtain ⟨y0, y1, y2⟩ := agg3' b6
    have C5 := Hid.mk (Encode_any (sc := n) w6 BB.out (S6.out.congr (fun i hi => cutf_in n b i hi)) (HT.out.kept K6.out (by simp)) HTl.out.2)
    rw [hL] at C5
    clear k6 b6
    go_wp2_with (fail)
    refine C5.out.mono ?_
    rintro e w7 ⟨g7, rfl, hg7, hb7, k7⟩
    have K7 := Hid.mk (K6.out.trans k7)
    have B7 := Hid.mk (k7.heap B6.out (by simp))
    have R7 := Hid.mk (k7.heap R6.out (by simp))
    have G7 := Hid.mk (And.intro (k7.heap G6.out (by simp)) hb7)
    have S7 := Hid.mk (S6.out.keep k7 (by simp))
    clear hw6 hR hg7 hb7 k7 C5 z0 z1 z2 z3 z4 y0 y1 y2
    obtain ⟨z0, z1, z2, z3, z4⟩ := five_cells B7.out
    obtain ⟨y0, y1, y2⟩ := agg3' R7.out
    have C6 := Hid.mk (Settle_any (sc := n) w7 BB.out (S7.out.congr (fun i hi => cutf_in n b i hi)) (HT.out.kept K7.out (by simp)) HTl.out.2)
    go_wp2_with (fail)
    refine C6.out.mono ?_
    rintro e w8 ⟨G8, c8, rfl, hG8, hS8, k8⟩
    have K8 := Hid.mk (K7.out.trans k8)
    have R8 := Hid.mk (k8.heap R7.out (by simp))
    have G8' := Hid.mk (And.intro (k8.heap G7.out.1 (by simp)) (k8.heap G7.out.2 (by simp)))
    have S8 := Hid.mk (And.intro (S7.out.keep k8 (by simp)) (hS8.congr (fun i hi => (Hb'.out i hi).symm)))
    clear hG8 hS8 k8 C6 z0 z1 z2 z3 z4 y0 y1 y2
    obtain ⟨w9, hw9, k9, b9⟩ := three_new w8 (.int .i64 (Wn : Int)) (.int .i64 (Hn : Int)) (.slice (some ⟨G8, 0, none⟩) n c8) 29
    obtain ⟨U, hU⟩ : ∃ U, w8.heap.size = U := ⟨_, rfl⟩
    rw [hU] at b9
    have K9 := Hid.mk (K8.out.trans k9)
    obtain ⟨y0, y1, y2⟩ := agg3' (k9.heap R8.out (by simp))
    obtain ⟨v0, v1, v2⟩ := agg3' b9
    have C7 := Hid.mk (sameB_yes (Wn : Int) (Hn : Int) G 0 n G8 0 c8 n b w9 (S8.out.1.keep k9 (by simp)) (S8.out.2.keep k9 (by simp)) hnn)
    have G9 := Hid.mk (And.intro (k9.heap G8'.out.1 (by simp)) (k9.heap G8'.out.2 (by simp)))
    clear k9 b9
    go_wp2_with (fail)
    refine C7.out.mono ?_
    rintro e w10 ⟨rfl, k10⟩
    have hl : (byts x').length = L := by rw [← hL]; exact big_length _ _
    have st1 := reads_str (heap_reads' (k10.heap G9.out.1 (by simp))) L
    have st2 := reads_str (heap_reads' (k10.heap G9.out.2 (by simp))) L
    rw [hl] at st1 st2
    have K10 := Hid.mk (K9.out.trans k10)
    clear k10 C7 y0 y1 y2 v0 v1 v2 hw9 hU hL hl
    generalize bstr (byts x') = str at *
    go_wp2
    go_ret
    exact ⟨rfl, K10.out⟩
end Go.Proofs.YtahoeodpjdbdkaaDoor
