import Derived.Test.YtoghkbajdljheaaU
namespace Go.Proofs.Ytoghkbajdljheaa
open Go.RowKit

theorem xor_byts (l : List Nat) (h : Byts l) : Byts (l.map (· ^^^ 90)) := by
  intro b hb
  simp only [List.mem_map] at hb
  obtain ⟨x, hx, rfl⟩ := hb
  exact Nat.xor_lt_two_pow (n := 8) (h x hx) (by decide)

theorem row_front {w : World} {g : Nat} {l r : List Nat} (h : w.heap[g]? = some (.cells ((l ++ r).map byt).toArray 5 (0, 0))) : Reads w (some ⟨g, 0, none⟩) l := by
  refine .inr ⟨g, 0, rfl, fun i hi => ?_⟩
  have h1 := row_at h i (by simp; omega)
  rw [Nat.zero_add, h1]
  simp [hi, List.getElem?_append_left]

theorem lies_new {W wa : World} {v v' : Value} (h : Lies wa v v') (hv : ∀ g, v.ownBlock = some g → W.heap.size ≤ g) (hs : W.heap.size ≤ wa.heap.size) : ∀ g, v'.ownBlock = some g → W.heap.size ≤ g := by
  intro g hg
  rcases h with h | ⟨y, hy, hl⟩
  · rw [h] at hg; exact hv g hg
  · rw [hy] at hg; simp at hg; omega

theorem bks_new {W : World} {Bk : Nat} {vl vw : Value} (hB : W.heap.size ≤ Bk) (h1 : ∀ g, vl.ownBlock = some g → W.heap.size ≤ g) (h2 : ∀ g, vw.ownBlock = some g → W.heap.size ≤ g) :
    ∀ x, x ∈ Bk :: (vl.ownBlock.toList ++ vw.ownBlock.toList) → x ∈ ([] : List Nat) ∨ W.heap.size ≤ x := by
  intro x hx
  simp only [List.mem_cons, List.mem_append, mem_own] at hx
  rcases hx with e | e | e
  · right; omega
  · exact .inr (h1 x e)
  · exact .inr (h2 x e)

theorem lst_over {w w' : World} {Bk n : Nat} {vl vw x : Value} {V U : Nat → Value} {ls : Nat → List Nat} {l : List Nat} (h : Bks w Bk n vl vw V U ls) (hk : Kept (Bk :: (vl.ownBlock.toList ++ vw.ownBlock.toList)) w w') (hx : Lst w x l) : Lst w' x l :=
  hx.kept hk (fun g hg hm => by
    obtain ⟨cs, hcs⟩ := hx.own hg
    simp only [List.mem_cons, List.mem_append, mem_own] at hm
    rcases hm with e | e | e
    · subst e; have hb := h.box; rw [hcs] at hb; simp at hb
    · exact own_ne2 hcs (by decide) h.l e
    · exact own_ne2 hcs (by decide) h.was e)

theorem back_ne {w : World} {ao : Option Addr} {l : List Nat} {g m : Nat} (h : Reads w ao l) (hm : l.length = m) (hg : w.heap.size ≤ g) : 0 < m → ∀ b off, ao = some ⟨b, off, none⟩ → b ≠ g := by
  intro h0 b off hao
  rcases h with h | ⟨g', off', h, hc⟩
  · subst h; simp at hm; omega
  · rw [h] at hao
    simp at hao
    obtain ⟨rfl, rfl⟩ := hao
    have hlt := World.block_lt_of_cell? w _ (hc 0 (by omega))
    simp at hlt
    omega

theorem BookAt.keep {w w' : World} {Bk gl cl gw cw n : Nat} {V U : Nat → Value} {ls : Nat → List Nat} (h : BookAt w Bk gl cl gw cw n V U ls) (hk : Kept [] w w') : BookAt w' Bk gl cl gw cw n V U ls :=
  ⟨hk.heap h.box (by simp), hk.row h.l (by simp), hk.row h.was (by simp), fun i hi => (h.v i hi).keep hk, fun i hi => hk.row (h.u i hi) (by simp), h.apart⟩

theorem Lst.lt {w : World} {v : Value} {l : List Nat} (h : Lst w v l) : ∀ g, v.ownBlock = some g → g < w.heap.size := fun g hg => by
  obtain ⟨cs, hcs⟩ := h.own hg
  exact lt_of_block hcs

set_option maxHeartbeats 4000000 in
set_option maxRecDepth 1000000 in
theorem numbers_any (n b : Int) (ao : Option Addr) (cap m : Nat) (l : List Nat) (w : World) (n0 : 0 ≤ n) (n1 : n < 18446744073709551616) (hr : Reads w ao l) (hb : Byts l) (hm : l.length = m) (hl : m ≤ 140737488355328) :
    Calls Try.prog 5 #[.int .u64 n, .int .i64 b, .slice ao m cap] w fun e w' => e = .returned (.bool true) ∧ Kept [] w w' := by
  obtain ⟨E, l1, hE⟩ := bigRes_ex n b
  obtain ⟨F, l2, hF⟩ := bigRes_ex (n / 2 + 1) 8
  obtain ⟨X, Ex, hX⟩ := numRes_ex m l
  obtain ⟨Y, Ey, hY⟩ := numRes_ex m (l.map (· ^^^ 90))
  have h2 : n / 2 + 1 < 18446744073709551616 := by omega
  have h20 : 0 ≤ n / 2 + 1 := by omega
  have HE := Hid.mk hE
  have HF := Hid.mk hF
  have HX := Hid.mk hX
  have HY := Hid.mk hY
  have Hr := Hid.mk hr
  have Hm := Hid.mk hm
  have Hn1 := Hid.mk n1
  have Hh2 := Hid.mk h2
  clear hE hF hX hY hr hm h2
  go_enter Try.func5, Try.ntmps5
  go_wp2_with (go_at_call 9; refine (alive_any _).mono ?_; rintro e w1 ⟨rfl, hk1⟩)
  have HB1 := Hid.mk (heap_alloc_new w1 (.cells #[.slice none 0 0, .slice none 0 0] 35))
  have HK1 := Hid.mk (hk1.alloc (.cells #[.slice none 0 0, .slice none 0 0] 35))
  have s1 := hk1.size
  clear hk1
  refine (big_res n b E l1 _ n0 HE.out).mono ?_
  rintro e w2 ⟨v1, rfl, hv1, hnew1, hk2⟩
  have HV1 := Hid.mk hv1
  have HK2 := Hid.mk (HK1.out.trans hk2)
  have HB2 := Hid.mk (hk2.heap HB1.out (by simp))
  have u1 := Lst.lt hv1
  have HNs1 := Hid.mk HK1.out.size
  clear hv1 hk2 HB1 HK1
  go_wp2_with fail
  refine (big_res (n / 2 + 1) 8 F l2 _ h20 HF.out).mono ?_
  rintro e w3 ⟨v2, rfl, hv2, hnew2, hk3⟩
  have a12 : ∀ g, v1.ownBlock = some g → v2.ownBlock ≠ some g := fun g h h' => by have := u1 g h; have := hnew2 g h'; omega
  have HV2 := Hid.mk hv2
  have HV1 := Hid.mk (HV1.out.keep hk3)
  have HK3 := Hid.mk (HK2.out.trans hk3)
  have HB3 := Hid.mk (hk3.heap HB2.out (by simp))
  have u2 := Lst.lt hv2
  have u1 := Lst.lt HV1.out
  have HNs2 := Hid.mk HK2.out.size
  clear hv2 hk3 HB2 HK2
  go_wp2_with fail
  refine (big_res n b E l1 _ n0 HE.out).mono ?_
  rintro e w4 ⟨v3, rfl, hv3, hnew3, hk4⟩
  have a13 : ∀ g, v1.ownBlock = some g → v3.ownBlock ≠ some g := fun g h h' => by have := u1 g h; have := hnew3 g h'; omega
  have a23 : ∀ g, v2.ownBlock = some g → v3.ownBlock ≠ some g := fun g h h' => by have := u2 g h; have := hnew3 g h'; omega
  have HV3 := Hid.mk hv3
  have HV1 := Hid.mk (HV1.out.keep hk4)
  have HV2 := Hid.mk (HV2.out.keep hk4)
  have HK4 := Hid.mk (HK3.out.trans hk4)
  have HB4 := Hid.mk (hk4.heap HB3.out (by simp))
  have u3 := Lst.lt hv3
  have u2 := Lst.lt HV2.out
  have u1 := Lst.lt HV1.out
  have HNs3 := Hid.mk HK3.out.size
  clear hv3 hk4 HB3 HK3
  go_wp2_with fail
  refine (big_res n b E l1 _ n0 HE.out).mono ?_
  rintro e w5 ⟨v4, rfl, hv4, hnew4, hk5⟩
  have a14 : ∀ g, v1.ownBlock = some g → v4.ownBlock ≠ some g := fun g h h' => by have := u1 g h; have := hnew4 g h'; omega
  have a24 : ∀ g, v2.ownBlock = some g → v4.ownBlock ≠ some g := fun g h h' => by have := u2 g h; have := hnew4 g h'; omega
  have a34 : ∀ g, v3.ownBlock = some g → v4.ownBlock ≠ some g := fun g h h' => by have := u3 g h; have := hnew4 g h'; omega
  have HA := Hid.mk (And.intro a12 (And.intro a13 (And.intro a23 (And.intro a14 (And.intro a24 a34)))))
  have HV4 := Hid.mk hv4
  have HV1 := Hid.mk (HV1.out.keep hk5)
  have HV2 := Hid.mk (HV2.out.keep hk5)
  have HV3 := Hid.mk (HV3.out.keep hk5)
  have HK5 := Hid.mk (HK4.out.trans hk5)
  have HB5 := Hid.mk (hk5.heap HB4.out (by simp))
  have HNw := Hid.mk (And.intro (fun g hg => Nat.le_trans HNs1.out (hnew1 g hg)) (And.intro (fun g hg => Nat.le_trans HNs2.out (hnew2 g hg)) (And.intro (fun g hg => Nat.le_trans HNs3.out (hnew3 g hg)) (fun g hg => Nat.le_trans HK4.out.size (hnew4 g hg)))))
  clear hv4 hk5 HB4 HK4 hnew1 hnew2 hnew3 hnew4 u1 u2 u3 a12 a13 a23 a14 a24 a34
  go_wp2_with fail
  refine (refBig_res n b E l1 _ n0 Hn1.out HE.out).mono ?_
  rintro e w6 ⟨x1, rfl, hx1, hk6⟩
  have HK6 := Hid.mk (HK5.out.trans hk6)
  have HB6 := Hid.mk (hk6.heap HB5.out (by simp))
  have HV1 := Hid.mk (HV1.out.keep hk6)
  have HV2 := Hid.mk (HV2.out.keep hk6)
  have HV3 := Hid.mk (HV3.out.keep hk6)
  have HV4 := Hid.mk (HV4.out.keep hk6)
  have HX1 := Hid.mk hx1
  clear hx1 hk6 HB5 HK5
  go_wp2_with fail
  refine (refBig_res (n / 2 + 1) 8 F l2 _ h20 Hh2.out HF.out).mono ?_
  rintro e w7 ⟨x2, rfl, hx2, hk7⟩
  have HK7 := Hid.mk (HK6.out.trans hk7)
  have HB7 := Hid.mk (hk7.heap HB6.out (by simp))
  have HV1 := Hid.mk (HV1.out.keep hk7)
  have HV2 := Hid.mk (HV2.out.keep hk7)
  have HV3 := Hid.mk (HV3.out.keep hk7)
  have HV4 := Hid.mk (HV4.out.keep hk7)
  have z1 := HV1.out.str
  have z2 := HV2.out.str
  have z3 := HV3.out.str
  have z4 := HV4.out.str
  have z5 := (HX1.out.keep hk7).str
  have z6 := hx2.str
  clear hx2 hk7 HB6 HK6 HX1
  obtain ⟨b12, b13, b23, b14, b24, b34⟩ := HA.out
  have HA12 := Hid.mk b12
  have HA3 := Hid.mk (And.intro b13 b23)
  have HA4 := Hid.mk (And.intro b14 (And.intro b24 b34))
  have hl1 := (bigRes_byts HE.out).2
  have hl2 := (bigRes_byts HF.out).2
  have HQ7 := Hid.mk (Bks.empty HB7.out (fun _ => .slice none 0 0) (fun _ => .slice none 0 0) (fun _ => []))
  have hB : w.heap.size ≤ w1.heap.size := s1
  clear b12 b13 b23 b14 b24 b34
  go_wp2_with fail
  clear z1 z2 z3 z4 z5 z6 HB7
  refine (keep_bks _ 0 _ _ v1 _ _ _ l1 _ HQ7.out HV1.out (fun i hi => by omega) (by omega) (by omega)).mono ?_
  rintro e w8 ⟨rfl, vl1, vw1, u1, hQ8, hL8, hM8, hk8⟩
  have HN8 := Hid.mk (lies_new hL8 (W := w) (by simp [Value.ownBlock]) HK7.out.size)
  have HO8 := Hid.mk (lies_new hM8 (W := w) (by simp [Value.ownBlock]) HK7.out.size)
  have HK8 := Hid.mk (HK7.out.step hk8 (bks_new hB (by simp [Value.ownBlock]) (by simp [Value.ownBlock])))
  have HQ8 := Hid.mk hQ8
  have HV2 := Hid.mk (lst_over HQ7.out hk8 HV2.out)
  have HV3 := Hid.mk (lst_over HQ7.out hk8 HV3.out)
  have HV4 := Hid.mk (lst_over HQ7.out hk8 HV4.out)
  clear hQ8 hL8 hM8 hk8 HK7 HQ7 HV1
  go_wp2_with fail
  refine (keep_bks _ 1 _ _ v2 _ _ _ l2 _ HQ8.out HV2.out (fun i hi g hg => by obtain rfl : i = 0 := by omega
                                                                              simp [upd] at hg; exact HA12.out g hg) (by omega) (by omega)).mono ?_
  rintro e w9 ⟨rfl, vl2, vw2, u2, hQ9, hL9, hM9, hk9⟩
  have HN9 := Hid.mk (lies_new hL9 (W := w) HN8.out HK8.out.size)
  have HO9 := Hid.mk (lies_new hM9 (W := w) HO8.out HK8.out.size)
  have HK9 := Hid.mk (HK8.out.step hk9 (bks_new hB HN8.out HO8.out))
  have HQ9 := Hid.mk hQ9
  have HV3 := Hid.mk (lst_over HQ8.out hk9 HV3.out)
  have HV4 := Hid.mk (lst_over HQ8.out hk9 HV4.out)
  clear hQ9 hL9 hM9 hk9 HK8 HQ8 HV2 HN8 HO8
  go_wp2_with fail
  refine (keep_bks _ 2 _ _ v3 _ _ _ l1 _ HQ9.out HV3.out (fun i hi g hg => by
    rcases (show i = 0 ∨ i = 1 by omega) with rfl | rfl
    · simp [upd] at hg; exact HA3.out.1 g hg
    · simp [upd] at hg; exact HA3.out.2 g hg) (by omega) (by omega)).mono ?_
  rintro e w10 ⟨rfl, vl3, vw3, u3, hQ10, hL10, hM10, hk10⟩
  have HN10 := Hid.mk (lies_new hL10 (W := w) HN9.out HK9.out.size)
  have HO10 := Hid.mk (lies_new hM10 (W := w) HO9.out HK9.out.size)
  have HK10 := Hid.mk (HK9.out.step hk10 (bks_new hB HN9.out HO9.out))
  have HQ10 := Hid.mk hQ10
  have HV4 := Hid.mk (lst_over HQ9.out hk10 HV4.out)
  clear hQ10 hL10 hM10 hk10 HK9 HQ9 HV3 HN9 HO9
  go_wp2_with fail
  refine (keep_bks _ 3 _ _ v4 _ _ _ l1 _ HQ10.out HV4.out (fun i hi g hg => by
    rcases (show i = 0 ∨ i = 1 ∨ i = 2 by omega) with rfl | rfl | rfl
    · simp [upd] at hg; exact HA4.out.1 g hg
    · simp [upd] at hg; exact HA4.out.2.1 g hg
    · simp [upd] at hg; exact HA4.out.2.2 g hg) (by omega) (by omega)).mono ?_
  rintro e w11 ⟨rfl, vl4, vw4, u4, hQ11, hL11, hM11, hk11⟩
  have HK11 := Hid.mk (HK10.out.step hk11 (bks_new hB HN10.out HO10.out))
  obtain ⟨gl, cl, gw, cw, hbook⟩ := hQ11.done (by omega)
  have HBk := Hid.mk hbook
  clear hQ11 hL11 hM11 hk11 HK10 HQ10 HV4 HN10 HO10 hbook
  go_wp2_with fail
  refine (lent_any _ _ m l _ (Hr.out.keep HK11.out) Hm.out hl).mono ?_
  rintro e w12 ⟨rfl, hc12, hk12⟩
  have HC12 := Hid.mk hc12
  have HK12 := Hid.mk (HK11.out.trans hk12)
  have hgc : w.heap.size ≤ w11.heap.size := HK11.out.size
  have HQ12 := Hid.mk hk12
  clear hc12 hk12
  go_wp2_with fail
  refine (number_res _ _ m l X Ex _ (row_front HC12.out) hb Hm.out (by omega) HX.out).mono ?_
  rintro e w13 ⟨rfl, rfl⟩
  go_wp2_with fail
  refine (refNumber_res _ _ m l X Ex _ (Hr.out.keep HK12.out) hb Hm.out (by omega) HX.out).mono ?_
  rintro e w14 ⟨rfl, rfl⟩
  go_wp2_with fail
  refine (back_call _ _ _ m l _ (Hr.out.keep HK12.out) hb Hm.out hl HC12.out (back_ne Hr.out Hm.out hgc)).mono ?_
  rintro e w15 ⟨rfl, hc15, hk15⟩
  rw [List.map_append] at hc15
  have HC15 := Hid.mk hc15
  have HK15 := Hid.mk (HK12.out.step hk15 (by simp; omega))
  have HQ15 := Hid.mk (HQ12.out.step hk15 (by simp))
  clear hc15 hk15 HC12 HK12 HQ12
  go_wp2_with fail
  refine (refNumber_res _ _ m (l.map (· ^^^ 90)) Y Ey _ (row_front HC15.out) (xor_byts l hb) (by rw [List.length_map]; exact Hm.out) (by omega) HY.out).mono ?_
  rintro e w16 ⟨rfl, rfl⟩
  go_wp2_with fail
  refine (number_res _ _ m (l.map (· ^^^ 90)) Y Ey _ (row_front HC15.out) (xor_byts l hb) (by rw [List.length_map]; exact Hm.out) (by omega) HY.out).mono ?_
  rintro e w17 ⟨rfl, rfl⟩
  go_wp2_with fail
  refine (ends_any _ gl cl gw cw 4 _ _ _ _ (by omega) (by omega) (fun i => ?_) (HBk.out.keep HQ15.out)).mono ?_
  · simp only [upd]
    repeat' split
    all_goals first | omega | simp
  rintro e w18 ⟨rfl, _, hk18⟩
  have HK18 := Hid.mk (HK15.out.step hk18 (fun x hx => by
    simp only [List.mem_cons, mem_blk] at hx
    obtain ⟨q1, q2, q3, q4⟩ := HNw.out
    rcases hx with rfl | ⟨i, hi, hx⟩
    · exact .inr hB
    · rcases (show i = 0 ∨ i = 1 ∨ i = 2 ∨ i = 3 by omega) with rfl | rfl | rfl | rfl
      · simp [upd] at hx; exact .inr (q1 x hx)
      · simp [upd] at hx; exact .inr (q2 x hx)
      · simp [upd] at hx; exact .inr (q3 x hx)
      · simp [upd] at hx; exact .inr (q4 x hx)))
  clear hk18
  go_wp2
  go_ret
  exact ⟨rfl, HK18.out⟩
end Go.Proofs.Ytoghkbajdljheaa
