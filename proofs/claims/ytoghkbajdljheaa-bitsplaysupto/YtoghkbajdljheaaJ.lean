import Derived.Test.YtoghkbajdljheaaL
import Derived.Deep.DeepCutAuto
namespace Go.Proofs.Ytoghkbajdljheaa
open Go.RowKit

theorem cells_five {w : World} {B : Nat} {a b c d f : Value} {t : TypeId} (h : w.heap[B]? = some (.cells #[a, b, c, d, f] t (0, 0))) :
    w.cell? ⟨B, 0, none⟩ = some a ∧ w.cell? ⟨B, 1, none⟩ = some b ∧ w.cell? ⟨B, 2, none⟩ = some c ∧ w.cell? ⟨B, 3, none⟩ = some d ∧ w.cell? ⟨B, 4, none⟩ = some f := by
  refine ⟨?_, ?_, ?_, ?_, ?_⟩ <;> simp [World.cell?, h]

theorem zres_one {l : List Nat} {t n : Nat} {Z E : Int} {t' : Nat} (h : ZerosRes l t n Z E t') (c : Nat) (hc : c < n) (h0 : ∀ i, i < c → nextN l (t + i) 1 = 0) (h1 : nextN l (t + c) 1 = 1) (hl : t + c < 8 * l.length) :
    Z = (c : Int) ∧ E = 0 ∧ t' = t + c + 1 := by
  rcases h with ⟨j, hj, hjl, hz, ho, rfl, rfl, rfl⟩ | ⟨hl2, hz, _⟩ | ⟨hl2, hz, _⟩
  · have : j = c := by
      rcases Nat.lt_trichotomy j c with h | h | h
      · have := h0 j h; omega
      · exact h
      · have := hz c h; omega
    subst this
    exact ⟨rfl, rfl, rfl⟩
  · have := hz c hc; omega
  · have := hz c hl; omega

theorem zres_none {l : List Nat} {t n : Nat} {Z E : Int} {t' : Nat} (h : ZerosRes l t n Z E t') (h0 : ∀ i, i < n → nextN l (t + i) 1 = 0) (hl : t + n ≤ 8 * l.length) :
    Z = (n : Int) ∧ E = 0 ∧ t' = t + n := by
  rcases h with ⟨j, hj, hjl, hz, ho, rfl, rfl, rfl⟩ | ⟨hl2, hz, h1, h2, h3⟩ | ⟨hl2, hz, _⟩
  · have := h0 j hj; omega
  · exact ⟨h1, h2, h3⟩
  · omega

theorem zres_end {l : List Nat} {t n : Nat} {Z E : Int} {t' : Nat} (h : ZerosRes l t n Z E t') (h0 : ∀ i, t + i < 8 * l.length → nextN l (t + i) 1 = 0) (hl : 8 * l.length < t + n) :
    Z = 0 ∧ E = 13 ∧ t' = t := by
  rcases h with ⟨j, hj, hjl, hz, ho, rfl, rfl, rfl⟩ | ⟨hl2, hz, h1, h2, h3⟩ | ⟨hl2, hz, h1, h2, h3⟩
  · have := h0 j hjl; omega
  · omega
  · exact ⟨h1, h2, h3⟩

theorem getRes_ok {l : List Nat} {t n : Nat} {X E : Int} {t' : Nat} (h : GetRes l t n X E t') (hh : t + n ≤ 8 * l.length) : X = (nextN l t n : Int) ∧ E = 0 ∧ t' = t + n := by
  rcases h with ⟨_, h⟩ | ⟨h, _⟩
  · exact h
  · omega
theorem getRes_no {l : List Nat} {t n : Nat} {X E : Int} {t' : Nat} (h : GetRes l t n X E t') (hh : 8 * l.length < t + n) : X = 0 ∧ E = 13 ∧ t' = t := by
  rcases h with ⟨h, _⟩ | ⟨_, h⟩
  · omega
  · exact h

theorem join_sum (l : List Nat) (t : Nat) (p q : Int) (p0 : 0 ≤ p) (q0 : 0 ≤ q) (h32 : p + q ≤ 32) (h : (t : Int) + (p + q) ≤ 8 * (l.length : Int)) :
    IntKind.u64.wrap (nextN l t p.toNat : Int) = (nextN l t p.toNat : Int) ∧ IntKind.u64.wrap (nextN l (t + p.toNat) q.toNat : Int) = (nextN l (t + p.toNat) q.toNat : Int) ∧
    IntKind.u64.wrap (nextN l t (p + q).toNat : Int) = (nextN l t (p + q).toNat : Int) ∧
    IntKind.u64.wrap (IntKind.u64.wrap ((nextN l t p.toNat : Int) * 2 ^ q.toNat) + (nextN l (t + p.toNat) q.toNat : Int)) = (nextN l t (p + q).toNat : Int) := by
  have e : (p + q).toNat = p.toNat + q.toNat := by omega
  have hj := nextN_join l t p.toNat q.toNat (by omega)
  have u1 := next_u32 l t p.toNat (by omega)
  have u2 := next_u32 l (t + p.toNat) q.toNat (by omega)
  have u3 := next_u32 l t (p.toNat + q.toNat) (by omega)
  rw [e]
  generalize nextN l t p.toNat = A at *
  generalize nextN l (t + p.toNat) q.toNat = C at *
  generalize nextN l t (p.toNat + q.toNat) = D at *
  have e2 : (A : Int) * 2 ^ q.toNat = ((A * 2 ^ q.toNat : Nat) : Int) := by rw [pow_two_int, ← Int.natCast_mul]
  rw [e2]
  generalize A * 2 ^ q.toNat = M at *
  refine ⟨?_, ?_, ?_, ?_⟩ <;> simp only [IntKind.wrap_u64] <;> omega

theorem bits_succ {l : List Nat} {t c : Nat} (h : ∀ j, j < c → nextN l (t + j) 1 = 0) (hc : nextN l (t + c) 1 = 0) : ∀ j, j < c + 1 → nextN l (t + j) 1 = 0 := by
  intro j hj
  by_cases e : j = c
  · subst e; exact hc
  · exact h j (by omega)

/-- Blocks that are apart. -/
structure Dist (h Bx gx By gy Bz gz : Nat) : Prop where
  hx : h < Bx
  hy : h < By
  hz : h < Bz
  xy : Bx ≠ By
  xz : Bx ≠ Bz
  yz : By ≠ Bz
  xgy : Bx ≠ gy
  xgz : Bx ≠ gz
  ygx : By ≠ gx
  ygz : By ≠ gz
  zgx : Bz ≠ gx
  zgy : Bz ≠ gy

/-- Three readers over the same bytes, and the box of the argument. -/
structure Js (w wi : World) (o : Obj) (Bx gx By gy Bz gz : Nat) (l : List Nat) (tx ty tz : Nat) : Prop where
  keep : Kept [] w wi
  box : wi.heap[w.heap.size]? = some o
  x : ReaderAt wi Bx gx l tx
  y : ReaderAt wi By gy l ty
  z : ReaderAt wi Bz gz l tz

section
variable {w wi w' : World} {o : Obj} {Bx gx By gy Bz gz : Nat} {l : List Nat} {tx ty tz t : Nat}
theorem Js.atx (h : Js w wi o Bx gx By gy Bz gz l tx ty tz) (d : Dist w.heap.size Bx gx By gy Bz gz) (hk : Kept [Bx] wi w') (hr : ReaderAt w' Bx gx l t) : Js w w' o Bx gx By gy Bz gz l t ty tz :=
  ⟨h.keep.step hk (by have := d.hx; simp; omega), hk.heap h.box (by have := d.hx; simp; omega), hr, reader_kept h.y hk (by simpa using d.xy.symm) (by simpa using d.xgy.symm), reader_kept h.z hk (by simpa using d.xz.symm) (by simpa using d.xgz.symm)⟩
theorem Js.aty (h : Js w wi o Bx gx By gy Bz gz l tx ty tz) (d : Dist w.heap.size Bx gx By gy Bz gz) (hk : Kept [By] wi w') (hr : ReaderAt w' By gy l t) : Js w w' o Bx gx By gy Bz gz l tx t tz :=
  ⟨h.keep.step hk (by have := d.hy; simp; omega), hk.heap h.box (by have := d.hy; simp; omega), reader_kept h.x hk (by simpa using d.xy) (by simpa using d.ygx.symm), hr, reader_kept h.z hk (by simpa using d.yz.symm) (by simpa using d.ygz.symm)⟩
theorem Js.atz (h : Js w wi o Bx gx By gy Bz gz l tx ty tz) (d : Dist w.heap.size Bx gx By gy Bz gz) (hk : Kept [Bz] wi w') (hr : ReaderAt w' Bz gz l t) : Js w w' o Bx gx By gy Bz gz l tx ty t :=
  ⟨h.keep.step hk (by have := d.hz; simp; omega), hk.heap h.box (by have := d.hz; simp; omega), reader_kept h.x hk (by simpa using d.xz) (by simpa using d.zgx.symm), reader_kept h.y hk (by simpa using d.yz) (by simpa using d.zgy.symm), hr⟩
theorem Js.none (h : Js w wi o Bx gx By gy Bz gz l tx ty tz) (hk : Kept [] wi w') : Js w w' o Bx gx By gy Bz gz l tx ty tz :=
  ⟨h.keep.trans hk, hk.heap h.box (by simp), reader_kept h.x hk (by simp) (by simp), reader_kept h.y hk (by simp) (by simp), reader_kept h.z hk (by simp) (by simp)⟩
theorem Js.drewN (h : Js w wi o Bx gx By gy Bz gz l tx ty tz) (q : Nat) : Js w (wi.drewN q) o Bx gx By gy Bz gz l tx ty tz := h.none ((Kept.refl _ _).drewN q)
end

set_option maxHeartbeats 2000000 in
set_option maxRecDepth 1000000 in
theorem joins_any (ao : Option Addr) (cap m : Nat) (l : List Nat) (a1 a2 a3 a4 : Int) (w : World) (hr : Reads w ao l) (hb : Byts l) (hm : l.length = m) (hl : m ≤ 281474976710656)
    (b1 : -9223372036854775808 ≤ a1 ∧ a1 ≤ 9223372036854775807) (b2 : -9223372036854775808 ≤ a2 ∧ a2 ≤ 9223372036854775807) (b3 : -9223372036854775808 ≤ a3 ∧ a3 ≤ 9223372036854775807) (b4 : -9223372036854775808 ≤ a4 ∧ a4 ≤ 9223372036854775807) :
    Calls Try.prog 7 #[.agg #[.slice ao m cap, .int .i64 a1, .int .i64 a2, .int .i64 a3, .int .i64 a4]] w fun e w' => e = .returned (.bool true) ∧ Kept [] w w' := by
  -- the numbers
  have k0 := pick_lo a1 33 (by decide)
  have k1 := pick_hi a1 33 (by decide)
  have Hk := Hid.mk (fun w => pick_any a1 33 w b1.1 b1.2 (by decide))
  have n0 := pick_lo a4 33 (by decide)
  have n1 := pick_hi a4 33 (by decide)
  have Hn := Hid.mk (fun w => pick_any a4 33 w b4.1 b4.2 (by decide))
  have p0 := pick_lo a2 33 (by decide)
  have p1 := pick_hi a2 33 (by decide)
  have Hp := Hid.mk (fun w => pick_any a2 33 w b2.1 b2.2 (by decide))
  generalize pick a1 33 = k at *
  generalize pick a4 33 = n at *
  generalize pick a2 33 = p at *
  have q0 := pick_lo a3 (33 - p) (by omega)
  have q1 := pick_hi a3 (33 - p) (by omega)
  have Hq := Hid.mk (fun w => pick_any a3 (33 - p) w b3.1 b3.2 (by omega))
  generalize pick a3 (33 - p) = q at *
  clear b1 b2 b3 b4
  obtain ⟨X, E, t0, hX⟩ := getRes_ex l 0 k.toNat
  have ht0 : t0 ≤ 8 * m := by rcases hX with ⟨h, _, _, rfl⟩ | ⟨h, _, _, rfl⟩ <;> omega
  have hE : (E == 0) = decide (k ≤ 8 * (m : Int)) := by
    rcases hX with ⟨h, _, rfl, _⟩ | ⟨h, _, rfl, _⟩
    · simp; omega
    · simp; omega
  obtain ⟨Z, Ez, tz, hZ, hZc⟩ := zeros_res l t0 n (by omega) n0 (by omega)
  obtain ⟨U, I, t1, hU⟩ := getRes_ex l t0 p.toNat
  obtain ⟨V, J, t2, hV⟩ := getRes_ex l t1 q.toNat
  obtain ⟨Wd, O, t3, hWd⟩ := getRes_ex l t0 (p + q).toNat
  have HX := Hid.mk hX
  have HZ := Hid.mk hZ
  have HZc := Hid.mk hZc
  have HU := Hid.mk hU
  have HV := Hid.mk hV
  have HWd := Hid.mk hWd
  have Hm := Hid.mk hm
  have Hr := Hid.mk hr
  clear hX hZ hZc hU hV hWd hm hr
  go_enter Try.func7, Try.ntmps7
  go_wp2_with (go_at_call 9; refine (alive_any _).mono ?_; rintro e w1 ⟨rfl, hk1⟩; have HB1 := Hid.mk (hk1.heap (heap_alloc_new w _) (by simp)); have x0 := (cells_five HB1.out).1)
  have HK1 := Hid.mk (((Kept.refl [] w).alloc _).trans hk1)
  have s1 : w.heap.size < w1.heap.size := lt_of_block HB1.out
  clear hk1 x0
  refine (newReader_any _ _ m l _ (Hr.out.keep HK1.out) hb Hm.out hl).mono ?_
  rintro e w2 ⟨Bx, gx, rfl, bx1, gx1, hRx, hk2⟩
  have HB2 := Hid.mk (hk2.heap HB1.out (by simp))
  have HK2 := Hid.mk (HK1.out.trans hk2)
  have bx2 := lt_of_block hRx.1
  have gx2 := lt_of_block hRx.2.1
  have HRx := Hid.mk hRx
  clear hk2 hRx HB1 HK1
  go_wp2_with fail
  refine (newReader_any _ _ m l _ (Hr.out.keep HK2.out) hb Hm.out hl).mono ?_
  rintro e w3 ⟨By, gy, rfl, by1, gy1, hRy, hk3⟩
  have HB3 := Hid.mk (hk3.heap HB2.out (by simp))
  have HK3 := Hid.mk (HK2.out.trans hk3)
  have HRx3 := Hid.mk (reader_kept HRx.out hk3 (by simp) (by simp))
  have by2 := lt_of_block hRy.1
  have gy2 := lt_of_block hRy.2.1
  have HRy := Hid.mk hRy
  clear hk3 hRy HB2 HK2 HRx
  go_wp2_with fail
  refine (newReader_any _ _ m l _ (Hr.out.keep HK3.out) hb Hm.out hl).mono ?_
  rintro e w4 ⟨Bz, gz, rfl, bz1, gz1, hRz, hk4⟩
  have hD : Dist w.heap.size Bx gx By gy Bz gz := ⟨by omega, by omega, by omega, by omega, by omega, by omega, by omega, by omega, by omega, by omega, by omega, by omega⟩
  have HJ4 : Hid (Js w w4 (.cells #[.slice ao m cap, .int .i64 a1, .int .i64 a2, .int .i64 a3, .int .i64 a4] 71 (0, 0)) Bx gx By gy Bz gz l 0 0 0) :=
    ⟨HK3.out.trans hk4, hk4.heap HB3.out (by simp), reader_kept HRx3.out hk4 (by simp) (by simp), reader_kept HRy.out hk4 (by simp) (by simp), hRz⟩
  have x1 := (cells_five HJ4.out.box).2.1
  clear hk4 hRz HB3 HK3 HRx3 HRy bx1 bx2 by1 by2 bz1 gx1 gx2 gy1 gy2 gz1 s1
  go_wp2_with (go_at_call 22; refine (Hk.out _).mono ?_; rintro e w5 ⟨rfl, rfl⟩)
  clear x1
  refine (get_res Bx gx l 0 k X E t0 _ HJ4.out.x k0 (by omega) HX.out).mono ?_
  rintro e w6 ⟨rfl, hR6, hk6⟩
  have HJ6 := Hid.mk (HJ4.out.atx hD hk6 hR6)
  clear hk6 hR6 HJ4
  go_wp2_with fail
  refine (get_res By gy l 0 k X E t0 _ HJ6.out.y k0 (by omega) HX.out).mono ?_
  rintro e w7 ⟨rfl, hR7, hk7⟩
  have HJ7 := Hid.mk (HJ6.out.aty hD hk7 hR7)
  clear hk7 hR7 HJ6
  go_wp2_with fail
  refine (get_res Bz gz l 0 k X E t0 _ HJ7.out.z k0 (by omega) HX.out).mono ?_
  rintro e w8 ⟨rfl, hR8, hk8⟩
  have HJ8 := Hid.mk (HJ7.out.atz hD hk8 hR8)
  have x4 := (cells_five HJ8.out.box).2.2.2.2
  clear hk8 hR8 HJ7
  go_wp2_with (go_at_call 22; refine (Hn.out _).mono ?_; rintro e w9 ⟨rfl, rfl⟩)
  clear x4
  refine (HZc.out Bz gz _ HJ8.out.z).mono ?_
  rintro e w10 ⟨rfl, hR10, hk10⟩
  have HJ10 := Hid.mk (HJ8.out.atz hD hk10 hR10)
  clear hk10 hR10 HJ8
  go_wp2_with fail
  refine (left_any Bx gx l t0 _ HJ10.out.x).mono ?_
  rintro e w11 ⟨rfl, q11, rfl⟩
  rw [Hm.out]
  have HJ11 := Hid.mk (HJ10.out.drewN q11)
  have x2 := (cells_five HJ11.out.box).2.2.1
  have x3 := (cells_five HJ11.out.box).2.2.2.1
  clear HJ10
  go_wp2_with fail
  refine (Hp.out _).mono ?_
  rintro e w12 ⟨rfl, rfl⟩
  go_wp2_with fail
  refine (Hq.out _).mono ?_
  rintro e w13 ⟨rfl, rfl⟩
  clear x2 x3
  go_wp2_with fail
  refine (get_res Bx gx l t0 p U I t1 _ HJ11.out.x p0 (by omega) HU.out).mono ?_
  rintro e w14 ⟨rfl, hR14, hk14⟩
  have HJ14 := Hid.mk (HJ11.out.atx hD hk14 hR14)
  clear hk14 hR14 HJ11
  go_wp2_with fail
  refine (get_res Bx gx l t1 q V J t2 _ HJ14.out.x q0 (by omega) HV.out).mono ?_
  rintro e w15 ⟨rfl, hR15, hk15⟩
  have HJ15 := Hid.mk (HJ14.out.atx hD hk15 hR15)
  clear hk15 hR15 HJ14
  go_wp2_with fail
  refine (get_res By gy l t0 (p + q) Wd O t3 _ HJ15.out.y (by omega) (by omega) HWd.out).mono ?_
  rintro e w16 ⟨rfl, hR16, hk16⟩
  have HJ16 := Hid.mk (HJ15.out.aty hD hk16 hR16)
  clear hk16 hR16 HJ15
  go_upto_if 138 with (fail)
  go_cut [18] (fun s18 wc => s18 = .int .i64 0 ∧ wc = w16)
  case first =>
    have hmm := Hm.out
    by_cases c1 : p + q ≤ 8 * (m : Int) - (t0 : Int)
    · obtain ⟨hU1, rfl, hU3⟩ := getRes_ok HU.out (by omega)
      obtain ⟨hV1, rfl, hV3⟩ := getRes_ok HV.out (by omega)
      obtain ⟨hW1, rfl, hW3⟩ := getRes_ok HWd.out (by omega)
      have hsum := join_sum l t0 p q p0 q0 (by omega) (by omega)
      rw [← hU1, ← hU3, ← hV1, ← hW1] at hsum
      obtain ⟨wU, wV, wW, hs⟩ := hsum
      clear hU1 hU3 hV1 hV3 hW1 hW3 hmm HX HZ HZc HU HV HWd Hk Hn Hp Hq Hr HJ16 hb
      go_wp2
      all_goals go_meet
      all_goals exact ⟨rfl, rfl⟩
    · obtain ⟨hW1, rfl, hW3⟩ := getRes_no HWd.out (by omega)
      by_cases c2 : (t0 : Int) + p ≤ 8 * (m : Int)
      · obtain ⟨hU1, rfl, hU3⟩ := getRes_ok HU.out (by omega)
        obtain ⟨hV1, rfl, hV3⟩ := getRes_no HV.out (by omega)
        clear hU1 hU3 hV1 hV3 hW1 hW3 hmm HX HZ HZc HU HV HWd Hk Hn Hp Hq Hr HJ16 hb
        go_wp2
        all_goals go_meet
        all_goals exact ⟨rfl, rfl⟩
      · obtain ⟨hU1, rfl, hU3⟩ := getRes_no HU.out (by omega)
        clear hU1 hU3 hW1 hW3 hmm HX HZ HZc HU HV HWd Hk Hn Hp Hq Hr HJ16 hb
        go_wp2
        all_goals go_meet
        all_goals exact ⟨rfl, rfl⟩
  case rest =>
    obtain ⟨rfl, rfl⟩ := hcut
    clear HU HV HWd Hk Hn Hp Hq
    go_wp2_with fail
    refine (newReader_any _ _ m l _ (Hr.out.keep HJ16.out.keep) hb Hm.out hl).mono ?_
    rintro e w17 ⟨Bs, gs, rfl, bs1, gs1, hRs, hk17⟩
    have bz2 := lt_of_block HJ16.out.z.1
    have gz2 := lt_of_block HJ16.out.z.2.1
    have sz := HJ16.out.keep.size
    have HK17 := Hid.mk (HJ16.out.keep.trans hk17)
    have HZ17 := Hid.mk (reader_kept HJ16.out.z hk17 (by simp) (by simp))
    have HS17 := Hid.mk hRs
    have zs1 : Bz ≠ Bs := by omega
    have zs2 : gz ≠ Bs := by omega
    have zs3 : w.heap.size ≤ Bs := by omega
    clear hk17 hRs HJ16 bs1 gs1 bz2 gz2 sz hb Hr
    go_wp2_with fail
    refine (get_res Bs gs l 0 k X E t0 _ HS17.out k0 (by omega) HX.out).mono ?_
    rintro e w18 ⟨rfl, hR18, hk18⟩
    have HK18 := Hid.mk (HK17.out.step hk18 (by simp; omega))
    have HZ18 := Hid.mk (reader_kept HZ17.out hk18 (by simpa using zs1) (by simpa using zs2))
    have HS18 := Hid.mk hR18
    clear hk18 hR18 HK17 HZ17 HS17
    go_wp2_with fail
    go_loopw [18] (fun i wx => ∃ c : Nat, (c : Int) ≤ n ∧ t0 + c ≤ 8 * m ∧ i = .int .i64 c ∧ (∀ j, j < c → nextN l (t0 + j) 1 = 0) ∧ ReaderAt wx Bs gs l (t0 + c) ∧ ReaderAt wx Bz gz l tz ∧ Kept [] w wx) (fun i _ => n.toNat - (intOf i).toNat)
    case atStart => exact ⟨0, by omega, by omega, rfl, by simp, HS18.out, HZ18.out, HK18.out⟩
    case round =>
      obtain ⟨c, hc, hct, rfl, hbits, hRs, hRz, hKx⟩ := hrel
      have Hbits := Hid.mk hbits
      have HRs := Hid.mk hRs
      have HRz := Hid.mk hRz
      have HKx := Hid.mk hKx
      clear hbits hRs hRz hKx HS18 HZ18 HK18
      by_cases hcn : (c : Int) < n
      · by_cases hend : t0 + c < 8 * m
        · have hlt := nextN_lt l (t0 + c) 1
          by_cases hone : nextN l (t0 + c) 1 = 1
          · have hg : GetRes l (t0 + c) 1 1 0 (t0 + c + 1) := .inl ⟨by rw [Hm.out]; omega, by rw [hone]; rfl, rfl, rfl⟩
            obtain ⟨hZ1, rfl, htz⟩ := zres_one HZ.out c (by omega) Hbits.out hone (by rw [Hm.out]; omega)
            subst hZ1
            subst htz
            have Hg := Hid.mk hg
            clear hg hone hlt HX HZ HZc Hbits
            go_wp2_with fail
            refine (get_res Bs gs l (t0 + c) 1 _ _ _ _ HRs.out (by decide) (by decide) Hg.out).mono ?_
            rintro e w19 ⟨rfl, hR19, hk19⟩
            have HZ19 := Hid.mk (reader_kept HRz.out hk19 (by simpa using zs1) (by simpa using zs2))
            have HS19 := Hid.mk hR19
            have HK19 := Hid.mk (HKx.out.step hk19 (by simp; omega))
            clear hk19 hR19 HRz HRs HKx
            go_wp2_with fail
            refine (left_any Bz gz l _ _ HZ19.out).mono ?_
            rintro e w20 ⟨rfl, q20, rfl⟩
            go_wp2_with fail
            refine (left_any Bs gs l _ _ (reader_drewN HS19.out q20)).mono ?_
            rintro e w21 ⟨rfl, q21, rfl⟩
            go_wp2
            go_ret
            exact ⟨ret_bool (by simp), HK19.out.drewN _⟩
          · have hz0 : nextN l (t0 + c) 1 = 0 := by omega
            have hg : GetRes l (t0 + c) 1 0 0 (t0 + c + 1) := .inl ⟨by rw [Hm.out]; omega, by rw [hz0]; rfl, rfl, rfl⟩
            have Hg := Hid.mk hg
            have Hz0 := Hid.mk hz0
            clear hg hone hz0 hlt
            go_wp2_with fail
            refine (get_res Bs gs l (t0 + c) 1 _ _ _ _ HRs.out (by decide) (by decide) Hg.out).mono ?_
            rintro e w19 ⟨rfl, hR19, hk19⟩
            have HZ19 := Hid.mk (reader_kept HRz.out hk19 (by simpa using zs1) (by simpa using zs2))
            have HS19 := Hid.mk hR19
            have HK19 := Hid.mk (HKx.out.step hk19 (by simp; omega))
            clear hk19 hR19 HRz HRs HKx
            go_wp2
            go_roundw
            case rel => exact ⟨c + 1, by omega, by omega, by go_num, bits_succ Hbits.out Hz0.out, HS19.out, HZ19.out, HK19.out⟩
            case measure => simp [intOf]; omega
        · have hg : GetRes l (t0 + c) 1 0 13 (t0 + c) := .inr ⟨by rw [Hm.out]; omega, rfl, rfl, rfl⟩
          obtain ⟨hZ1, rfl, htz⟩ := zres_end HZ.out (fun i hi => Hbits.out i (by rw [Hm.out] at hi; omega)) (by rw [Hm.out]; omega)
          subst hZ1
          subst htz
          have Hg := Hid.mk hg
          clear hg HX HZ HZc Hbits
          go_wp2_with fail
          refine (get_res Bs gs l (tz + c) 1 _ _ _ _ HRs.out (by decide) (by decide) Hg.out).mono ?_
          rintro e w19 ⟨rfl, hR19, hk19⟩
          have HZ19 := Hid.mk (reader_kept HRz.out hk19 (by simpa using zs1) (by simpa using zs2))
          have HK19 := Hid.mk (HKx.out.step hk19 (by simp; omega))
          clear hk19 hR19 HRz HRs HKx
          go_wp2_with fail
          refine (left_any Bz gz l _ _ HZ19.out).mono ?_
          rintro e w20 ⟨rfl, q20, rfl⟩
          rw [Hm.out]
          go_wp2
          go_ret
          exact ⟨ret_bool (by simp), HK19.out.drewN _⟩
      · obtain ⟨hZ1, rfl, htz⟩ := zres_none HZ.out (fun i hi => Hbits.out i (by omega)) (by rw [Hm.out]; omega)
        have hZ2 : Z = n := by omega
        have htz2 : tz = t0 + c := by omega
        have hcn2 : n = (c : Int) := by omega
        subst hZ2
        subst htz2
        clear HX HZ HZc Hbits hZ1 htz
        go_wp2_with fail
        refine (left_any Bz gz l _ _ HRz.out).mono ?_
        rintro e w20 ⟨rfl, q20, rfl⟩
        go_wp2_with fail
        refine (left_any Bs gs l _ _ (reader_drewN HRs.out q20)).mono ?_
        rintro e w21 ⟨rfl, q21, rfl⟩
        go_wp2
        go_ret
        exact ⟨ret_bool (by simp), HKx.out.drewN _⟩
end Go.Proofs.Ytoghkbajdljheaa
