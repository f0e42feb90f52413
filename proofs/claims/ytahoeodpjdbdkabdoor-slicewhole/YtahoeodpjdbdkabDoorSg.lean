import Derived.Test.YtahoeodpjdbdkabDoorSe
namespace Go.Proofs.YtahoeodpjdbdkabDoor
open Go.RowKit

set_option maxHeartbeats 8000000 in
set_option maxRecDepth 1000000 in
theorem through38 {α : Type} (B P X G ty : Nat) (T d D : Int) (W H n : Nat) (ext : List Value) (V : Drv α) (I : World → Wk → α → Prop) (Bd : World → List PanicEntry → Prop) 
    (hD : Dp D T) (hG : Gd T d) (hn : n ≤ 4194304) (hW : 1 ≤ W) (hW2 : W ≤ 4096) (hWH : n = W * H) (s : Wk) (x : α) (hH : Hnd B P X G ty T d D W n ext 37 38 V I Bd (Rch T d W n V s x)) (w : World) (h : I w s x) (hin : s.In T) (hst : s.t ≤ n) :
    Calls Tryd.prog 36 #[.pointer (some ⟨B, 0, none⟩), .func (.func 37) #[.pointer (some ⟨B, 0, none⟩)] #[], .func (.func 38) #[.pointer (some ⟨B, 0, none⟩)] #[]] w fun e w' =>
      (e = .returned (.tuple #[]) ∧ ∃ s' x', Rch T d W n V s x s' x' ∧ s'.t = n ∧ s'.In T ∧ I w' s' x') ∨
      (∃ pc s' x', e = .panicked pc ∧ Rch T d W n V s x s' x' ∧ s'.In T ∧ Stk T d W n V s' x' ∧ Bd w' pc) := by
  have HH := Hid.mk hH
  have h0 := Hid.mk h
  have Hin := Hid.mk hin
  have HWH := Hid.mk hWH
  clear hH h hin hWH
  go_enter Tryd.func36, Tryd.ntmps36
  go_wp2
  go_loopg [6, 7, 8, 9, 10] (n - s.t) (fun k s6 s7 s8 s9 s10 wr => ∃ sr xr, k = n - sr.t ∧ sr.t ≤ n ∧ sr.In T ∧ Rch T d W n V s x sr xr ∧ I wr sr xr)
  case atStart => exact ⟨s, x, rfl, hst, Hin.out, .refl, h0.out⟩
  case round =>
    obtain ⟨sr, xr, hgk, hle, hin, hR, hI⟩ := hrel
    have hm := HH.out.wm _ _ _ hI
    have F := hm.fact
    have Hgk := Hid.mk hgk
    have Hle := Hid.mk hle
    have Hin := Hid.mk hin
    have HR := Hid.mk hR
    have HI := Hid.mk hI
    have Hm := Hid.mk hm
    obtain ⟨c0, c1, c2, c3, c4, c5, fz⟩ := F
    clear hgk hin hR hI hm fz h0 
    by_cases hlt : sr.t < n
    · have hlt' : (sr.t : Int) < (n : Int) := by omega
      have C := Hid.mk (fun q => spot_any B P X G ty T d D W n ext sr (wr.drewN q) (Hm.out.drewN q) hD hn hlt hW hW2 Hin.out)
      obtain ⟨k, hk⟩ : ∃ k, xk T d W sr = k := ⟨_, rfl⟩
      obtain ⟨g, hg⟩ : ∃ g, xs T d W sr = g := ⟨_, rfl⟩
      obtain ⟨p, hp⟩ : ∃ p, xp T d W sr = p := ⟨_, rfl⟩
      rw [hk, hg, hp] at C
      have Ek := Hid.mk hk
      have Eg := Hid.mk hg
      have Ep := Hid.mk hp
      have Hlt := Hid.mk hlt
      clear hk hg hp hlt
      by_cases hk0 : k = 0
      · have hpA : p = nA T W sr.b sr.t := by rw [← Ep.out]; unfold xp; rw [if_pos (Ek.out.trans hk0)]
        have Hk0 := Hid.mk (Ek.out.trans hk0)
        obtain ⟨a, ha⟩ : ∃ a, nA T W sr.b sr.t = a := ⟨_, rfl⟩
        have Ea := Hid.mk ha
        rw [ha] at hpA
        have hain := nA_in hG Hin.out hW
        rw [ha] at hain
        have hTT := hG.t0
        subst hpA hk0
        obtain ⟨rm, hrm⟩ : ∃ rm, rom W sr.t = rm := ⟨_, rfl⟩
        have Erm := Hid.mk hrm
        have hr1 := rom_pos (W := W) (t := sr.t) hW
        have hr2 := rom_in (H := H) hW (show sr.t < W * H by rw [← HWH.out]; exact Hlt.out)
        rw [← HWH.out] at hr2
        rw [hrm] at hr1 hr2
        clear ha hrm
        go_wp2
        go_quiet (fail)
        go_wp2_with (fail)
        refine (C.out _).mono ?_
        rintro e w1 ⟨rfl, k1⟩
        obtain ⟨w2, hw2, k2, b2⟩ := three_new w1 (.int .i64 0) (.int .i64 g) (.int .i64 p) 103
        have K2 : Kept [] wr w2 := ((Kept.refl [] wr).drewN nq).trans (k1.trans k2)
        have i2 := HH.out.step wr w2 sr sr xr HI.out (K2.mono (by simp)) (Hm.out.keep K2 (by simp))
        obtain ⟨q0, q1, q2⟩ := agg3 b2
        have I2 := Hid.mk i2
        have B2 := Hid.mk b2
        obtain ⟨Q, hQ⟩ : ∃ Q, w1.heap.size = Q := ⟨_, rfl⟩
        rw [hQ] at q0 q1 q2 B2
        clear k1 k2 b2 i2 K2 C
        go_wp2_with (fail)
        clear hw2 hQ
        refine (room_any B P X G ty T d D W n ext sr w2 (HH.out.wm _ _ _ I2.out) hW hW2).mono ?_
        rintro e w3 ⟨rfl, m3, rfl⟩
        rw [Erm.out]
        go_wp2_with (fail)
        have i3 : I (w2.drewN m3) sr xr := HH.out.step w2 _ sr sr xr I2.out ((Kept.refl _ _).drewN m3) ((HH.out.wm _ _ _ I2.out).drewN m3)
        have C4 := HH.out.run _ sr xr i3 Hin.out Hlt.out Hk0.out HR.out
        rw [Ea.out, Erm.out] at C4
        refine C4.mono ?_
        clear C4 i3 q0 q1 q2 I2
        rintro e w4 (⟨m, x4, rfl, hm, hr, i4, s4⟩ | ⟨pc, rfl, hb, hbd⟩)
        · have B4 := Hid.mk (s4 Q _ (((Kept.refl [] w2).drewN m3).heap B2.out (by simp)))
          obtain ⟨q0, q1, q2⟩ := agg3 B4.out
          have I4 := Hid.mk i4
          have Hr := Hid.mk hr
          clear i4 hr s4 B2
          go_wp2_with (fail)
          refine (fill_any B P X G ty T d D W n ext _ (m : Int) p w4 (HH.out.wm _ _ _ I4.out) (by omega) (by show sr.t + _ ≤ n; rw [Int.toNat_natCast]; omega) hn (by omega) (by omega)).mono ?_
          clear q0 q1 q2
          rintro e w5 ⟨rfl, m5, k5⟩
          rw [Int.toNat_natCast] at m5
          have i5 : I w5 (gor T W sr m) x4 := HH.out.step w4 w5 _ _ x4 I4.out (k5.mono (by simp)) (by unfold gor; rw [Ea.out, Erm.out]; exact m5)
          have B5 := Hid.mk ((HH.out.wm _ _ _ I4.out).s98 (k5.mono (by simp)) Q _ B4.out)
          obtain ⟨q0, q1, q2⟩ := agg3 B5.out
          have I5 := Hid.mk i5
          clear i5 m5 k5 B4 I4
          have hin5 := Hid.mk (gor_in hG Hin.out hW m)
          by_cases hmr : m = rm
          · subst hmr
            go_wp2_with (fail)
            go_roundg (n - (sr.t + m))
            case measure => have := Hgk.out; omega
            case rel => exact ⟨gor T W sr m, x4, rfl, by show sr.t + m ≤ n; omega, hin5.out, HR.out.tail ⟨Hlt.out, .inl ⟨Hk0.out, m, x4, by rw [Erm.out]; exact hm, Hr.out, .inl ⟨Erm.out.symm, rfl, rfl⟩⟩⟩, I5.out⟩
          · have hmr' : ((m : Int) == (rm : Int)) = false := by simp; omega
            go_wp2_with (fail)
            clear q0 q1 q2
            have C6 := HH.out.one w5 (gor T W sr m) x4 0 g p 1 I5.out hin5.out (by show _ < n; show sr.t + m < n; omega) (.inr ⟨rfl, rfl, sr, xr, m, by rw [Erm.out]; exact hm, by rw [Erm.out]; exact hmr, Hr.out, rfl, Eg.out.symm, Ea.out.symm, Hk0.out, Hin.out, Hlt.out, HR.out⟩)
            refine C6.mono ?_
            clear C6
            rintro e w6 (⟨q, x6, rfl, qlo, qhi, ho, i6, s6⟩ | ⟨pc, rfl, hb, hbd⟩)
            · have B6 := Hid.mk (s6 Q _ B5.out)
              have hm6 := HH.out.wm _ _ _ i6
              have I6 := Hid.mk i6
              have Ho := Hid.mk ho
              obtain ⟨-, -, c2, -, -, -, -⟩ := hm6.fact
              obtain ⟨y0, y1, y2⟩ := agg3 B6.out
              have C7 := Hid.mk (fun W7 (hk : Kept [] w6 W7) => (learn_any P T d 0 q ((gor T W sr m)).L W7 (hm6.md.keep hk (by simp))).mono (R' := fun e w7 => e = .returned (.tuple #[]) ∧ Hid (I w7 ⟨lL T d ((gor T W sr m)).L 0 q, ((gor T W sr m)).r, ((gor T W sr m)).b, ((gor T W sr m)).t⟩ x6) ∧ Hid (w7.heap[Q]? = some (.cells #[.int .i64 0, .int .i64 g, .int .i64 p] 103 (0, 0))) ∧ w7.cell? ⟨B, 2, none⟩ = some (.pointer (some ⟨P, 0, none⟩)) ∧ w7.cell? ⟨Q, 0, none⟩ = some (.int .i64 0) ∧ w7.cell? ⟨Q, 1, none⟩ = some (.int .i64 g) ∧ w7.cell? ⟨Q, 2, none⟩ = some (.int .i64 p)) (by
                rintro e w7 ⟨rfl, m7, k7⟩
                have k7 : Kept [P] w6 w7 := (hk.mono (by simp)).trans k7
                have hm7 := hm6.learn k7 m7
                have B7 := hm6.s98 (k7.mono (by simp)) Q _ B6.out
                obtain ⟨z0, z1, z2⟩ := agg3 B7
                exact ⟨rfl, Hid.mk (HH.out.step w6 w7 _ _ x6 I6.out (k7.mono (by simp)) hm7), Hid.mk B7, hm7.fact.c2, z0, z1, z2⟩))
              obtain ⟨g0, g1, g2⟩ := gq_in (g := g) (q := q) (by rw [← Eg.out]; exact xs_one ..) qlo qhi
              clear i6 s6 ho hm6 B5 I5 B6 I6
              go_wp2_with (fail)
              go_region_held_law (fun w' => w'.cell? ⟨B, 2, none⟩ = some (.pointer (some ⟨P, 0, none⟩)) ∧ w'.cell? ⟨Q, 0, none⟩ = some (.int .i64 0)) (first | exact ⟨c2, y0⟩ | exact ⟨t2, t3⟩ | go_keep) (first | (go_at_call 51; refine (C7.out _ (by first | with_reducible exact (Kept.refl _ _).drew | with_reducible exact Kept.refl _ _)).mono ?_; rintro e w7 ⟨rfl, I7, B7, t2, t3, t4, t5⟩))
              have hm7 := HH.out.wm _ _ _ I7.out
              have vin := gro_in hG p (g * q)
              obtain ⟨gq, hgq⟩ : ∃ gq, g * q = gq := ⟨_, rfl⟩
              have g3 : IntKind.i64.wrap (g * q) = gq := g0.trans hgq
              have C8 := Hid.mk (fun W8 (hk : Kept [] w7 W8) => grow_any P T d p gq W8 (hm7.md.keep hk (by simp)).hd hG)
              have C9 := Hid.mk (fun W9 (hk : Kept [] w7 W9) => (fill_any B P X G ty T d D W n ext _ 1 (gro T d p (g * q)) W9 (hm7.keep hk (by simp)) (by omega) (by show _ + 1 ≤ n; show sr.t + m + 1 ≤ n; omega) hn (by omega) (by omega)).mono (R' := fun e w9 => e = .returned (.tuple #[]) ∧ Hid (I w9 (goo T d (gor T W sr m) 0 g p q) x6) ∧ w9.cell? ⟨B, 2, none⟩ = some (.pointer (some ⟨P, 0, none⟩)) ∧ w9.cell? ⟨Q, 1, none⟩ = some (.int .i64 g) ∧ w9.cell? ⟨Q, 2, none⟩ = some (.int .i64 p)) (by
                rintro e w9 ⟨rfl, m9, k9⟩
                have k9 : Kept [B, G, P] w7 w9 := (hk.mono (by simp)).trans (k9.mono (by simp))
                obtain ⟨z0, z1, z2⟩ := agg3 (hm7.s98 k9 Q _ B7.out)
                exact ⟨rfl, Hid.mk (HH.out.step w7 w9 _ _ x6 I7.out k9 m9), m9.fact.c2, z1, z2⟩))
              rw [hgq] at C9
              obtain ⟨v8, hv8⟩ : ∃ v8, gro T d p gq = v8 := ⟨_, rfl⟩
              rw [hv8] at C8 C9
              clear g0 hgq hv8 hm7 y0 y1 y2 c2 C7 vin I7 B7
              go_wp2_with (fail)
              go_region_held_law (fun w' => w'.cell? ⟨B, 2, none⟩ = some (.pointer (some ⟨P, 0, none⟩)) ∧ w'.cell? ⟨Q, 1, none⟩ = some (.int .i64 g) ∧ w'.cell? ⟨Q, 2, none⟩ = some (.int .i64 p)) (first | exact ⟨t2, t4, t5⟩ | exact ⟨r2, r4, r5⟩ | go_keep) (first | (go_at_call 52; refine (C8.out _ (by first | with_reducible exact (Kept.refl _ _).drew | with_reducible exact Kept.refl _ _)).mono ?_; rintro e w8 ⟨rfl, m8, rfl⟩) | (go_at_call 48; refine (C9.out _ (by first | with_reducible exact ((Kept.refl _ _).drew).drewN _ | with_reducible exact (Kept.refl _ _).drewN _)).mono ?_; rintro e w9 ⟨rfl, I9, r2, r4, r5⟩))
              all_goals
                clear C8 C9 t2 t3 t4 t5 r2 r4 r5
                go_wp2_with (fail)
                go_roundg (n - ((sr.t + m) + 1))
                case measure => have := Hgk.out; omega
                case rel => exact ⟨goo T d (gor T W sr m) 0 g p q, x6, rfl, by show _ + 1 ≤ n; show sr.t + m + 1 ≤ n; omega, goo_in hG hin5.out _ _ _ _, HR.out.tail ⟨Hlt.out, .inl ⟨Hk0.out, m, x4, by rw [Erm.out]; exact hm, Hr.out, .inr ⟨by rw [Erm.out]; exact hmr, q, by rw [Eg.out, Ea.out]; exact Ho.out, by rw [Eg.out, Ea.out]⟩⟩⟩, I9.out⟩
            · exact bodyPost_panic rfl (.inr ⟨pc, sr, xr, rfl, HR.out, Hin.out, ⟨Hlt.out, .inl ⟨Hk0.out, .inr ⟨m, x4, by rw [Erm.out]; exact hm, by rw [Erm.out]; exact hmr, Hr.out, by rw [Eg.out, Ea.out]; exact hb⟩⟩⟩, hbd⟩)
        · exact bodyPost_panic rfl (.inr ⟨pc, sr, xr, rfl, HR.out, Hin.out, ⟨Hlt.out, .inl ⟨Hk0.out, .inl hb⟩⟩, hbd⟩)
      · have hk1 : (k == 0) = false := by simpa using hk0
        have hkz : k ≠ 0 := hk0
        have Hkz := Hid.mk hkz
        have hTT := hG.t0
        clear hkz hk0
        go_wp2
        go_quiet (fail)
        go_wp2_with (fail)
        refine (C.out _).mono ?_
        rintro e w1 ⟨rfl, k1⟩
        obtain ⟨w5, hw5, k2, b5⟩ := three_new w1 (.int .i64 k) (.int .i64 g) (.int .i64 p) 103
        have K5 : Kept [] wr w5 := ((Kept.refl [] wr).drewN nq).trans (k1.trans k2)
        have i5 := HH.out.step wr w5 sr sr xr HI.out (K5.mono (by simp)) (Hm.out.keep K5 (by simp))
        obtain ⟨q0, q1, q2⟩ := agg3 b5
        have I5 := Hid.mk i5
        have B5 := Hid.mk b5
        obtain ⟨Q, hQ⟩ : ∃ Q, w1.heap.size = Q := ⟨_, rfl⟩
        rw [hQ] at q0 q1 q2 B5
        have hin5 := Hin
        clear k1 k2 b5 i5 K5 C
        go_wp2_with (fail)
        clear hw5 hQ q0 q1 q2
        have C6 := HH.out.one w5 sr xr k g p 0 I5.out hin5.out (by show _ < n; exact Hlt.out) (.inl ⟨rfl, Ek.out.symm, Eg.out.symm, Ep.out.symm, by rw [Ek.out]; exact Hkz.out, HR.out⟩)
        refine C6.mono ?_
        clear C6
        rintro e w6 (⟨q, x6, rfl, qlo, qhi, ho, i6, s6⟩ | ⟨pc, rfl, hb, hbd⟩)
        · have B6 := Hid.mk (s6 Q _ B5.out)
          have hm6 := HH.out.wm _ _ _ i6
          have I6 := Hid.mk i6
          have Ho := Hid.mk ho
          obtain ⟨-, -, c2, -, -, -, -⟩ := hm6.fact
          obtain ⟨y0, y1, y2⟩ := agg3 B6.out
          have C7 := Hid.mk (fun W7 (hk : Kept [] w6 W7) => (learn_any P T d k q (sr).L W7 (hm6.md.keep hk (by simp))).mono (R' := fun e w7 => e = .returned (.tuple #[]) ∧ Hid (I w7 ⟨lL T d (sr).L k q, (sr).r, (sr).b, (sr).t⟩ x6) ∧ Hid (w7.heap[Q]? = some (.cells #[.int .i64 k, .int .i64 g, .int .i64 p] 103 (0, 0))) ∧ w7.cell? ⟨B, 2, none⟩ = some (.pointer (some ⟨P, 0, none⟩)) ∧ w7.cell? ⟨Q, 0, none⟩ = some (.int .i64 k) ∧ w7.cell? ⟨Q, 1, none⟩ = some (.int .i64 g) ∧ w7.cell? ⟨Q, 2, none⟩ = some (.int .i64 p)) (by
            rintro e w7 ⟨rfl, m7, k7⟩
            have k7 : Kept [P] w6 w7 := (hk.mono (by simp)).trans k7
            have hm7 := hm6.learn k7 m7
            have B7 := hm6.s98 (k7.mono (by simp)) Q _ B6.out
            obtain ⟨z0, z1, z2⟩ := agg3 B7
            exact ⟨rfl, Hid.mk (HH.out.step w6 w7 _ _ x6 I6.out (k7.mono (by simp)) hm7), Hid.mk B7, hm7.fact.c2, z0, z1, z2⟩))
          obtain ⟨g0, g1, g2⟩ := gq_in (g := g) (q := q) (by rw [← Eg.out]; exact xs_one ..) qlo qhi
          clear i6 s6 ho hm6 B5 I5 B6 I6
          go_wp2_with (fail)
          go_region_held_law (fun w' => w'.cell? ⟨B, 2, none⟩ = some (.pointer (some ⟨P, 0, none⟩)) ∧ w'.cell? ⟨Q, 0, none⟩ = some (.int .i64 k)) (first | exact ⟨c2, y0⟩ | exact ⟨t2, t3⟩ | go_keep) (first | (go_at_call 51; refine (C7.out _ (by first | with_reducible exact (Kept.refl _ _).drew | with_reducible exact Kept.refl _ _)).mono ?_; rintro e w7 ⟨rfl, I7, B7, t2, t3, t4, t5⟩))
          have hm7 := HH.out.wm _ _ _ I7.out
          have vin := gro_in hG p (g * q)
          obtain ⟨gq, hgq⟩ : ∃ gq, g * q = gq := ⟨_, rfl⟩
          have g3 : IntKind.i64.wrap (g * q) = gq := g0.trans hgq
          have C8 := Hid.mk (fun W8 (hk : Kept [] w7 W8) => grow_any P T d p gq W8 (hm7.md.keep hk (by simp)).hd hG)
          have C9 := Hid.mk (fun W9 (hk : Kept [] w7 W9) => (fill_any B P X G ty T d D W n ext _ 1 (gro T d p (g * q)) W9 (hm7.keep hk (by simp)) (by omega) (by show _ + 1 ≤ n; show sr.t + 1 ≤ n; have := Hlt.out; omega) hn (by omega) (by omega)).mono (R' := fun e w9 => e = .returned (.tuple #[]) ∧ Hid (I w9 (goo T d sr k g p q) x6) ∧ w9.cell? ⟨B, 2, none⟩ = some (.pointer (some ⟨P, 0, none⟩)) ∧ w9.cell? ⟨Q, 1, none⟩ = some (.int .i64 g) ∧ w9.cell? ⟨Q, 2, none⟩ = some (.int .i64 p)) (by
            rintro e w9 ⟨rfl, m9, k9⟩
            have k9 : Kept [B, G, P] w7 w9 := (hk.mono (by simp)).trans (k9.mono (by simp))
            obtain ⟨z0, z1, z2⟩ := agg3 (hm7.s98 k9 Q _ B7.out)
            exact ⟨rfl, Hid.mk (HH.out.step w7 w9 _ _ x6 I7.out k9 m9), m9.fact.c2, z1, z2⟩))
          rw [hgq] at C9
          obtain ⟨v8, hv8⟩ : ∃ v8, gro T d p gq = v8 := ⟨_, rfl⟩
          rw [hv8] at C8 C9
          clear g0 hgq hv8 hm7 y0 y1 y2 c2 C7 vin I7 B7
          go_wp2_with (fail)
          go_region_held_law (fun w' => w'.cell? ⟨B, 2, none⟩ = some (.pointer (some ⟨P, 0, none⟩)) ∧ w'.cell? ⟨Q, 1, none⟩ = some (.int .i64 g) ∧ w'.cell? ⟨Q, 2, none⟩ = some (.int .i64 p)) (first | exact ⟨t2, t4, t5⟩ | exact ⟨r2, r4, r5⟩ | go_keep) (first | (go_at_call 52; refine (C8.out _ (by first | with_reducible exact (Kept.refl _ _).drew | with_reducible exact Kept.refl _ _)).mono ?_; rintro e w8 ⟨rfl, m8, rfl⟩) | (go_at_call 48; refine (C9.out _ (by first | with_reducible exact ((Kept.refl _ _).drew).drewN _ | with_reducible exact (Kept.refl _ _).drewN _)).mono ?_; rintro e w9 ⟨rfl, I9, r2, r4, r5⟩))
          all_goals
            clear C8 C9 t2 t3 t4 t5 r2 r4 r5
            go_wp2_with (fail)
            go_roundg (n - (sr.t + 1))
            case measure => have := Hgk.out; omega
            case rel => exact ⟨goo T d sr k g p q, x6, rfl, by show _ + 1 ≤ n; show sr.t + 1 ≤ n; have := Hlt.out; omega, goo_in hG hin5.out _ _ _ _, HR.out.tail ⟨Hlt.out, .inr ⟨by rw [Ek.out]; exact Hkz.out, q, by rw [Ek.out, Eg.out, Ep.out]; exact Ho.out, by rw [Ek.out, Eg.out, Ep.out]⟩⟩, I9.out⟩
        · exact bodyPost_panic rfl (.inr ⟨pc, sr, xr, rfl, HR.out, Hin.out, ⟨Hlt.out, .inr ⟨by rw [Ek.out]; exact Hkz.out, by rw [Ek.out, Eg.out, Ep.out]; exact hb⟩⟩, hbd⟩)
    · have hlt' : ¬ (sr.t : Int) < (n : Int) := by omega
      go_wp2
      go_quiet (fail)
      go_wp2
      go_end0
      exact .inl ⟨rfl, sr, xr, HR.out, by omega, Hin.out, HH.out.step wr _ sr sr xr HI.out ((Kept.refl _ _).drewN _) (Hm.out.drewN _)⟩
end Go.Proofs.YtahoeodpjdbdkabDoor
