import Derived.Test.YtpjogodepionoaaE1
import Derived.Test.YtpjogodepionoaaD3
import Derived.Test.YtpjogodepionoaaB2
import Derived.Test.YtpjogodepionoaaOa
namespace Go.Proofs.Ytpjogodepionoaa
open Go.RowKit

/-- A world that is w but for new blocks. -/
structure KW (w : World) where
  u : World
  h : Kept [] w u
theorem wp_region_kept {P : Program} {id : Nat} {Q : Exit → Act → World → Prop} {a : Act} {w : World} {l : List Oper} (hm : P.follows .mixedOrders = true) (hB : Region.lexB .any l.toArray = true)
    (h : wpQuiet P l.toArray (fun w' => ∃ p : KW w, w' = p.u) (fun a' => ∀ w', (∃ p : KW w, w' = p.u) → Q .normal a' w') l a) : (Code.region id l.toArray true).wp P Q a w :=
  wp_region_quiet (C := fun w' => ∃ p : KW w, w' = p.u) hm hB ⟨⟨_, (Kept.refl [] w).drew⟩, rfl⟩ (by simpa using h)

/-- A step that lies in a block of its own. -/
structure E8 (w : World) (Q : Nat) (q : Ent) : Prop where
  c1 : w.cell? ⟨Q, 1, none⟩ = some (.int .i64 q.k)
  c2 : w.cell? ⟨Q, 2, none⟩ = some (.int .i64 q.s)
  c3 : w.cell? ⟨Q, 3, none⟩ = some (.int .i64 q.a)
  c4 : w.cell? ⟨Q, 4, none⟩ = some (.int .i64 q.b)
  c5 : w.cell? ⟨Q, 5, none⟩ = some (.int .i64 q.c)
  c6 : w.cell? ⟨Q, 6, none⟩ = some (.int .i64 q.d)
theorem E8.keep {w w' : World} {Q : Nat} {q : Ent} {l : List Nat} (h : E8 w Q q) (hk : Kept l w w') (hn : Q ∉ l) : E8 w' Q q :=
  ⟨cell_keep hk h.c1 hn, cell_keep hk h.c2 hn, cell_keep hk h.c3 hn, cell_keep hk h.c4 hn, cell_keep hk h.c5 hn, cell_keep hk h.c6 hn⟩
theorem eight_new (w : World) (q : Ent) : ∃ w1, w.alloc (.cells #[.int .i64 q.kd, .int .i64 q.k, .int .i64 q.s, .int .i64 q.a, .int .i64 q.b, .int .i64 q.c, .int .i64 q.d, .bool q.two] 33 (0, 0)) = w1 ∧ Kept [] w w1 ∧ E8 w1 w.heap.size q :=
  ⟨_, rfl, alloc_kept _ _, ⟨alloc_cell _ _ _ _ _ rfl, alloc_cell _ _ _ _ _ rfl, alloc_cell _ _ _ _ _ rfl, alloc_cell _ _ _ _ _ rfl, alloc_cell _ _ _ _ _ rfl, alloc_cell _ _ _ _ _ rfl⟩⟩
/-- Four numbers that lie in a block. -/
structure F4 (w : World) (Q : Nat) (a b c d : Int) : Prop where
  c0 : w.cell? ⟨Q, 0, none⟩ = some (.int .i64 a)
  c1 : w.cell? ⟨Q, 1, none⟩ = some (.int .i64 b)
  c2 : w.cell? ⟨Q, 2, none⟩ = some (.int .i64 c)
  c3 : w.cell? ⟨Q, 3, none⟩ = some (.int .i64 d)
theorem F4.keep {w w' : World} {Q : Nat} {a b c d : Int} {l : List Nat} (h : F4 w Q a b c d) (hk : Kept l w w') (hn : Q ∉ l) : F4 w' Q a b c d :=
  ⟨cell_keep hk h.c0 hn, cell_keep hk h.c1 hn, cell_keep hk h.c2 hn, cell_keep hk h.c3 hn⟩

/-- All that lies in memory: two models that have learnt alike, a third one, four numbers. -/
structure Al (w wr : World) (Px Py Pz F : Nat) (T d : Int) (L L' : Nat → Sx) (a b c e : Int) : Prop where
  mx : Md wr Px T d L
  my : Md wr Py T d L
  mz : Md wr Pz T d L'
  f4 : F4 wr F a b c e
  hk : Kept [] w wr
theorem Al.keep {w wr w' : World} {Px Py Pz F : Nat} {T d : Int} {L L' : Nat → Sx} {a b c e : Int} (h : Al w wr Px Py Pz F T d L L' a b c e) (hk : Kept [] wr w') : Al w w' Px Py Pz F T d L L' a b c e :=
  ⟨h.mx.keep hk (by simp), h.my.keep hk (by simp), h.mz.keep hk (by simp), h.f4.keep hk (by simp), h.hk.trans hk⟩
/-- These blocks are apart. -/
structure Ap (w : World) (Px Py Pz F : Nat) : Prop where
  xy : Px ≠ Py
  xz : Px ≠ Pz
  yz : Py ≠ Pz
  fx : F ≠ Px
  fy : F ≠ Py
  fz : F ≠ Pz
  x : w.heap.size ≤ Px
  y : w.heap.size ≤ Py
  z : w.heap.size ≤ Pz

/-- The same, and a step that lies there. -/
structure Al2 (w wr : World) (Px Py Pz F Q : Nat) (T d : Int) (X Y Z : Nat → Sx) (a b c e : Int) (q : Ent) : Prop where
  mx : Md wr Px T d X
  my : Md wr Py T d Y
  mz : Md wr Pz T d Z
  f4 : F4 wr F a b c e
  e8 : E8 wr Q q
  hk : Kept [] w wr
  qx : Q ≠ Px
  qy : Q ≠ Py
  qz : Q ≠ Pz
  ap : Ap w Px Py Pz F
section
variable {w wr w' : World} {Px Py Pz F Q : Nat} {T d : Int} {X Y Z V : Nat → Sx} {a b c e : Int} {q : Ent}
theorem Al2.keep (h : Al2 w wr Px Py Pz F Q T d X Y Z a b c e q) (hk : Kept [] wr w') : Al2 w w' Px Py Pz F Q T d X Y Z a b c e q :=
  ⟨h.mx.keep hk (by simp), h.my.keep hk (by simp), h.mz.keep hk (by simp), h.f4.keep hk (by simp), h.e8.keep hk (by simp), h.hk.trans hk, h.qx, h.qy, h.qz, h.ap⟩
theorem Al2.lx (h : Al2 w wr Px Py Pz F Q T d X Y Z a b c e q) (hk : Kept [Px] wr w') (m : Md w' Px T d V) : Al2 w w' Px Py Pz F Q T d V Y Z a b c e q :=
  ⟨m, h.my.keep hk (by simp; exact Ne.symm h.ap.xy), h.mz.keep hk (by simp; exact Ne.symm h.ap.xz), h.f4.keep hk (by simp; exact h.ap.fx), h.e8.keep hk (by simp; exact h.qx), h.hk.step hk (fun x hx => by simp at hx; subst hx; exact .inr h.ap.x), h.qx, h.qy, h.qz, h.ap⟩
theorem Al2.ly (h : Al2 w wr Px Py Pz F Q T d X Y Z a b c e q) (hk : Kept [Py] wr w') (m : Md w' Py T d V) : Al2 w w' Px Py Pz F Q T d X V Z a b c e q :=
  ⟨h.mx.keep hk (by simp; exact h.ap.xy), m, h.mz.keep hk (by simp; exact Ne.symm h.ap.yz), h.f4.keep hk (by simp; exact h.ap.fy), h.e8.keep hk (by simp; exact h.qy), h.hk.step hk (fun x hx => by simp at hx; subst hx; exact .inr h.ap.y), h.qx, h.qy, h.qz, h.ap⟩
theorem Al2.lz (h : Al2 w wr Px Py Pz F Q T d X Y Z a b c e q) (hk : Kept [Pz] wr w') (m : Md w' Pz T d V) : Al2 w w' Px Py Pz F Q T d X Y V a b c e q :=
  ⟨h.mx.keep hk (by simp; exact h.ap.xz), h.my.keep hk (by simp; exact h.ap.yz), m, h.f4.keep hk (by simp; exact h.ap.fz), h.e8.keep hk (by simp; exact h.qz), h.hk.step hk (fun x hx => by simp at hx; subst hx; exact .inr h.ap.z), h.qx, h.qy, h.qz, h.ap⟩
end
theorem Md.lt {w : World} {P : Nat} {T d : Int} {L : Nat → Sx} (h : Md w P T d L) : P < w.heap.size := by obtain ⟨cs, hb, _⟩ := h.blk; exact lt_of_block hb
theorem Al.two {w wr w1 : World} {Px Py Pz F : Nat} {T d : Int} {L L' : Nat → Sx} {a b c e : Int} {q : Ent} (h : Al w wr Px Py Pz F T d L L' a b c e) (ap : Ap w Px Py Pz F) (hk : Kept [] wr w1) (h8 : E8 w1 wr.heap.size q) : Al2 w w1 Px Py Pz F wr.heap.size T d L L L' a b c e q :=
  have h1 := h.mx.lt
  have h2 := h.my.lt
  have h3 := h.mz.lt
  ⟨h.mx.keep hk (by simp), h.my.keep hk (by simp), h.mz.keep hk (by simp), h.f4.keep hk (by simp), h8, h.hk.trans hk, by omega, by omega, by omega, ap⟩

set_option maxHeartbeats 16000000 in
set_option maxRecDepth 1000000 in
theorem alike_law (D t : Int) (sa : Option Addr) (N cap : Nat) (f : Nat → Ent) (a b c e : Int) (w : World) (D0 : -9223372036854775808 ≤ D) (D1 : D ≤ 9223372036854775807) (t0 : -9223372036854775808 ≤ t) (t1 : t ≤ 9223372036854775807) (O : Ops w sa N f) :
    Calls Try.prog 8 #[.agg #[.int .i64 D, .int .i64 t], .slice sa N cap, .agg #[.int .i64 a, .int .i64 b, .int .i64 c, .int .i64 e]] w fun r w' => r = .returned (.bool true) ∧ Kept [] w w' := by
  have CM := Hid.mk (fun w => made_any D t w D0 D1 t0 t1)
  have HO := Hid.mk O
  have hN := O.len
  clear D0 D1 t0 t1 O
  go_enter Try.func8, Try.ntmps8
  go_wp2_with (fail)
  obtain ⟨w1, hw1, k1, hb1, hb2⟩ := two_boxes w #[.int .i64 D, .int .i64 t] #[.int .i64 a, .int .i64 b, .int .i64 c, .int .i64 e] 23 44
  rw [hw1]
  clear hw1
  have z1 : w.heap.size + 1 < w1.heap.size := lt_of_block hb2
  obtain ⟨B, hB⟩ : ∃ B, B = w.heap.size := ⟨_, rfl⟩
  rw [← hB] at hb1 hb2 z1 ⊢
  have HB := Hid.mk hB
  clear hB
  refine (shown_any w1).mono ?_
  rintro r w2 ⟨rfl, k2⟩
  have ⟨b0, b1⟩ := two (k2.heap hb1 (by simp))
  go_wp2_with (fail)
  refine (CM.out w2).mono ?_
  rintro r w3 ⟨Px, T, d, G, rfl, M, hl, k3, hT0, hd0⟩
  have hT := Hid.mk hT0
  have hd := Hid.mk hd0
  clear hT0 hd0
  have HG := Hid.mk G
  have ⟨b2, b3⟩ := two ((k2.trans k3).heap hb1 (by simp))
  have lx : Px < w3.heap.size := by obtain ⟨cs, h, _⟩ := M.blk; exact lt_of_block h
  go_wp2_with (fail)
  refine (CM.out w3).mono ?_
  rintro r w4 ⟨Py, T', d', G', rfl, My, hl', k4, hT', hd'⟩
  obtain rfl : T = T' := hT.out.trans hT'.symm
  obtain rfl : d = d' := hd.out.trans hd'.symm
  clear hT' hd'
  have ⟨b4, b5⟩ := two (((k2.trans k3).trans k4).heap hb1 (by simp))
  have ly : Py < w4.heap.size := by obtain ⟨cs, h, _⟩ := My.blk; exact lt_of_block h
  go_wp2_with (fail)
  refine (CM.out w4).mono ?_
  rintro r w5 ⟨Pz, T2, d2, G2, rfl, Mz, hl2, k5, hT2, hd2⟩
  obtain rfl : T = T2 := hT.out.trans hT2.symm
  obtain rfl : d = d2 := hd.out.trans hd2.symm
  clear hT2 hd2
  have sz2 := k2.size
  have sz3 := k3.size
  have sz4 := k4.size
  have F1 := four_at ((((k2.trans k3).trans k4).trans k5).heap hb2 (by simp))
  have HA : Hid (Al w w5 Px Py Pz (B + 1) T d (fun _ => sx0 T d) (fun _ => sx0 T d) a b c e) := Hid.mk ⟨M.keep (k4.trans k5) (by simp), My.keep k5 (by simp), Mz, ⟨F1.1, F1.2.1, F1.2.2.1, F1.2.2.2⟩, (((k1.trans k2).trans k3).trans k4).trans k5⟩
  have HX : Hid (Ap w Px Py Pz (B + 1)) := Hid.mk (by have := HB.out; constructor <;> omega)
  clear hT hd G G' G2 M My Mz k1 k2 k3 k4 k5 hb1 hb2 b0 b1 b2 b3 b4 b5 F1 hl hl' hl2 lx ly sz2 sz3 sz4 z1 CM HB
  generalize B + 1 = F at *
  go_wp2
  go_loopw [17] (fun i wr => ∃ (k : Nat) (L L' : Nat → Sx), k ≤ N ∧ i = .int .i64 (k : Int) ∧ Al w wr Px Py Pz F T d L L' a b c e) (fun i _ => N - (intOf i).toNat)
  case atStart => exact ⟨0, _, _, by omega, rfl, HA.out⟩
  case round =>
    obtain ⟨i, L, L', hi, rfl, A⟩ := hrel
    have HA2 := Hid.mk A
    clear A HA
    by_cases hlt : i < N
    · obtain ⟨g, off, rfl, hc⟩ := HO.out.lies (by omega)
      have E0 := (hc i hlt).keep HA2.out.hk
      clear hc
      generalize hq : f i = q at *
      clear hq
      obtain ⟨u0, u1, u2, u3, u4, u5, u6, u7⟩ := E0
      have ix : (i : Int) < (N : Int) := by omega
      go_wp2_with (fail)
      obtain ⟨w6, hw6, k6, E6⟩ := eight_new wr q
      rw [hw6]
      have A6 := HA2.out.two HX.out k6 E6
      clear hw6 u0 u1 u2 u3 u4 u5 u6 u7 k6 E6 HA2
      generalize wr.heap.size = Q at *
      refine (learn_any Px T d q.k q.a L w6 A6.mx).mono ?_
      rintro r w7 ⟨rfl, m7, k7⟩
      have A7 := A6.lx k7 m7
      clear A6 k7 m7
      have C7 := Hid.mk (fun x y z v => find_any Px T d x y z v w7 A7.mx.hd HG.out)
      have D7 := Hid.mk (fun x y z v u => guess_any Px T d x y z v u _ w7 A7.mx)
      have S7 := Hid.mk (fun x => shrink_any Px T d x w7 A7.mx.hd HG.out)
      obtain ⟨x1, x2, x3, x4, x5, x6⟩ := A7.e8
      have HA7 := Hid.mk A7
      clear A7
      go_wp2_with (fail)
      refine (C7.out _ _ _ _).mono ?_
      rintro r w8 ⟨rfl, rfl⟩
      go_wp2_with (fail)
      refine (D7.out _ _ _ _ _).mono ?_
      rintro r w9 ⟨rfl, rfl⟩
      go_wp2_with (fail)
      refine (S7.out _).mono ?_
      rintro r w10 ⟨rfl, m10, hw⟩
      have A10 : Al2 w w10 Px Py Pz F Q T d _ L L' a b c e q := hw ▸ HA7.out.keep ((Kept.refl _ _).drewN m10)
      clear hw HA7 C7 D7 S7 x1 x2 x3 x4 x5 x6
      obtain ⟨x1, -, -, x4, -, -⟩ := A10.e8
      have C10 := Hid.mk (fun x => learn_any Pz T d x q.b L' w10 A10.mz)
      have H10 := Hid.mk A10
      clear A10
      go_wp2_with (fail)
      refine (C10.out _).mono ?_
      rintro r w11 ⟨rfl, m11, k11⟩
      have A11 := H10.out.lz k11 m11
      clear H10 C10 k11 m11 x1 x4
      obtain ⟨x1, -, x3, -, -, -⟩ := A11.e8
      have C11 := Hid.mk (learn_any Py T d q.k q.a L w11 A11.my)
      have H11 := Hid.mk A11
      clear A11
      go_wp2_with (fail)
      refine C11.out.mono ?_
      rintro r w12 ⟨rfl, m12, k12⟩
      have A12 := H11.out.ly k12 m12
      clear H11 C11 k12 m12 x1 x3
      generalize lL T d L q.k q.a = L1 at *
      obtain ⟨x1, -, -, -, x5, -⟩ := A12.e8
      have C12 := Hid.mk (learn_any Pz T d q.k q.c _ w12 A12.mz)
      have H12 := Hid.mk A12
      clear A12
      go_wp2_with (fail)
      refine C12.out.mono ?_
      rintro r w13 ⟨rfl, m13, k13⟩
      have A13 := H12.out.lz k13 m13
      clear H12 C12 k13 m13 x1 x5
      generalize lL T d (lL T d L' _ _) _ _ = L2 at *
      obtain ⟨x1, -, -, -, -, -⟩ := A13.e8
      have C13 := Hid.mk (stats_any Px q.k T d L1 w13 A13.mx)
      have H13 := Hid.mk A13
      clear A13
      go_wp2_with (fail)
      refine C13.out.mono ?_
      rintro r w14 ⟨rfl, k14⟩
      have A14 := H13.out.keep k14
      clear H13 C13 k14 x1
      obtain ⟨x1, -, -, -, -, -⟩ := A14.e8
      have C14 := Hid.mk (stats_any Py q.k T d L1 w14 A14.my)
      have H14 := Hid.mk A14
      clear A14
      go_wp2_with (fail)
      refine C14.out.mono ?_
      rintro r w15 ⟨rfl, k15⟩
      have A15 := H14.out.keep k15
      clear H14 C14 k15 x1
      have r1 : ∀ p : KW w15, p.u.cell? ⟨Q, 1, none⟩ = some (.int .i64 q.k) := fun p => (A15.e8.keep p.h (by simp)).c1
      have r2 : ∀ p : KW w15, p.u.cell? ⟨Q, 2, none⟩ = some (.int .i64 q.s) := fun p => (A15.e8.keep p.h (by simp)).c2
      have r3 : ∀ p : KW w15, p.u.cell? ⟨F, 0, none⟩ = some (.int .i64 a) := fun p => (A15.f4.keep p.h (by simp)).c0
      have r4 : ∀ p : KW w15, p.u.cell? ⟨F, 1, none⟩ = some (.int .i64 b) := fun p => (A15.f4.keep p.h (by simp)).c1
      have r5 : ∀ p : KW w15, p.u.cell? ⟨F, 2, none⟩ = some (.int .i64 c) := fun p => (A15.f4.keep p.h (by simp)).c2
      have K1 : Hid (∀ p : KW w15, Calls Try.prog 23 #[.pointer (some ⟨Px, 0, none⟩), .int .i64 q.k] p.u fun r w' => r = .returned (.int .i64 (po L1 q.k : Int)) ∧ ∃ p' : KW w15, w' = p'.u) := Hid.mk fun p => (param_any Px q.k T d L1 p.u (A15.mx.keep p.h (by simp))).mono fun r w' ⟨h1, h2⟩ => ⟨h1, ⟨w', p.h.trans h2⟩, rfl⟩
      have K2 : Hid (∀ p : KW w15, Calls Try.prog 23 #[.pointer (some ⟨Py, 0, none⟩), .int .i64 q.k] p.u fun r w' => r = .returned (.int .i64 (po L1 q.k : Int)) ∧ ∃ p' : KW w15, w' = p'.u) := Hid.mk fun p => (param_any Py q.k T d L1 p.u (A15.my.keep p.h (by simp))).mono fun r w' ⟨h1, h2⟩ => ⟨h1, ⟨w', p.h.trans h2⟩, rfl⟩
      have K3 : Hid (∀ p : KW w15, Calls Try.prog 22 #[.pointer (some ⟨Px, 0, none⟩), .int .i64 q.k, .int .i64 q.s, .int .i64 a, .int .i64 b, .int .i64 c] p.u fun r w' => r = .returned (.int .i64 (gs T L1 q.k q.s a b c)) ∧ ∃ p' : KW w15, w' = p'.u) := Hid.mk fun p => (guess_any Px T d q.k q.s a b c L1 p.u (A15.mx.keep p.h (by simp))).mono fun r w' ⟨h1, h2⟩ => ⟨h1, p, h2⟩
      have K4 : Hid (∀ p : KW w15, Calls Try.prog 22 #[.pointer (some ⟨Py, 0, none⟩), .int .i64 q.k, .int .i64 q.s, .int .i64 a, .int .i64 b, .int .i64 c] p.u fun r w' => r = .returned (.int .i64 (gs T L1 q.k q.s a b c)) ∧ ∃ p' : KW w15, w' = p'.u) := Hid.mk fun p => (guess_any Py T d q.k q.s a b c L1 p.u (A15.my.keep p.h (by simp))).mono fun r w' ⟨h1, h2⟩ => ⟨h1, p, h2⟩
      have H15 := Hid.mk A15
      clear A15
      go_wp2_with (fail)
      have NE : Nonempty (KW w15) := ⟨⟨w15, Kept.refl _ _⟩⟩
      refine wp_region_kept (by kernel_rfl) (by kernel_rfl) ?_
      repeat (go_big_quiet_step ((first | (go_at_call_of 23 Px; exact K1.out _) | (go_at_call_of 23 Py; exact K2.out _) | (go_at_call_of 22 Px; exact K3.out _) | (go_at_call_of 22 Py; exact K4.out _))))
      refine wpQuiet_nil ?_
      rintro _ ⟨p, rfl⟩
      have A16 := Hid.mk (H15.out.keep p.h)
      generalize p.u = w16 at *
      clear H15 K1 K2 K3 K4 r1 r2 r3 r4 r5 NE
      go_wp2
      go_roundw
      case rel => exact ⟨i + 1, L1, L2, by omega, by go_num, ⟨A16.out.mx, A16.out.my, A16.out.mz, A16.out.f4, A16.out.hk⟩⟩
      case measure => simp [intOf]; omega
    · obtain rfl : i = N := by omega
      obtain ⟨x0, x1, x2, x3⟩ := HA2.out.f4
      have C1 := Hid.mk (find_any Px T d a b c e wr HA2.out.mx.hd HG.out)
      have C2 := Hid.mk (find_any Py T d a b c e wr HA2.out.my.hd HG.out)
      have G1 := Hid.mk (fun n => grow_any Px T d a b (wr.drewN n) (HA2.out.mx.hd.drewN n) HG.out)
      have G2 := Hid.mk (fun n => grow_any Py T d a b (wr.drewN n) (HA2.out.my.hd.drewN n) HG.out)
      have S1 := Hid.mk (fun n => shrink_any Px T d a (wr.drewN n) (HA2.out.mx.hd.drewN n) HG.out)
      have S2 := Hid.mk (fun n => shrink_any Py T d a (wr.drewN n) (HA2.out.my.hd.drewN n) HG.out)
      have HK := Hid.mk HA2.out.hk
      clear HA2
      go_wp2_with (fail)
      refine C1.out.mono ?_
      rintro r w6 ⟨rfl, rfl⟩
      go_wp2_with (fail)
      refine C2.out.mono ?_
      rintro r w7 ⟨rfl, rfl⟩
      go_wp2_with (fail)
      go_quiet ((first | (go_at_call_of 16 Px; exact Calls.quiet_of (G1.out _)) | (go_at_call_of 16 Py; exact Calls.quiet_of (G2.out _)) | (go_at_call_of 15 Px; exact Calls.quiet_of (S1.out _)) | (go_at_call_of 15 Py; exact Calls.quiet_of (S2.out _))))
      go_wp2
      go_ret
      exact ⟨by first | rfl | simp, HK.out.drewN _⟩
end Go.Proofs.Ytpjogodepionoaa
