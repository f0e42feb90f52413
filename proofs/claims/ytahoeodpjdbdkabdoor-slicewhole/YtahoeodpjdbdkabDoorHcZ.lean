import Derived.Test.YtahoeodpjdbdkabDoorHaZ
import Derived.Test.YtahoeodpjdbdkabDoorFcZ
namespace Go.Proofs.YtahoeodpjdbdkabDoor
open Go.RowKit

/-- What lies behind the last sample. -/
def Fin (l : List Nat) (t : Nat) (E : Int) : Prop :=
  (nextN l t ((8 * l.length - t) % 8) ≠ 0 ∧ E = 102) ∨ (nextN l t ((8 * l.length - t) % 8) = 0 ∧ 8 ≤ 8 * l.length - t ∧ E = 103) ∨ (nextN l t ((8 * l.length - t) % 8) = 0 ∧ 8 * l.length - t < 8 ∧ E = 0)

set_option maxHeartbeats 4000000 in
set_option maxRecDepth 1000000 in
/-- The end of what is read, whatever lies there. -/
theorem dend_any (w0 : World) (B P X G O g : Nat) (T d D : Int) (W n : Nat) (l : List Nat) (w : World) (s : Wk) (t : Nat) (h : Dm w0 B P X G O g T d D W n l w s t) (h2 : t ≤ 8 * l.length) :
    Calls Tryd.prog 39 #[.pointer (some ⟨B, 0, none⟩)] w fun e w' => ((e = .returned (.tuple #[]) ∧ Fin l t 0) ∨ ∃ E, e = .panicked (pnc E) ∧ Fin l t E ∧ E ≠ 0) ∧ (∃ t', Dm w0 B P X G O g T d D W n l w' s t') ∧ Kept [O] w w' := by
  have c6 := dext_cell h.wm
  obtain ⟨r, hr⟩ : ∃ r : Nat, 8 * l.length - t = r := ⟨_, rfl⟩
  obtain ⟨r8, hr8e⟩ : ∃ r8 : Nat, r % 8 = r8 := ⟨_, rfl⟩
  obtain ⟨z, hz⟩ : ∃ z, nextN l t r8 = z := ⟨_, rfl⟩
  have hrI : 8 * (l.length : Int) - (t : Int) = (r : Int) := by omega
  have hr8 : (r : Int).tmod 8 = (r8 : Int) := by rw [Int.tmod_eq_emod_of_nonneg (by omega)]; omega
  have hr9 : IntKind.i64.wrap (r8 : Int) = (r8 : Int) := wrap_i (by omega) (by omega)
  have HF : Hid ((z ≠ 0 → Fin l t 102) ∧ (z = 0 → 8 ≤ r → Fin l t 103) ∧ (z = 0 → r < 8 → Fin l t 0)) := by
    unfold Fin
    rw [hr, hr8e, hz]
    exact Hid.mk ⟨fun h => .inl ⟨h, rfl⟩, fun h h' => .inr (.inl ⟨h, h', rfl⟩), fun h h' => .inr (.inr ⟨h, h', rfl⟩)⟩
  have C1 := Hid.mk (fun W' (hk : Kept [] w W') => left_any O g l t W' (h.kp hk).rd)
  rw [hrI] at C1
  have C2 := Hid.mk (fun W' (hk : Kept [] w W') => (get_any O g l t (r8 : Int) W' (h.kp hk).rd (by omega) (by omega) (by omega)).mono (R' := fun e w' => e = .returned (.tuple #[.int .u32 (z : Int), .int .i64 0]) ∧ Hid (Dm w0 B P X G O g T d D W n l w' s (t + r8) ∧ Kept [O] w w') ∧ w'.cell? ⟨B, 6, none⟩ = some (.pointer (some ⟨O, 0, none⟩))) (by
    rintro e w' ⟨rfl, hrd, hkk⟩
    have h3 := h.kp hk
    obtain ⟨cs, hr', hl', hc⟩ := h3.wm.row
    obtain ⟨ps, hp, _⟩ := h3.wm.md.blk
    have o1 := ne_ty h3.rd.1 h3.wm.blk (by decide)
    have o2 := ne_ty h3.rd.1 hr' (by decide)
    have o3 := ne_ty h3.rd.1 hp (by decide)
    have o4 := ne_ty h3.rd.1 h3.wm.co.1 (by decide)
    have hlo := h3.lo
    have hm' : Wm w' B P X G 61 T d D W n (dext O) s := h3.wm.keep hkk (by simp; omega)
    rw [Int.toNat_natCast, hz]
    rw [Int.toNat_natCast] at hrd
    exact ⟨rfl, Hid.mk ⟨⟨hm', hrd, h3.keep.step hkk (fun y hy => by right; simp at hy; omega), h3.tab, h3.lo⟩, (hk.mono (by simp)).trans hkk⟩, dext_cell hm'⟩))
  have C3 := Hid.mk (fun W' (hm : Hid (Dm w0 B P X G O g T d D W n l W' s (t + r8) ∧ Kept [O] w W')) => left_any O g l (t + r8) W' hm.out.1.rd)
  obtain ⟨R, hR⟩ : ∃ R : Nat, r - r8 = R := ⟨_, rfl⟩
  have e0 : 8 * (l.length : Int) - ((t + r8 : Nat) : Int) = (R : Int) := by omega
  rw [e0] at C3
  have hRr : (R = 0 ∧ r < 8) ∨ (1 ≤ R ∧ 8 ≤ r) := by omega
  clear h hrI e0 h2 hr hz hR hr8e
  go_enter Tryd.func39, Tryd.ntmps39
  go_wp2
  go_region_held_law (fun w' => w'.cell? ⟨B, 6, none⟩ = some (.pointer (some ⟨O, 0, none⟩))) (first | exact c6 | exact t6 | go_keep) (first | (go_at_call 46; refine (C1.out _ (by with_reducible exact (Kept.refl _ _).drew)).mono ?_; rintro e w1 ⟨rfl, q1, rfl⟩) | (go_at_call 34; refine (C2.out _ (by with_reducible exact (Kept.refl _ _).drewN _)).mono ?_; rintro e w2 ⟨rfl, R2, t6⟩) | (go_at_call 33; refine (takenU_ok _ _).mono ?_; rintro e w3 ⟨rfl, hw3⟩; obtain rfl := hw3.symm))
  all_goals
    clear C1 C2
    by_cases hz0 : z = 0
    · subst hz0
      rcases hRr with ⟨rfl, hr0⟩ | ⟨hR1, hr1⟩
      · go_wp2_with (go_at_call 46; refine (C3.out _ R2).mono ?_; rintro e w4 ⟨rfl, q4, rfl⟩)
        go_end0
        exact ⟨.inl ⟨rfl, HF.out.2.2 trivial hr0⟩, ⟨_, R2.out.1.kp ((Kept.refl _ _).drewN _)⟩, R2.out.2.drewN _⟩
      · have hR0 : (0 : Int) < R := by omega
        go_wp2_with (go_at_call 46; refine (C3.out _ R2).mono ?_; rintro e w4 ⟨rfl, q4, rfl⟩)
        exact bodyPost_panic rfl ⟨.inr ⟨103, rfl, HF.out.2.1 trivial hr1, by decide⟩, ⟨_, R2.out.1.kp ((Kept.refl _ _).drewN _)⟩, R2.out.2.drewN _⟩
    · have hz1 : ((z : Int) == 0) = false := by simp; omega
      go_wp2
      exact bodyPost_panic rfl ⟨.inr ⟨102, rfl, HF.out.1 hz0, by decide⟩, ⟨_, R2.out.1⟩, R2.out.2⟩

set_option maxHeartbeats 8000000 in
set_option maxRecDepth 1000000 in
theorem samples_no (w0 : World) (B P X G O g : Nat) (T d D : Int) (W n : Nat) (l : List Nat) (f : Nat → Int) (w : World) (hD : Dp D T) (hn : n ≤ 4194304) (hf : ∀ i, 0 ≤ f i ∧ f i ≤ T) (hh : ∀ k, 8 + D.toNat * k ≤ 8 * l.length → Holds l (rwb D.toNat f k)) (hsh : 8 * l.length < 8 + D.toNat * n) (h : Dm w0 B P X G O g T d D W n l w (rwk T d f 0) 8) :
    Calls Tryd.prog 35 #[.pointer (some ⟨B, 0, none⟩)] w fun e w' => e = .panicked (pnc 102) ∧ Kept [B, P, X, G, O] w w' := by
  have c4 := h.wm.fact.c4
  have hd := hD.mid
  have hT : T ≤ 4095 := by rcases hD with ⟨_, h⟩ | ⟨_, h⟩ <;> omega
  have HH := Hid.mk hh
  have Hf := Hid.mk hf
  have HD := Hid.mk hD
  have H0 := Hid.mk h
  clear hf hD hh h
  go_enter Tryd.func35, Tryd.ntmps35
  go_wp2
  go_loopw [8] (fun i wr => ∃ k : Nat, k ≤ n ∧ i = .int .i64 (k : Int) ∧ Dm w0 B P X G O g T d D W n l wr (rwk T d f k) (8 + D.toNat * k) ∧ Kept [B, P, X, G, O] w wr) (fun i _ => n - (intOf i).toNat)
  case atStart => exact ⟨0, by omega, rfl, H0.out, Kept.refl _ _⟩
  case round =>
    obtain ⟨k, hk, rfl, hm, hkw⟩ := hrel
    have HM := Hid.mk hm
    have HK := Hid.mk hkw
    have hlt : k < n := by
      rcases Nat.lt_or_ge k n with h | h
      · exact h
      · obtain rfl : n = k := by omega
        have := hm.rd.2.2.2.1
        omega
    by_cases hroom : 8 + D.toNat * (k + 1) ≤ 8 * l.length
    · have hb := Hid.mk (holds_ap (HH.out (k + 1) hroom) (HD.out.up (Hf.out k).1 (Hf.out k).2))
      have fv := Hf.out k
      have c1 := hm.wm.fact.c1
      have c6 := dext_cell hm.wm
      have ix : (k : Int) < n := by omega
      have C1 := Hid.mk (fun W' (hk' : Kept [] wr W') => (get_any O g l (8 + D.toNat * k) D W' (hm.kp hk').rd (by omega) (by omega) (by have := hb.out.2.1; rw [rwb_len] at this; omega)).mono (R' := fun e w' => e = .returned (.tuple #[.int .u32 (f k), .int .i64 0]) ∧ Hid (Dm w0 B P X G O g T d D W n l w' (rwk T d f k) (8 + D.toNat * (k + 1)) ∧ Kept [O] wr w') ∧ w'.cell? ⟨B, 1, none⟩ = some (.int .i64 D) ∧ w'.cell? ⟨B, 6, none⟩ = some (.pointer (some ⟨O, 0, none⟩))) (by
        rintro e w' ⟨rfl, hrd, hkk⟩
        have h3 := hm.kp hk'
        obtain ⟨cs, hr', hl', hc⟩ := h3.wm.row
        obtain ⟨ps, hp, _⟩ := h3.wm.md.blk
        have o1 := ne_ty h3.rd.1 h3.wm.blk (by decide)
        have o2 := ne_ty h3.rd.1 hr' (by decide)
        have o3 := ne_ty h3.rd.1 hp (by decide)
        have o4 := ne_ty h3.rd.1 h3.wm.co.1 (by decide)
        have hlo := h3.lo
        have e1 := hb.out.2.2
        rw [rwb_len] at e1
        have hm' : Wm w' B P X G 61 T d D W n (dext O) (rwk T d f k) := h3.wm.keep hkk (by simp; omega)
        rw [e1, show (((f k).toNat : Nat) : Int) = f k by omega]
        exact ⟨rfl, Hid.mk ⟨⟨hm', by rw [Nat.mul_succ, ← Nat.add_assoc]; exact hrd, h3.keep.step hkk (fun y hy => by right; simp at hy; omega), h3.tab, h3.lo⟩, (hk'.mono (by simp)).trans hkk⟩, hm'.fact.c1, dext_cell hm'⟩))
      have C2 := Hid.mk (fun W' (hm2 : Hid (Dm w0 B P X G O g T d D W n l W' (rwk T d f k) (8 + D.toNat * (k + 1)) ∧ Kept [O] wr W')) => (fill_any B P X G 61 T d D W n (dext O) (rwk T d f k) 1 (f k) W' hm2.out.1.wm (by omega) (by show k + 1 ≤ n; omega) hn fv.1 (by omega)).mono (R' := fun e w' => e = .returned (.tuple #[]) ∧ Hid (Dm w0 B P X G O g T d D W n l w' (rwk T d f (k + 1)) (8 + D.toNat * (k + 1)) ∧ Kept [B, P, X, G, O] w w') ∧ w'.cell? ⟨B, 1, none⟩ = some (.int .i64 D) ∧ w'.cell? ⟨B, 6, none⟩ = some (.pointer (some ⟨O, 0, none⟩))) (by
        rintro e w' ⟨rfl, m3, k3⟩
        have m4 : Wm w' B P X G 61 T d D W n (dext O) (rwk T d f (k + 1)) := m3.congr f (fun i hi => by
          have hi : i < k + 1 := hi
          show f i = fil f k 1 (f k) i
          by_cases e : i < k
          · rw [fil_same _ _ _ _ _ e]
          · obtain rfl : i = k := by omega
            rw [fil_in _ _ _ _ _ (by omega) (by omega)])
        exact ⟨rfl, Hid.mk ⟨hm2.out.1.step (k3.mono (by simp)) m4, (HK.out.trans (hm2.out.2.mono (fun y hy => by left; simp at hy ⊢; omega))).trans (k3.mono (fun y hy => by left; simp at hy ⊢; omega))⟩, m4.fact.c1, dext_cell m4⟩))
      obtain ⟨v, hv⟩ : ∃ v, f k = v := ⟨_, rfl⟩
      rw [hv] at C1 C2 fv
      have wv : IntKind.i64.wrap v = v := wrap_i (by omega) (by omega)
      clear hm hkw hv hb
      go_wp2
      go_region_held_law (fun w' => w'.cell? ⟨B, 1, none⟩ = some (.int .i64 D) ∧ w'.cell? ⟨B, 6, none⟩ = some (.pointer (some ⟨O, 0, none⟩))) (first | exact ⟨c1, c6⟩ | exact ⟨t1, t6⟩ | exact ⟨r1, r6⟩ | go_keep) (first | (go_at_call 34; refine (C1.out _ (by with_reducible exact (Kept.refl _ _).drew)).mono ?_; rintro e w2 ⟨rfl, R2, t1, t6⟩) | (go_at_call 33; refine (takenU_ok _ _).mono ?_; rintro e w3 ⟨rfl, hw3⟩; obtain rfl := hw3.symm) | (go_at_call 48; refine (C2.out _ R2).mono ?_; rintro e w4 ⟨rfl, R4, r1, r6⟩))
      all_goals
        clear C1 C2 t1 t6 r1 r6 R2
        go_wp2
        go_roundw
        case rel => exact ⟨k + 1, by omega, by go_num, R4.out.1, R4.out.2⟩
        case measure => simp [intOf]; omega
    · have c1 := hm.wm.fact.c1
      have c6 := dext_cell hm.wm
      have ix : (k : Int) < n := by omega
      rw [Nat.mul_succ] at hroom
      have C1 := Hid.mk (fun W' (hk' : Kept [] wr W') => (get_end O g l (8 + D.toNat * k) D W' (hm.kp hk').rd (by omega) (by omega) (by omega)).mono (R' := fun e w' => e = .returned (.tuple #[.int .u32 0, .int .i64 13]) ∧ Hid (Kept [B, P, X, G, O] w w') ∧ w'.cell? ⟨B, 1, none⟩ = some (.int .i64 D) ∧ w'.cell? ⟨B, 6, none⟩ = some (.pointer (some ⟨O, 0, none⟩))) (by
        rintro e w' ⟨rfl, q, rfl⟩
        have h3 := (hm.kp hk').kp ((Kept.refl [] W').drewN q)
        exact ⟨rfl, Hid.mk ((HK.out.trans (hk'.mono (by simp))).drewN q), h3.wm.fact.c1, dext_cell h3.wm⟩))
      clear hm hkw
      go_wp2
      refine wp_region_held_drew (S := fun w' => w'.cell? ⟨B, 1, none⟩ = some (.int .i64 D) ∧ w'.cell? ⟨B, 6, none⟩ = some (.pointer (some ⟨O, 0, none⟩))) (by kernel_rfl) ⟨c1, c6⟩ (fun hHeld => ?_)
      refine wpAnyH_take (i := 0) (oi := _) (v := ?_) rfl (by kernel_rfl) (by kernel_rfl) (by kernel_rfl) (fun _ _ _ h => h) (Or.inl ⟨by rfl, ?y0⟩) (by assumption) ?r0
      case y0 => (intro w hSw; (try dsimp only at hSw); go_simp; try with_reducible rfl)
      refine wpAnyH_take (i := 1) (oi := _) (v := ?_) rfl (by kernel_rfl) (by kernel_rfl) (by kernel_rfl) (fun _ _ _ h => h) (Or.inl ⟨by rfl, ?y1⟩) (by assumption) ?r1
      case y1 => (intro w hSw; (try dsimp only at hSw); go_simp; try with_reducible rfl)
      refine wpAnyH_take (i := 2) (oi := _) (v := ?_) rfl (by kernel_rfl) (by kernel_rfl) (by kernel_rfl) (fun _ _ _ h => h) (Or.inl ⟨by rfl, ?y2⟩) (by assumption) ?r2
      case y2 => (intro w hSw; (try dsimp only at hSw); go_simp; try with_reducible rfl)
      refine wpAnyH_take (i := 3) (oi := _) (v := ?_) rfl (by kernel_rfl) (by kernel_rfl) (by kernel_rfl) (fun _ _ _ h => h) (Or.inl ⟨by rfl, ?y3⟩) (by assumption) ?r3
      case y3 => (intro w hSw; (try dsimp only at hSw); go_simp; try with_reducible rfl)
      refine wpAnyH_take (i := 4) (oi := _) (v := ?_) rfl (by kernel_rfl) (by kernel_rfl) (by kernel_rfl) (fun _ _ _ h => h) (Or.inl ⟨by rfl, ?y4⟩) (by assumption) ?r4
      case y4 => (intro w hSw; (try dsimp only at hSw); go_simp; try with_reducible rfl)
      refine wpAnyH_take (i := 5) (oi := _) (v := ?_) rfl (by kernel_rfl) (by kernel_rfl) (by kernel_rfl) (fun _ _ _ h => h) (Or.inl ⟨by rfl, ?y5⟩) (by assumption) ?r5
      case y5 => (intro w hSw; (try dsimp only at hSw); go_simp; try with_reducible rfl)
      refine wpAnyH_take (i := 6) (oi := _) (v := ?_) rfl (by kernel_rfl) (by kernel_rfl) (by kernel_rfl) (fun _ _ _ h => h) (Or.inl ⟨by rfl, ?y6⟩) (by assumption) ?r6
      case y6 => (intro w hSw; (try dsimp only at hSw); go_simp; try with_reducible rfl)
      refine wpAnyH_take (i := 7) (oi := _) (v := ?_) rfl (by kernel_rfl) (by kernel_rfl) (by kernel_rfl) (fun _ _ _ h => h) (Or.inl ⟨by rfl, ?y7⟩) (by assumption) ?r7
      case y7 => (intro w hSw; (try dsimp only at hSw); go_simp; try with_reducible rfl)
      refine wpAnyH_take (i := 8) (oi := _) (v := ?_) rfl (by kernel_rfl) (by kernel_rfl) (by kernel_rfl) (fun _ _ _ h => h) (Or.inl ⟨by rfl, ?y8⟩) (by assumption) ?r8
      case y8 => (intro w hSw; (try dsimp only at hSw); go_simp; try with_reducible rfl)
      refine wpAnyH_take (i := 9) (oi := _) (v := ?_) rfl (by kernel_rfl) (by kernel_rfl) (by kernel_rfl) (fun _ _ _ h => h) (Or.inl ⟨by rfl, ?y9⟩) (by assumption) ?r9
      case y9 => (intro w hSw; (try dsimp only at hSw); go_simp; try with_reducible rfl)
      refine wpAnyH_take (i := 10) (oi := _) (v := ?_) rfl (by kernel_rfl) (by kernel_rfl) (by kernel_rfl) (fun _ _ _ h => h) (Or.inl ⟨by rfl, ?y10⟩) (by assumption) ?r10
      case y10 => (intro w hSw; (try dsimp only at hSw); go_simp; try with_reducible rfl)
      refine wpAnyH_take (i := 11) (oi := _) (v := ?_) rfl (by kernel_rfl) (by kernel_rfl) (by kernel_rfl) (fun _ _ _ h => h) (Or.inl ⟨by rfl, ?y11⟩) (by assumption) ?r11
      case y11 => (intro w hSw; (try dsimp only at hSw); go_simp; try with_reducible rfl)
      refine wpAnyH_ready (rs := [12]) (by kernel_rfl) (by simp) ?_
      refine AllReadyH.cons rfl (fun K hK => ?_) AllReadyH.nil
      go_simp
      go_at_call 34
      refine (C1.out _ (by with_reducible exact (Kept.refl _ _).drew)).mono ?_
      rintro e w2 ⟨rfl, R2, t1, t6⟩
      refine hK.out _ _ ⟨t1, t6⟩ (fun hHeld => ?_)
      clear hK K
      refine wpAnyH_take (i := 13) (oi := _) (v := ?_) rfl (by kernel_rfl) (by kernel_rfl) (by kernel_rfl) (fun _ _ _ h => h) (Or.inl ⟨by rfl, ?y13⟩) (by assumption) ?r13
      case y13 => (intro w hSw; (try dsimp only at hSw); go_simp; try with_reducible rfl)
      refine wpAnyH_take (i := 14) (oi := _) (v := ?_) rfl (by kernel_rfl) (by kernel_rfl) (by kernel_rfl) (fun _ _ _ h => h) (Or.inl ⟨by rfl, ?y14⟩) (by assumption) ?r14
      case y14 => (intro w hSw; (try dsimp only at hSw); go_simp; try with_reducible rfl)
      refine wpAnyH_ready (rs := [15]) (by kernel_rfl) (by simp) ?_
      refine AllReadyH.cons rfl (fun K hK => ?_) AllReadyH.nil
      go_simp
      go_at_call 33
      refine (takenU_no _ _ _ (by decide)).mono ?_
      rintro e w3 ⟨rfl, hw3⟩
      obtain rfl := hw3.symm
      go_wp2
      exact bodyPost_panic rfl ⟨rfl, R2.out⟩
end Go.Proofs.YtahoeodpjdbdkabDoor

namespace Go.Proofs.YtahoeodpjdbdkabDoor
open Go.RowKit

set_option maxRecDepth 100000 in
theorem catch_caught (p : Addr) (E : Int) (w : World) (hc : w.cell? p = some (.int .i64 0)) (hf : w.frozen? p = false) :
    CallsD Tryd.prog 32 #[.pointer (some p)] (.panicking (pnc E)) w fun e u' w' => e = .returned (.tuple #[]) ∧ settle u' = .returning ∧ w' = w.setCell p (.int .i64 E) := by
  have hne : ∀ w : World, (binOp BinOp.neq 20 (.iface 29 (.int .i64 E)) .nilIface).run Tryd.prog w = .ok (.bool true) w := fun _ => by kernel_rfl
  have hta : ∀ w : World, (Instr.typeAssert (.iface 29 (.int .i64 E)) 20 29 false).run Tryd.prog w = .ok (.int .i64 E) w := fun _ => by kernel_rfl
  refine callsD_of_wpS Tryd.func32 rfl fun c₀ cs hu => ?_
  apply wpS_seq
  apply wpS_region
  simp [wpOpsS, go_sem, recoverD, hu, Tryd.ntmps32, Exit.thenS]
  apply wpS_seq
  apply wpS_region
  simp [wpOpsS, go_sem, hne, Exit.thenS]
  refine wpS_cond (t := true) (by simp [Act.eval, Array.replicate]) ?_
  simp only [if_true]
  apply wpS_region
  simp [wpOpsS, go_sem, hta, hc, hf]
  cases c₀
  simp_all [bodyPostS, results, Tryd.results32, settle]

/-- The decoder's two functions, of any bytes. -/
theorem dhndA (w0 w1 : World) (B P X G O g : Nat) (T d D : Int) (W n : Nat) (l : List Nat) (hG : Gd T d) (hW : 1 ≤ W) (hW2 : W ≤ 4096) (Rc : Wk → Nat → Prop) :
    Hnd B P X G 61 T d D W n (dext O) 37 38 (dvr T d W l) (fun w s x => Dm w0 B P X G O g T d D W n l w s x ∧ Kept [B, P, X, G, O] w1 w) (fun w' pc => pc = pnc 102 ∧ Kept [B, P, X, G, O] w1 w') Rc := by
  refine ⟨fun w s x h => h.1.wm, fun w w' s s' x h hk hm => ⟨h.1.step hk hm, h.2.trans (hk.mono (fun y hy => by left; simp at hy ⊢; omega))⟩, ?_, ?_⟩
  · intro w s x ⟨h, hkw⟩ hin ht hk hR
    have hr := rom_pos (t := s.t) hW
    obtain ⟨Y, E, t', r', hres⟩ := runRes_ex l x s.r (rom W s.t) h.rd.2.2.2.1
    rcases runRes_ok hres with ⟨rfl, m, rfl, hm, rfl, hle, rfl, hb⟩ | ⟨hE, -⟩
    · refine (drun_ok w0 B P X G O g T d D W n l w s x h _ (rom W s.t) hr.1 (by omega) m hm hle hb).mono ?_
      rintro e w' ⟨rfl, hd, h98, hkk⟩
      exact .inl ⟨m, _, rfl, hm, hres, ⟨hd, hkw.trans (hkk.mono (fun y hy => by left; simp at hy ⊢; omega))⟩, h98⟩
    · have hE' : ¬ E = 0 := by rcases hE with h | h <;> rw [h] <;> decide
      refine (drun_no w0 B P X G O g T d D W n l w s x h _ (rom W s.t) hr.1 (by omega) Y E t' r' hres hE').mono ?_
      rintro e w' ⟨rfl, hkk⟩
      exact .inr ⟨_, rfl, ⟨Y, E, t', r', hres, hE'⟩, rfl, hkw.trans (hkk.mono (fun y hy => by left; simp at hy ⊢; omega))⟩
  · intro w s x k gg p least ⟨h, hkw⟩ hin ht hP
    have hle1 : least ≤ 1 := by rcases hP with ⟨h, _⟩ | ⟨h, _⟩ <;> omega
    have hrg := rg_pos T d hG
    obtain ⟨Y, E, t', hres⟩ := numRes_ex l x (po s.L k) (wde T d) h.rd.2.2.2.1
    rcases numRes_ok hres with ⟨rfl, v, rfl, hv, rfl, hle, hb⟩ | ⟨hE, -⟩
    · by_cases hlt : ((v + least : Nat) : Int) < rg T d
      · have e1 := fld_unf (v + least)
        have hql : -5000 ≤ unf (v + least) ∧ unf (v + least) ≤ 5000 := by unfold unf; split <;> omega
        refine (done_ok w0 B P X G O g T d D W n l w s x h hG k gg p least (unf (v + least)) v hv e1 (by rw [e1]; exact hlt) hle hb).mono ?_
        rintro e w' ⟨rfl, hc, h98, hkk⟩
        exact .inl ⟨unf (v + least), _, rfl, hql.1, hql.2, ⟨v, hres, e1, by rw [e1]; exact hlt⟩, ⟨hc, hkw.trans (hkk.mono (fun y hy => by left; simp at hy ⊢; omega))⟩, h98⟩
      · refine (done_big w0 B P X G O g T d D W n l w s x h hG k gg p least v hle1 hv (by omega) hle hb).mono ?_
        rintro e w' ⟨rfl, hkk⟩
        exact .inr ⟨_, rfl, .inr ⟨v, _, hres, by omega⟩, rfl, hkw.trans (hkk.mono (fun y hy => by left; simp at hy ⊢; omega))⟩
    · have hE' : ¬ E = 0 := by rcases hE with h | h <;> rw [h] <;> decide
      refine (done_no w0 B P X G O g T d D W n l w s x h hG k gg p least Y E t' hres hE').mono ?_
      rintro e w' ⟨rfl, hkk⟩
      exact .inr ⟨_, rfl, .inl ⟨Y, E, t', hres, hE'⟩, rfl, hkw.trans (hkk.mono (fun y hy => by left; simp at hy ⊢; omega))⟩
end Go.Proofs.YtahoeodpjdbdkabDoor

namespace Go.Proofs.YtahoeodpjdbdkabDoor
open Go.RowKit

/-- The raw samples, as they lie there. -/
def rawf (l : List Nat) (D : Int) : Nat → Int := fun i => (nextN l (8 + D.toNat * i) D.toNat : Int)
theorem rawf_in {l : List Nat} {D T : Int} (hD : Dp D T) (i : Nat) : 0 ≤ rawf l D i ∧ rawf l D i ≤ T := by
  have h := nextN_lt l (8 + D.toNat * i) D.toNat
  unfold rawf
  rcases hD with ⟨rfl, rfl⟩ | ⟨rfl, rfl⟩
  · have : (2 : Nat) ^ (Int.toNat 10) = 1024 := by decide
    omega
  · have : (2 : Nat) ^ (Int.toNat 12) = 4096 := by decide
    omega
theorem rawf_holds {l : List Nat} {D : Int} (h0 : nextN l 0 8 = 0) (k : Nat) (hk : 8 + D.toNat * k ≤ 8 * l.length) : Holds l (rwb D.toNat (rawf l D) k) := by
  induction k with
  | zero => exact ⟨by show 8 ≤ _; omega, h0⟩
  | succ k ih =>
    have hk' : 8 + D.toNat * k + D.toNat ≤ 8 * l.length := by rw [Nat.mul_succ] at hk; omega
    obtain ⟨i1, i2⟩ := ih (by omega)
    have e := rwb_len D.toNat (rawf l D) k
    have j := nextN_join l 0 (8 + D.toNat * k) D.toNat (by omega)
    rw [e] at i2
    refine ⟨by show (rwb D.toNat (rawf l D) k).2 + D.toNat ≤ _; rw [e]; exact hk', ?_⟩
    show nextN l 0 ((rwb D.toNat (rawf l D) k).2 + D.toNat) = (rwb D.toNat (rawf l D) k).1 * 2 ^ D.toNat + (rawf l D k).toNat
    rw [e, j, i2]
    rw [Nat.zero_add]
    unfold rawf
    rw [Int.toNat_natCast]

theorem rwk_in {l : List Nat} {D T d : Int} {n : Nat} (hG : Gd T d) (hD : Dp D T) : (rwk T d (rawf l D) n).In T := ⟨fun _ => sx0_fit T d hG, by show 0 ≤ 22; omega, fun i _ => rawf_in hD i⟩

/-- What read comes to. -/
def RdRes (T d D : Int) (W n : Nat) (l : List Nat) (E : Int) (s : Wk) : Prop :=
  (l.length = 0 ∧ E = 102) ∨ (1 ≤ l.length ∧ 2 ≤ nextN l 0 8 ∧ E = 102) ∨
  (1 ≤ l.length ∧ nextN l 0 8 = 0 ∧ 8 * l.length < 8 + D.toNat * n ∧ E = 102) ∨
  (1 ≤ l.length ∧ nextN l 0 8 = 0 ∧ 8 + D.toNat * n ≤ 8 * l.length ∧ s = rwk T d (rawf l D) n ∧ Fin l (8 + D.toNat * n) E) ∨
  (1 ≤ l.length ∧ nextN l 0 8 = 1 ∧ E = 102 ∧ ∃ s' x', Rch T d W n (dvr T d W l) (wk0 T d) 8 s' x' ∧ s'.In T ∧ Stk T d W n (dvr T d W l) s' x') ∨
  (1 ≤ l.length ∧ nextN l 0 8 = 1 ∧ s.t = n ∧ s.In T ∧ ∃ x', x' ≤ 8 * l.length ∧ Rch T d W n (dvr T d W l) (wk0 T d) 8 s x' ∧ Fin l x' E)

/-- What is left by read. -/
def RdPost (w0 : World) (B P X G O g : Nat) (T d D : Int) (W n : Nat) (l : List Nat) (e : Ending) (w' : World) : Prop :=
  ∃ E s, e = .returned (.int .i64 E) ∧ RdRes T d D W n l E s ∧ Kept [] w0 w' ∧ (E = 0 → (∃ t', Dm w0 B P X G O g T d D W n l w' s t') ∧ s.t = n ∧ s.In T)

/-- The cell of the result lies apart. -/
theorem apart_q {w0 w w' : World} {B P X G O g Q : Nat} {T d D : Int} {W n : Nat} {l : List Nat} {s : Wk} {t : Nat} {ks : List Nat} (h : Dm w0 B P X G O g T d D W n l w s t) (b : w.heap[Q]? = some (.cells #[.int .i64 0] 29 (0, 0))) (hk : Kept ks w w') (hs : ks ⊆ [B, P, X, G, O]) : w'.heap[Q]? = some (.cells #[.int .i64 0] 29 (0, 0)) := by
  obtain ⟨cs, hr', hl', hc⟩ := h.wm.row
  obtain ⟨ps, hp, _⟩ := h.wm.md.blk
  have o1 := ne_ty b h.wm.blk (by decide)
  have o2 := ne_ty b hr' (by decide)
  have o3 := ne_ty b hp (by decide)
  have o4 := ne_ty b h.wm.co.1 (by decide)
  have o5 := ne_ty b h.rd.1 (by decide)
  refine hk.heap b (fun hm => ?_)
  have := hs hm
  simp at this
  omega

theorem Dm.setq {w0 w : World} {B P X G O g Q : Nat} {T d D : Int} {W n : Nat} {l : List Nat} {s : Wk} {t : Nat} (h2 : Dm w0 B P X G O g T d D W n l w s t) (b2 : w.heap[Q]? = some (.cells #[.int .i64 0] 29 (0, 0))) (hQl : w0.heap.size ≤ Q) (v : Value) : Dm w0 B P X G O g T d D W n l (w.setCell ⟨Q, 0, none⟩ v) s t := by
  obtain ⟨cs, hr', hl', hc⟩ := h2.wm.row
  obtain ⟨ps, hp, _⟩ := h2.wm.md.blk
  have o1 := ne_ty h2.wm.blk b2 (by decide)
  have o2 := ne_ty hr' b2 (by decide)
  have o3 := ne_ty hp b2 (by decide)
  have o4 := ne_ty h2.wm.co.1 b2 (by decide)
  have o5 := ne_ty h2.rd.1 b2 (by decide)
  have o6 := ne_ty h2.rd.2.1 b2 (by decide)
  have k5 : Kept [Q] w (w.setCell ⟨Q, 0, none⟩ v) := (Kept.refl _ _).setCell (by simp) _
  exact ⟨h2.wm.keep k5 (by simp; omega), reader_kept h2.rd k5 (by simp; omega) (by simp; omega), h2.keep.step k5 (by simp; omega), h2.tab, h2.lo⟩

set_option maxHeartbeats 4000000 in
set_option maxRecDepth 1000000 in
/-- Whatever bytes are read. -/
theorem read_all (w0 : World) (B P X G O g : Nat) (T d D : Int) (W H n : Nat) (l : List Nat) (w : World) (hG : Gd T d) (hD : Dp D T) (hn : n ≤ 4194304) (hW : 1 ≤ W) (hW2 : W ≤ 4096) (hWH : n = W * H)
    (h : Dm w0 B P X G O g T d D W n l w (wk0 T d) 0) :
    Calls Tryd.prog 20 #[.pointer (some ⟨B, 0, none⟩)] w fun e w' => RdPost w0 B P X G O g T d D W n l e w' := by
  have hmf : ∀ (fn : Fn) (first cap : Array Value) (w : World), (Instr.makeFunc fn first cap).run Tryd.prog w = .ok (.func fn first cap) w := fun _ _ _ _ => rfl
  obtain ⟨w1, hw1, k1⟩ : ∃ w1, w.alloc (.cells #[.int .i64 0] 29 (0, 0)) = w1 ∧ Kept [] w w1 := ⟨_, rfl, alloc_kept _ _⟩
  have b1 : w1.heap[w.heap.size]? = some (.cells #[.int .i64 0] 29 (0, 0)) := by rw [← hw1]; exact heap_alloc_new _ _
  obtain ⟨Q, hQ⟩ : ∃ Q, w.heap.size = Q := ⟨_, rfl⟩
  rw [hQ] at b1
  have H1 := h.kp k1
  have c6 := dext_cell H1.wm
  have hQl : w0.heap.size ≤ Q := by rw [← hQ]; exact h.keep.size
  -- a panic is caught
  have CC : Hid (∀ (fn : Func) (tm : Array Value) (E : Int) (W' : World), (results fn tm).run Tryd.prog (W'.setCell ⟨Q, 0, none⟩ (.int .i64 E)) = .ok (.int .i64 E) (W'.setCell ⟨Q, 0, none⟩ (.int .i64 E)) → W'.heap[Q]? = some (.cells #[.int .i64 0] 29 (0, 0)) → Kept [] w0 W' → E ≠ 0 → (∃ s, RdRes T d D W n l E s) →
      Leaves Tryd.prog fn tm (RdPost w0 B P X G O g T d D W n l) [{ target := .fn (.func 32) #[.pointer (some ⟨Q, 0, none⟩)], args := #[] }] (.panicking (pnc E)) W') := Hid.mk (by
    intro fn tm E W' hres hb hk hE ⟨s, hs⟩
    obtain ⟨z0, zf⟩ := cells_one hb
    refine leaves_cons (f := 32) (args := #[.pointer (some ⟨Q, 0, none⟩)]) (by simp) (by simp [go_sem]) ?_
    refine (catch_caught ⟨Q, 0, none⟩ E W' z0 zf).mono ?_
    rintro e u' w'' ⟨rfl, hu, rfl⟩
    have k5 : Kept [Q] W' (W'.setCell ⟨Q, 0, none⟩ (.int .i64 E)) := (Kept.refl _ _).setCell (by simp) _
    show Leaves _ _ _ _ [] (settle u') _
    rw [hu]
    exact ⟨_, hres, E, s, rfl, hs, hk.step k5 (by simp; omega), fun h => absurd h hE⟩)
  have HW1 := Hid.mk (And.intro H1 b1)
  clear h H1 k1 b1
  by_cases hlen : l.length = 0
  · have C1 := Hid.mk ((get_end O g l 0 8 w1 HW1.out.1.rd (by omega) (by omega) (by rw [hlen]; decide)).mono (R' := fun e w' => e = .returned (.tuple #[.int .u32 0, .int .i64 13]) ∧ Hid (Kept [] w0 w' ∧ w'.heap[Q]? = some (.cells #[.int .i64 0] 29 (0, 0)))) (by
      rintro e w' ⟨rfl, q, rfl⟩
      have kq : Kept [] w1 (w1.drewN q) := (Kept.refl _ _).drewN q
      exact ⟨rfl, Hid.mk ⟨HW1.out.1.keep.trans kq, kq.heap HW1.out.2 (by simp)⟩⟩))
    go_enter_defers Tryd.func20, Tryd.ntmps20
    go_wp2_with (first | (go_at_call 34; refine C1.out.mono ?_; rintro e w2 ⟨rfl, R2⟩) | (go_at_call 33; refine (takenU_no _ _ _ (by decide)).mono ?_; rintro e w3 ⟨rfl, hw3⟩; obtain rfl := hw3.symm))
    obtain ⟨z0, -⟩ := cells_one R2.out.2
    exact CC.out Tryd.f20 _ 102 w2 (by simp [results, Tryd.results20, go_sem, z0]) R2.out.2 R2.out.1 (by decide) ⟨wk0 T d, .inl ⟨hlen, rfl⟩⟩
  · have hl1 : 1 ≤ l.length := by omega
    obtain ⟨c, hc⟩ : ∃ c, nextN l 0 8 = c := ⟨_, rfl⟩
    have C1 := Hid.mk ((get_any O g l 0 8 w1 HW1.out.1.rd (by omega) (by omega) (by omega)).mono (R' := fun e w' => e = .returned (.tuple #[.int .u32 (c : Int), .int .i64 0]) ∧ Hid (Dm w0 B P X G O g T d D W n l w' (wk0 T d) 8 ∧ w'.heap[Q]? = some (.cells #[.int .i64 0] 29 (0, 0)))) (by
      rintro e w' ⟨rfl, hrd, hkk⟩
      have H1 := HW1.out.1
      have b1 := HW1.out.2
      obtain ⟨cs, hr', hl', hcc⟩ := H1.wm.row
      obtain ⟨ps, hp, _⟩ := H1.wm.md.blk
      have o1 := ne_ty H1.rd.1 H1.wm.blk (by decide)
      have o2 := ne_ty H1.rd.1 hr' (by decide)
      have o3 := ne_ty H1.rd.1 hp (by decide)
      have o4 := ne_ty H1.rd.1 H1.wm.co.1 (by decide)
      have o5 := ne_ty H1.rd.1 b1 (by decide)
      have hlo := H1.lo
      have e8 : nextN l 0 (Int.toNat 8) = c := hc
      have hm' : Wm w' B P X G 61 T d D W n (dext O) (wk0 T d) := H1.wm.keep hkk (by simp; omega)
      rw [e8]
      exact ⟨rfl, Hid.mk ⟨⟨hm', hrd, H1.keep.step hkk (fun y hy => by right; simp at hy; omega), H1.tab, H1.lo⟩, hkk.heap b1 (by simp; omega)⟩⟩))
    have HC := Hid.mk (And.intro hl1 hc)
    clear hc
    rcases (show c = 0 ∨ c = 1 ∨ 2 ≤ c by omega) with rfl | rfl | hc2
    · go_enter_defers Tryd.func20, Tryd.ntmps20
      go_wp2_with (first | (go_at_call 34; refine C1.out.mono ?_; rintro e w2 ⟨rfl, R2⟩) | (go_at_call 33; refine (takenU_ok _ _).mono ?_; rintro e w3 ⟨rfl, hw3⟩; obtain rfl := hw3.symm))
      have h2 : Dm w0 B P X G O g T d D W n l w2 (rwk T d (rawf l D) 0) 8 := by
        obtain ⟨a1, a2, a3, a4, a5⟩ := R2.out.1
        exact ⟨a1.congr (rawf l D) (fun i hi => by have : i < 0 := hi; omega), a2, a3, a4, a5⟩
      by_cases hsh : 8 * l.length < 8 + D.toNat * n
      · refine (samples_no w0 B P X G O g T d D W n l (rawf l D) w2 hD hn (fun i => rawf_in hD i) (fun k hk => rawf_holds HC.out.2 k hk) hsh h2).mono ?_
        rintro e w3 ⟨rfl, k3⟩
        have b3 := apart_q h2 R2.out.2 k3 (List.Subset.refl _)
        have hlo := h2.lo
        obtain ⟨z0, -⟩ := cells_one b3
        go_wp2
        exact CC.out Tryd.f20 _ 102 w3 (by simp [results, Tryd.results20, go_sem, z0]) b3 (h2.keep.step k3 (fun y hy => by right; simp at hy; omega)) (by decide) ⟨wk0 T d, .inr (.inr (.inl ⟨HC.out.1, HC.out.2, hsh, rfl⟩))⟩
      · refine (samples_ok w0 B P X G O g T d D W n l (rawf l D) w2 hD hn (fun i => rawf_in hD i) (rawf_holds HC.out.2 n (by omega)) h2).mono ?_
        rintro e w3 ⟨rfl, h3, k3⟩
        have b3 := apart_q h2 R2.out.2 k3 (List.Subset.refl _)
        have C4 := Hid.mk ((dend_any w0 B P X G O g T d D W n l w3 (rwk T d (rawf l D) n) (8 + D.toNat * n) h3 h3.rd.2.2.2.1).mono (R' := fun e w' => ((e = .returned (.tuple #[]) ∧ Hid (Fin l (8 + D.toNat * n) 0)) ∨ ∃ E, e = .panicked (pnc E) ∧ Hid (Fin l (8 + D.toNat * n) E ∧ E ≠ 0)) ∧ Hid ((∃ t', Dm w0 B P X G O g T d D W n l w' (rwk T d (rawf l D) n) t') ∧ w'.heap[Q]? = some (.cells #[.int .i64 0] 29 (0, 0))) ∧ w'.cell? ⟨Q, 0, none⟩ = some (.int .i64 0) ∧ w'.frozen? ⟨Q, 0, none⟩ = false) (by
          rintro e w' ⟨ho, h4, k4⟩
          have b4 := apart_q h3 b3 k4 (by simp)
          obtain ⟨x, y⟩ := cells_one b4
          refine ⟨?_, Hid.mk ⟨h4, b4⟩, x, y⟩
          rcases ho with ⟨rfl, hF⟩ | ⟨E, rfl, hF, hE⟩
          · exact .inl ⟨rfl, Hid.mk hF⟩
          · exact .inr ⟨E, rfl, Hid.mk ⟨hF, hE⟩⟩))
        have HX := Hid.mk (And.intro h3 b3)
        clear h3 k3 b3 R2 C1
        go_wp2_with (fail)
        refine C4.out.mono ?_
        rintro e w4 ⟨⟨rfl, hF⟩ | ⟨E, rfl, hF⟩, R4, z0, zf⟩
        · go_wp2
          refine leaves_cons (f := 32) (args := #[.pointer (some ⟨Q, 0, none⟩)]) (by simp) (by simp [go_sem]) ?_
          refine (catch_idle ⟨Q, 0, none⟩ _).mono ?_
          rintro e u' w'' ⟨rfl, rfl, rfl⟩
          obtain ⟨⟨t', h4⟩, b4⟩ := R4.out
          have h5 := h4.setq b4 hQl (.int .i64 0)
          simp [Leaves, settle, results, Tryd.results20, go_sem, z0]
          exact ⟨0, (rwk T d (rawf l D) n), rfl, .inr (.inr (.inr (.inl ⟨HC.out.1, HC.out.2, by omega, rfl, hF.out⟩))), h5.keep, fun _ => ⟨⟨t', h5⟩, rfl, rwk_in hG hD⟩⟩
        · go_wp2
          obtain ⟨⟨t', h4⟩, b4⟩ := R4.out
          exact CC.out Tryd.f20 _ E w4 (by simp [results, Tryd.results20, go_sem, z0]) b4 h4.keep hF.out.2 ⟨(rwk T d (rawf l D) n), .inr (.inr (.inr (.inl ⟨HC.out.1, HC.out.2, by omega, rfl, hF.out.1⟩)))⟩
    · go_enter_defers Tryd.func20, Tryd.ntmps20
      go_wp2_with (first | (go_at_call 34; refine C1.out.mono ?_; rintro e w2 ⟨rfl, R2⟩) | (go_at_call 33; refine (takenU_ok _ _).mono ?_; rintro e w3 ⟨rfl, hw3⟩; obtain rfl := hw3.symm))
      refine (through38 B P X G 61 T d D W H n (dext O) (dvr T d W l) (fun w s x => Dm w0 B P X G O g T d D W n l w s x ∧ Kept [B, P, X, G, O] w2 w) (fun w' pc => pc = pnc 102 ∧ Kept [B, P, X, G, O] w2 w') hD hG hn hW hW2 hWH (wk0 T d) 8 (dhndA w0 w2 B P X G O g T d D W n l hG hW hW2 _) w2 ⟨R2.out.1, Kept.refl _ _⟩ (wk0_in hG) (by show 0 ≤ n; omega)).mono ?_
      rintro e w3 (⟨rfl, s3, x3, hR, ht, hin, h3, k3⟩ | ⟨pc, s3, x3, rfl, hR, hin, hS, rfl, k3⟩)
      · have b3 := apart_q R2.out.1 R2.out.2 k3 (List.Subset.refl _)
        have hx3 := h3.rd.2.2.2.1
        have C4 := Hid.mk ((dend_any w0 B P X G O g T d D W n l w3 s3 x3 h3 h3.rd.2.2.2.1).mono (R' := fun e w' => ((e = .returned (.tuple #[]) ∧ Hid (Fin l x3 0)) ∨ ∃ E, e = .panicked (pnc E) ∧ Hid (Fin l x3 E ∧ E ≠ 0)) ∧ Hid ((∃ t', Dm w0 B P X G O g T d D W n l w' s3 t') ∧ w'.heap[Q]? = some (.cells #[.int .i64 0] 29 (0, 0))) ∧ w'.cell? ⟨Q, 0, none⟩ = some (.int .i64 0) ∧ w'.frozen? ⟨Q, 0, none⟩ = false) (by
          rintro e w' ⟨ho, h4, k4⟩
          have b4 := apart_q h3 b3 k4 (by simp)
          obtain ⟨x, y⟩ := cells_one b4
          refine ⟨?_, Hid.mk ⟨h4, b4⟩, x, y⟩
          rcases ho with ⟨rfl, hF⟩ | ⟨E, rfl, hF, hE⟩
          · exact .inl ⟨rfl, Hid.mk hF⟩
          · exact .inr ⟨E, rfl, Hid.mk ⟨hF, hE⟩⟩))
        have HX := Hid.mk (And.intro h3 b3)
        clear h3 k3 b3 R2 C1
        go_wp2_with (fail)
        refine C4.out.mono ?_
        rintro e w4 ⟨⟨rfl, hF⟩ | ⟨E, rfl, hF⟩, R4, z0, zf⟩
        · go_wp2
          refine leaves_cons (f := 32) (args := #[.pointer (some ⟨Q, 0, none⟩)]) (by simp) (by simp [go_sem]) ?_
          refine (catch_idle ⟨Q, 0, none⟩ _).mono ?_
          rintro e u' w'' ⟨rfl, rfl, rfl⟩
          obtain ⟨⟨t', h4⟩, b4⟩ := R4.out
          have h5 := h4.setq b4 hQl (.int .i64 0)
          simp [Leaves, settle, results, Tryd.results20, go_sem, z0]
          exact ⟨0, s3, rfl, .inr (.inr (.inr (.inr (.inr ⟨HC.out.1, HC.out.2, ht, hin, x3, hx3, hR, hF.out⟩)))), h5.keep, fun _ => ⟨⟨t', h5⟩, ht, hin⟩⟩
        · go_wp2
          obtain ⟨⟨t', h4⟩, b4⟩ := R4.out
          exact CC.out Tryd.f20 _ E w4 (by simp [results, Tryd.results20, go_sem, z0]) b4 h4.keep hF.out.2 ⟨s3, .inr (.inr (.inr (.inr (.inr ⟨HC.out.1, HC.out.2, ht, hin, x3, hx3, hR, hF.out.1⟩))))⟩
      · have b3 := apart_q R2.out.1 R2.out.2 k3 (List.Subset.refl _)
        have hlo := R2.out.1.lo
        obtain ⟨z0, -⟩ := cells_one b3
        go_wp2
        exact CC.out Tryd.f20 _ 102 w3 (by simp [results, Tryd.results20, go_sem, z0]) b3 (R2.out.1.keep.step k3 (fun y hy => by right; simp at hy; omega)) (by decide) ⟨wk0 T d, .inr (.inr (.inr (.inr (.inl ⟨HC.out.1, HC.out.2, rfl, s3, x3, hR, hin, hS⟩))))⟩
    · have h0 : ((c : Int) == 0) = false := by simp; omega
      have h1 : ((c : Int) == 1) = false := by simp; omega
      go_enter_defers Tryd.func20, Tryd.ntmps20
      go_wp2_with (first | (go_at_call 34; refine C1.out.mono ?_; rintro e w2 ⟨rfl, R2⟩) | (go_at_call 33; refine (takenU_ok _ _).mono ?_; rintro e w3 ⟨rfl, hw3⟩; obtain rfl := hw3.symm))
      obtain ⟨z0, -⟩ := cells_one R2.out.2
      exact CC.out Tryd.f20 _ 102 w2 (by simp [results, Tryd.results20, go_sem, z0]) R2.out.2 R2.out.1.keep (by decide) ⟨wk0 T d, .inr (.inl ⟨HC.out.1, by rw [HC.out.2]; exact hc2, rfl⟩)⟩
end Go.Proofs.YtahoeodpjdbdkabDoor
