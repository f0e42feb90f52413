import Derived.Test.YtoghkbajdljheaaZ6
namespace Go.Proofs.Ytoghkbajdljheaa
open Go.RowKit

theorem Ok.more {s : St} {c d : Nat} (h : Ok s c) (hd : c ≤ d) : Ok s d :=
  ⟨h.bs, h.l2, h.t2, fun k hk => by have := h.len k hk; omega, by have := h.n; omega, h.l, h.ls⟩

theorem Ok.put {s : St} {c k N' len' : Nat} {V : Nat → Value} (h : Ok s c) (hk : k < 2) (hl : len' ≤ s.len k + 32) : Ok { s with V := V, N := upd s.N k N', len := upd s.len k len', bs := upd s.bs k (bin len' N') } (c + 1) := by
  refine ⟨fun j hj => ?_, h.l2, h.t2, fun j hj => ?_, by have := h.n; show s.n ≤ _; omega, h.l, h.ls⟩
  · by_cases e : j = k
    · subst e; simp [upd]
    · simp only [upd_far _ _ _ _ e]; exact h.bs j hj
  · by_cases e : j = k
    · subst e; have := h.len j hj; simp only [upd_at]; omega
    · have := h.len j hj; simp only [upd_far _ _ _ _ e]; omega

theorem Ok.read {s : St} {c k : Nat} {l : List Nat} {B : Nat → Nat} {V : Nat → Value} {g : Nat → Nat} (h : Ok s c) (hl : l.length ≤ 10000000) : Ok (s.read k l B V g) (c + 1) := by
  refine ⟨h.bs, fun j hj => ?_, fun j hj => ?_, fun j hj => by have := h.len j hj; show s.len j ≤ _; omega, by have := h.n; show s.n ≤ _; omega, fun j hj => ?_, h.ls⟩
  · by_cases e : j = k
    · subst e; simp [St.read, upd]
    · simp only [St.read, upd_far _ _ _ _ e]; exact h.l2 j hj
  · by_cases e : j = k
    · subst e; simp [St.read, upd]
    · simp only [St.read, upd_far _ _ _ _ e]; exact h.t2 j hj
  · by_cases e : j = k
    · subst e; simp only [St.read, upd_at]; exact hl
    · simp only [St.read, upd_far _ _ _ _ e]; exact h.l j hj

theorem Ok.bytes {s : St} {c n : Nat} {vl vw : Value} {LV LU : Nat → Value} {L0 L1 : List Nat} (h : Ok s c) (h0 : L0.length ≤ 10000000) (h1 : L1.length ≤ 10000000) (hn : n = s.n) :
    Ok { s with n := n + 1 + 1 + 1, vl := vl, vw := vw, LV := LV, LU := LU, ls := upd (upd (upd s.ls n L0) (n + 1) L1) (n + 1 + 1) L0 } (c + 1) := by
  subst hn
  refine ⟨h.bs, h.l2, h.t2, fun j hj => by have := h.len j hj; show s.len j ≤ _; omega, by have := h.n; show s.n + 1 + 1 + 1 ≤ _; omega, h.l, fun i => ?_⟩
  have h2 := h.ls i
  simp only [upd]
  repeat' split
  all_goals omega

/-- A step on a writer. -/
theorem writes_do (W w : World) (A : Nat) (s : St) (m : Nat) (X : Nat → Rsc) (c k : Nat) (kI kd on n v : Int) (ao : Option Addr) (mm cap : Nat) (l : List Nat) (h : Stt W w A s m X) (ok : Ok s c) (hc : c ≤ 200000) (hk : k < 2) (hkI : kI = (k : Int)) (d1 : 1 ≤ kd) (d2 : kd ≤ 5)
    (v0 : 0 ≤ v) (v1 : v < 4294967296) (hr : Reads W ao l) (hb : Byts l) (hm : l.length = mm) (hl : mm ≤ 10000000) :
    Calls Try.prog 33 #[.pointer (some ⟨A, 0, none⟩), .agg (opc kd on n v ao mm cap), .int .i64 kI] w fun e w' => e = .returned (.tuple #[.bool true, .bool true]) ∧ ∃ s', Stt W w' A s' m X ∧ Ok s' (c + 1) := by
  have len0 := ok.len 0 (by omega)
  have len1 := ok.len 1 (by omega)
  have hn := ok.n
  have hM0 : ((s.len 0 + 7) / 8) ≤ 10000000 := by omega
  have hM1 : ((s.len 1 + 7) / 8) ≤ 10000000 := by omega
  rcases (by omega : kd = 1 ∨ kd = 2 ∨ kd = 3 ∨ kd = 4 ∨ kd = 5) with rfl | rfl | rfl | rfl | rfl <;> rcases two_of hk with rfl | rfl <;> subst hkI
  · obtain ⟨E, N', len', hle, h1, h2⟩ := put_both (s.N 0) (s.len 0) v n v0 v1 (by omega)
    refine (writes_put0 W w A s m X on n v E ao mm cap N' len' h (ok.bs 0 hk) h1 h2).mono ?_
    rintro e w' ⟨rfl, V, hS⟩
    exact ⟨rfl, _, hS, ok.put hk hle⟩
  · obtain ⟨E, N', len', hle, h1, h2⟩ := put_both (s.N 1) (s.len 1) v n v0 v1 (by omega)
    refine (writes_put1 W w A s m X on n v E ao mm cap N' len' h (ok.bs 1 hk) h1 h2).mono ?_
    rintro e w' ⟨rfl, V, hS⟩
    exact ⟨rfl, _, hS, ok.put hk hle⟩
  · refine (writes_len0 W w A s m X on n v ao mm cap h (ok.bs 0 hk) (by omega)).mono ?_
    rintro e w' ⟨rfl, hS⟩
    exact ⟨rfl, _, hS, ok.more (by omega)⟩
  · refine (writes_len1 W w A s m X on n v ao mm cap h (ok.bs 1 hk) (by omega)).mono ?_
    rintro e w' ⟨rfl, hS⟩
    exact ⟨rfl, _, hS, ok.more (by omega)⟩
  · refine (writes_bytes0 W w A s m X on n v ao mm cap _ _ _ _ h (by omega) (by omega) (by omega) rfl rfl rfl rfl (ok.bs 0 (by omega)) (ok.bs 1 (by omega))).mono ?_
    rintro e w' ⟨rfl, vl, vw, LV, LU, hS⟩
    exact ⟨rfl, _, hS, ok.bytes (by rw [big_length]; exact hM0) (by rw [big_length]; exact hM1) rfl⟩
  · refine (writes_bytes1 W w A s m X on n v ao mm cap _ _ _ _ h (by omega) (by omega) (by omega) rfl rfl rfl rfl (ok.bs 1 (by omega)) (ok.bs 0 (by omega))).mono ?_
    rintro e w' ⟨rfl, vl, vw, LV, LU, hS⟩
    exact ⟨rfl, _, hS, ok.bytes (by rw [big_length]; exact hM1) (by rw [big_length]; exact hM0) rfl⟩
  · refine (writes_over0 W w A s m X on n v ao mm cap _ _ h (by omega) rfl rfl).mono ?_
    rintro e w' ⟨rfl, B, V, g, hS⟩
    exact ⟨rfl, _, hS, ok.read (by rw [big_length]; exact hM0)⟩
  · refine (writes_over1 W w A s m X on n v ao mm cap _ _ h (by omega) rfl rfl).mono ?_
    rintro e w' ⟨rfl, B, V, g, hS⟩
    exact ⟨rfl, _, hS, ok.read (by rw [big_length]; exact hM1)⟩
  · refine (writes_read0 W w A s m X on n v ao mm cap l h hr hb hm hl).mono ?_
    rintro e w' ⟨rfl, B, V, g, hS⟩
    exact ⟨rfl, _, hS, ok.read (by omega)⟩
  · refine (writes_read1 W w A s m X on n v ao mm cap l h hr hb hm hl).mono ?_
    rintro e w' ⟨rfl, B, V, g, hS⟩
    exact ⟨rfl, _, hS, ok.read (by omega)⟩

theorem writes_not (W w : World) (A : Nat) (s : St) (m : Nat) (X : Nat → Rsc) (k : Nat) (kI kd on n v : Int) (ao : Option Addr) (mm cap : Nat) (h : Stt W w A s m X) (hk : k < 2) (hkI : kI = (k : Int)) (d : kd < 1 ∨ 5 < kd) :
    Calls Try.prog 33 #[.pointer (some ⟨A, 0, none⟩), .agg (opc kd on n v ao mm cap), .int .i64 kI] w fun e w' => e = .returned (.tuple #[.bool true, .bool false]) ∧ Stt W w' A s m X := by
  rcases two_of hk with rfl | rfl <;> subst hkI
  · exact writes_none0 W w A s m X kd on n v ao mm cap h (by omega) (by omega) (by omega) (by omega) (by omega)
  · exact writes_none1 W w A s m X kd on n v ao mm cap h (by omega) (by omega) (by omega) (by omega) (by omega)

theorem step_pick (on : Int) : ∃ k : Nat, k < 2 ∧ pick on 2 = (k : Int) := by
  have h0 := pick_lo on 2 (by omega)
  have h1 := pick_hi on 2 (by omega)
  exact ⟨(pick on 2).toNat, by omega, by omega⟩

set_option maxHeartbeats 4000000 in
set_option maxRecDepth 1000000 in
/-- A step on a writer. -/
theorem step_do (W w : World) (A : Nat) (s : St) (m : Nat) (X : Nat → Rsc) (c : Nat) (kd on n v : Int) (ao : Option Addr) (mm cap : Nat) (l : List Nat) (h : Stt W w A s m X) (ok : Ok s c) (hc : c ≤ 200000) (d1 : 1 ≤ kd) (d2 : kd ≤ 5)
    (o0 : -9223372036854775808 ≤ on) (o1 : on ≤ 9223372036854775807) (v0 : 0 ≤ v) (v1 : v < 4294967296) (hr : Reads W ao l) (hb : Byts l) (hm : l.length = mm) (hl : mm ≤ 10000000) :
    Calls Try.prog 13 #[.pointer (some ⟨A, 0, none⟩), .agg (opc kd on n v ao mm cap)] w fun e w' => e = .returned (.bool true) ∧ ∃ s', Stt W w' A s' m X ∧ Ok s' (c + 1) := by
  have HS0 := Hid.mk (h.push (r := obj w.heap.size (.cells (opc kd on n v ao mm cap) 45 (0, 0))) ((Kept.refl [] w).alloc (.cells (opc kd on n v ao mm cap) 45)) (heap_alloc_new w _) (by simp [obj]))
  obtain ⟨q0, q1, q2, q3, q4⟩ := HS0.out.op
  obtain ⟨k, hk, hp⟩ := step_pick on
  have Hp := Hid.mk hp
  have Hok := Hid.mk ok
  have Hr := Hid.mk hr
  have Hb := Hid.mk hb
  have Hm := Hid.mk hm
  clear h ok hr hb hm hp
  go_enter Try.func13, Try.ntmps13
  go_wp2_with fail
  generalize w.alloc (.cells (opc kd on n v ao mm cap) 45) = w1 at *
  generalize w.heap.size = O at *
  refine (pick_any on 2 _ o0 o1 (by omega)).mono ?_
  rintro e w2 ⟨rfl, rfl⟩
  rw [Hp.out]
  go_wp2_with fail
  refine (writes_do W _ A s (m + 1) _ c k _ kd on n v ao mm cap l HS0.out Hok.out hc hk rfl d1 d2 v0 v1 Hr.out Hb.out Hm.out hl).mono ?_
  rintro e w3 ⟨rfl, s', hS3, hok3⟩
  have HS3 := Hid.mk hS3.unop
  have Hok3 := Hid.mk hok3
  clear hS3 hok3 HS0
  go_wp2
  go_ret
  exact ⟨rfl, s', HS3.out, Hok3.out⟩
end Go.Proofs.Ytoghkbajdljheaa
