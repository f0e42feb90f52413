import Derived.Test.YtiojcfffhcipnaaRa
namespace Go.Proofs.Ytiojcfffhcipnaa
open Go.RowKit

/-- What is appended to, or made anew, lies as before, or in new memory, or nowhere. -/
def LiM (w : World) (V V' : Value) : Prop := ∀ x ∈ V'.ownBlock.toList, x ∈ V.ownBlock.toList ∨ w.heap.size ≤ x
theorem Lies.lim {w : World} {V V' : Value} (h : Lies w V V') : LiM w V V' := h.mem
/-- What the document's Append leaves. -/
def rapS (s : Md) (l : List Nat) : Md := if s.dead then s else if 268435456 < s.b.length + l.length then s else if s.left = 1 then ⟨s.b ++ l.take s.keep.toNat, s.g, true, 0, s.keep⟩ else { s with b := s.b ++ l, left := if s.left = 0 then 0 else s.left - 1 }

theorem Rmd.bounds {w : World} {P : Nat} {V L : Value} {s : Md} (h : Rmd w P V L s) : ∃ bo c, V = .slice bo s.b.length c ∧ (bo = none → c = 0) ∧ s.b.length ≤ c := by
  obtain ⟨bo, c, e, h1, h2, -, -⟩ := row_form2 h.row
  exact ⟨bo, c, e, h1, h2⟩
theorem reads_take' {w : World} {so : Option Addr} {l : List Nat} (k : Nat) (h : Reads w so l) : Reads w so (l.take k) := by
  rcases h with h | ⟨g, off, h, hc⟩
  · exact .inl (by simp [h])
  · exact .inr ⟨g, off, h, fun i hi => by
      have hi' : i < k ∧ i < l.length := by simp at hi; omega
      rw [hc i hi'.2]
      simp [List.getElem?_take_of_lt hi'.1]⟩
theorem Rmd.drew {w : World} {P : Nat} {V L : Value} {s : Md} (h : Rmd w P V L s) : Rmd w.drew P V L s := h.keep ((Kept.refl _ _).drew)

set_option maxHeartbeats 8000000 in
set_option maxRecDepth 100000 in
theorem rappend_ok (w : World) (P : Nat) (V L : Value) (s : Md) (so : Option Addr) (m sc : Nat) (l : List Nat) (h : Rmd w P V L s) (ok : Mok s) (hr : Reads w so l) (hm : l.length = m) (hc : so = none → sc = 0) (hP : l = [] ∨ ∀ g off, so = some ⟨g, off, none⟩ → g ≠ P)
    (hd : s.dead = false) (hf : s.b.length + m ≤ 268435456) (hl : s.left ≠ 1) :
    Calls Try.prog 27 #[.pointer (some ⟨P, 0, none⟩), .slice so m sc] w fun e w' => ∃ V', e = .returned (.tuple #[.int .i64 (s.b.length : Int), .int .i64 0]) ∧ Rmd w' P V' L { s with b := s.b ++ l, left := if s.left = 0 then 0 else s.left - 1 } ∧ Kept (P :: V.ownBlock.toList) w w' ∧ Lies w V V' := by
  obtain ⟨b, g, d, lf, kp⟩ := s
  simp only at hd hf hl ⊢
  subst hd
  obtain ⟨-, -, l0, l1, -, -⟩ := ok
  simp only at l0 l1
  obtain ⟨n, en⟩ : ∃ n, b.length = n := ⟨_, rfl⟩
  rw [en] at hf ⊢
  have q1 : wrap64 (268435456 - (n : Int)) = 268435456 - (n : Int) := by unfold wrap64; omega
  have q2 : ¬ (268435456 - (n : Int) < (m : Int)) := by omega
  have q3 : (lf == 1) = false := by simpa using hl
  have q4 : wrap64 (lf - 1) = lf - 1 := by unfold wrap64; omega
  obtain ⟨bo, c, eV, n1, -⟩ := h.bounds
  simp only [en] at eV
  subst eV
  have c0 := h.c0
  have c1 := h.c1
  have c2 := h.c2
  have f0 := h.fz 0
  have f2 := h.fz 2
  simp only at c1 c2
  rcases (by omega : lf = 0 ∨ 1 < lf) with hz | hz
  · subst hz
    have hrow := h.row
    simp only [en] at hrow
    obtain ⟨v', u', hrun, ho, hk, hL⟩ := app_at w 29 _ _ _ hrow so m sc l hr hm (by omega) hc
    obtain ⟨bz, cz, ez, -, -, -, -⟩ := row_form2 ho
    subst ez
    obtain ⟨m3, k3⟩ := h.srow (V' := .slice bz (n + m) cz) (b ++ l) hk (by rw [List.length_append, en, hm, List.map_append]; exact ho)
    have hb := hk.heap h.box (own_ty h.box (by decide) h.row)
    have cu : u'.cell? ⟨P, 0, none⟩ = some (.slice bo n c) := by simp [World.cell?, hb]
    have fu : u'.frozen? ⟨P, 0, none⟩ = false := by simp [World.frozen?, hb]
    have M3 := Hid.mk (And.intro m3 (And.intro k3 hL))
    clear h m3 k3 hk hL hrow ho hb hr hf l0 l1 hl
    go_enter Try.func27, Try.ntmps27
    go_wp2_with (at_builtin; refine wpList_app_eq' rfl _ _ 29 rfl _ _ _ _ rfl rfl hrun ?_)
    go_ret2
    exact ⟨rfl, .slice bz (n + m) cz, by simpa using M3.out.1, M3.out.2.1, M3.out.2.2⟩
  · have e9 : (if lf = 0 then (0 : Int) else lf - 1) = lf - 1 := if_neg (by omega)
    rw [e9]
    obtain ⟨m2, k2⟩ := h.sleft (lf - 1)
    have r2 := hr.keptP k2 hP
    have hrow := m2.row
    simp only [en] at hrow
    obtain ⟨v', u', hrun, ho, hk, hL⟩ := app_at _ 29 _ _ _ hrow so m sc l r2 hm (by omega) hc
    obtain ⟨bz, cz, ez, -, -, -, -⟩ := row_form2 ho
    subst ez
    obtain ⟨m3, k3⟩ := m2.srow (V' := .slice bz (n + m) cz) (b ++ l) hk (by rw [List.length_append, en, hm, List.map_append]; exact ho)
    have hb := hk.heap m2.box (own_ty m2.box (by decide) m2.row)
    have cu : u'.cell? ⟨P, 0, none⟩ = some (.slice bo n c) := by simp [World.cell?, hb]
    have fu : u'.frozen? ⟨P, 0, none⟩ = false := by simp [World.frozen?, hb]
    have M3 := Hid.mk (And.intro m3 (And.intro ((k2.at (List.mem_cons_self (a := P) (l := (Value.slice bo n c).ownBlock.toList))).step k3 (fun x hx => .inl hx)) (hL.of_kept k2)))
    have c0' : (w.setCell ⟨P, 2, none⟩ (.int .i64 (lf - 1))).cell? ⟨P, 0, none⟩ = some (.slice bo n c) := m2.c0
    have q5 : ¬ lf ≤ 1 := by omega
    clear h m2 k2 r2 m3 k3 hk hL hrow ho hb hr hf l0 l1 hl e9
    go_enter Try.func27, Try.ntmps27
    go_wp2_with (at_builtin; refine wpList_app_eq' rfl _ _ 29 rfl _ _ _ _ rfl rfl hrun ?_)
    go_ret2
    exact ⟨rfl, .slice bz (n + m) cz, M3.out.1, M3.out.2.1, M3.out.2.2⟩

set_option maxHeartbeats 8000000 in
set_option maxRecDepth 100000 in
theorem rappend_dead (w : World) (P : Nat) (V L : Value) (s : Md) (so : Option Addr) (m sc : Nat) (h : Rmd w P V L s) (hd : s.dead = true) :
    Calls Try.prog 27 #[.pointer (some ⟨P, 0, none⟩), .slice so m sc] w fun e w' => e = .returned (.tuple #[.int .i64 0, .int .i64 152]) ∧ w' = w := by
  have c1 := h.c1
  rw [hd] at c1
  clear h
  go_enter Try.func27, Try.ntmps27
  go_wp2
  go_ret2
  exact ⟨rfl, rfl⟩

set_option maxHeartbeats 8000000 in
set_option maxRecDepth 100000 in
theorem rappend_full (w : World) (P : Nat) (V L : Value) (s : Md) (so : Option Addr) (m sc : Nat) (h : Rmd w P V L s) (hn : s.b.length ≤ 268435456) (hd : s.dead = false) (hf : 268435456 < s.b.length + m) :
    Calls Try.prog 27 #[.pointer (some ⟨P, 0, none⟩), .slice so m sc] w fun e w' => e = .returned (.tuple #[.int .i64 0, .int .i64 153]) ∧ w' = w := by
  have c1 := h.c1
  rw [hd] at c1
  obtain ⟨n, en⟩ : ∃ n, s.b.length = n := ⟨_, rfl⟩
  obtain ⟨bo, c, eV, n1, -⟩ := h.bounds
  rw [en] at eV hf hn
  subst eV
  have c0 := h.c0
  have q1 : wrap64 (268435456 - (n : Int)) = 268435456 - (n : Int) := by unfold wrap64; omega
  have q2 : (268435456 - (n : Int) < (m : Int)) := by omega
  clear h hf hn
  go_enter Try.func27, Try.ntmps27
  go_wp2
  go_ret2
  exact ⟨rfl, rfl⟩

set_option maxHeartbeats 8000000 in
set_option maxRecDepth 100000 in
theorem rtruncate_any (w : World) (P : Nat) (V L : Value) (s : Md) (n : Int) (h : Rmd w P V L s) (ok : s.b.length ≤ 268435456) :
    Calls Try.prog 33 #[.pointer (some ⟨P, 0, none⟩), .int .i64 n] w fun e w' => ∃ V', e = .returned (.int .i64 (trE s n)) ∧ Rmd w' P V' L (trS s n) ∧ Kept (P :: V.ownBlock.toList) w w' ∧ LiM w V V' := by
  obtain ⟨b, g, d, lf, kp⟩ := s
  simp only at ok
  obtain ⟨m, em⟩ : ∃ m, b.length = m := ⟨_, rfl⟩
  obtain ⟨bo, c, eV, n1, hmc⟩ := h.bounds
  simp only [em] at eV hmc
  subst eV
  have c0 := h.c0
  have f0 := h.fz 0
  have HM := Hid.mk h
  by_cases hn : n < 0 ∨ (m : Int) < n
  · have e1 : trE ⟨b, g, d, lf, kp⟩ n = 151 := by simp [trE, em, hn]
    have e2 : trS ⟨b, g, d, lf, kp⟩ n = ⟨b, g, d, lf, kp⟩ := by simp [trS, em, hn]
    rw [e1, e2]
    clear e1 e2 h
    by_cases h1 : n < 0
    · clear hn
      go_enter Try.func33, Try.ntmps33
      go_wp2
      go_ret
      first | exact ⟨_, rfl, HM.out, Kept.refl _ _, fun x hx => .inl hx⟩ | exact ⟨rfl, _, HM.out, Kept.refl _ _, fun x hx => .inl hx⟩
    · have h2 : (m : Int) < n := by omega
      clear hn
      go_enter Try.func33, Try.ntmps33
      go_wp2
      go_ret
      first | exact ⟨_, rfl, HM.out, Kept.refl _ _, fun x hx => .inl hx⟩ | exact ⟨rfl, _, HM.out, Kept.refl _ _, fun x hx => .inl hx⟩
  · have e1 : trE ⟨b, g, d, lf, kp⟩ n = 0 := by simp [trE, em, hn]
    have e2 : trS ⟨b, g, d, lf, kp⟩ n = ⟨b.take n.toNat, g, d, lf, kp⟩ := by simp [trS, em, hn]
    rw [e1, e2]
    clear e1 e2
    obtain ⟨q, rfl⟩ : ∃ q : Nat, n = (q : Int) := ⟨n.toNat, by omega⟩
    have hq : q ≤ m := by omega
    have q1 : decide ((q : Int) < 0) = false := by simp
    have q2 : ¬ (m : Int) < (q : Int) := by omega
    have q3 : ¬ m < q := by omega
    have hqc : (q : Int) ≤ (c : Int) := by omega
    simp only [Int.toNat_natCast]
    have SL := slice_h bo m c q (by omega)
    have hrow := h.row
    simp only [em] at hrow
    obtain ⟨bz, cz, u', hrun, ho, hk⟩ := app_none w 29 bo q c (b.take q) (reads_take' q (reads_row hrow)) (by simp; omega) (by omega) n1
    have hlen : (b.take q).length = q := by simp; omega
    obtain ⟨m3, k3⟩ := (h.keep hk).srow (V' := .slice bz q cz) (b.take q) (Kept.refl _ _) (by rw [hlen]; exact own_zero ho)
    have cu := (h.keep hk).c0
    have fu := (h.keep hk).fz 0
    have ca : (w.alloc (.cells #[] 5)).cell? ⟨P, 0, none⟩ = some (.slice bo m c) := (h.keep ((Kept.refl _ _).alloc _)).c0
    have M3 := Hid.mk (And.intro m3 (And.intro ((hk.mono (by simp)).step k3 (fun x hx => .inl hx) : Kept (P :: (Value.slice bo m c).ownBlock.toList) w _) (fun x hx => Or.inr (own_new ho x hx) : LiM w (Value.slice bo m c) (Value.slice bz q cz))))
    clear h m3 k3 hk hrow ho hn hq hmc hlen
    go_enter Try.func33, Try.ntmps33
    go_wp2_with (at_builtin; refine wpList_app_eq' rfl _ _ 29 rfl _ _ _ _ rfl rfl hrun ?_)
    go_ret
    exact ⟨rfl, .slice bz q cz, M3.out⟩

set_option maxHeartbeats 8000000 in
set_option maxRecDepth 100000 in
theorem rappend_dies (w : World) (P : Nat) (V L : Value) (s : Md) (so : Option Addr) (m sc : Nat) (l : List Nat) (h : Rmd w P V L s) (ok : Mok s) (hr : Reads w so l) (hm : l.length = m) (hms : m ≤ sc) (hc : so = none → sc = 0)
    (hd : s.dead = false) (hf : s.b.length + m ≤ 268435456) (hl : s.left = 1) :
    Calls Try.prog 27 #[.pointer (some ⟨P, 0, none⟩), .slice so m sc] w fun e w' => ∃ V', e = .returned (.tuple #[.int .i64 0, .int .i64 152]) ∧ Rmd w' P V' L ⟨s.b ++ l.take s.keep.toNat, s.g, true, 0, s.keep⟩ ∧ Kept (P :: V.ownBlock.toList) w w' ∧ Lies w V V' := by
  obtain ⟨b, g, d, lf, kp⟩ := s
  simp only at hd hf hl ⊢
  subst hd
  subst hl
  obtain ⟨-, -, -, -, p0, p1⟩ := ok
  simp only at p0 p1
  obtain ⟨n, en⟩ : ∃ n, b.length = n := ⟨_, rfl⟩
  rw [en] at hf
  have q1 : wrap64 (268435456 - (n : Int)) = 268435456 - (n : Int) := by unfold wrap64; omega
  have q2 : ¬ (268435456 - (n : Int) < (m : Int)) := by omega
  obtain ⟨bo, c, eV, n1, -⟩ := h.bounds
  simp only [en] at eV
  subst eV
  obtain ⟨k, rfl⟩ : ∃ k : Nat, kp = (k : Int) := ⟨kp.toNat, by omega⟩
  simp only [Int.toNat_natCast]
  obtain ⟨q, eq⟩ : ∃ q : Nat, q = min k m := ⟨_, rfl⟩
  have ltk : l.take k = l.take q := by
    by_cases h9 : k ≤ m
    · congr 1; omega
    · rw [List.take_of_length_le (by omega), List.take_of_length_le (by omega)]
  rw [ltk]
  have c0 := h.c0
  have c1 := h.c1
  have c2 := h.c2
  have c3 := h.c3
  have f0 := h.fz 0
  simp only at c1 c2 c3
  have SL := slice_h so m sc q (by omega)
  have iq : (q : Int) ≤ (sc : Int) := by omega
  have m2 := h.drew
  have hrow := m2.row
  simp only [en] at hrow
  obtain ⟨v', u', hrun, ho, hk, hL⟩ := app_at w.drew 29 _ _ _ hrow so q sc (l.take q) (reads_take' q (hr.keep ((Kept.refl _ _).drew))) (by simp; omega) (by omega) hc
  obtain ⟨bz, cz, ez, -, -, -, -⟩ := row_form2 ho
  subst ez
  have hlen : (b ++ l.take q).length = n + q := by simp; omega
  obtain ⟨m3, k3⟩ := m2.srow (V' := .slice bz (n + q) cz) (b ++ l.take q) hk (by rw [hlen, List.map_append]; exact ho)
  obtain ⟨m4, k4⟩ := m3.sdead true
  obtain ⟨m5, k5⟩ := m4.sleft 0
  have hb := hk.heap m2.box (own_ty m2.box (by decide) m2.row)
  have cu : u'.cell? ⟨P, 0, none⟩ = some (.slice bo n c) := by simp [World.cell?, hb]
  have fu : u'.frozen? ⟨P, 0, none⟩ = false := by simp [World.frozen?, hb]
  have cv1 := m3.c1
  have fv1 := m3.fz 1
  have cv2 := m4.c2
  have fv2 := m4.fz 2
  have M5 := Hid.mk (And.intro m5 (And.intro ((((k3.step k4 (fun x hx => by simp at hx; subst hx; simp)).step k5 (fun x hx => by simp at hx; subst hx; simp))).undrew) (hL.of_kept ((Kept.refl [] w).drew))))
  have HQ := Hid.mk eq
  clear h m2 m3 k3 m4 k4 m5 k5 hk hL hrow ho hb hr hf hlen ltk p0 p1 eq
  by_cases hkm : (m : Int) < (k : Int)
  · have hkm2 : m < k := by omega
    obtain rfl : m = q := by have := HQ.out; omega
    go_enter Try.func27, Try.ntmps27
    go_wp2_with (fail)
    go_region_law (refine step_app rfl _ _ 29 rfl _ _ _ _ rfl rfl hrun ?_)
    all_goals focus
      go_wp2
      go_ret2
      first | exact ⟨rfl, .slice bz (n + m) cz, M5.out⟩ | exact ⟨.slice bz (n + m) cz, rfl, M5.out⟩
  · have hkm2 : ¬ m < k := by omega
    obtain rfl : k = q := by have := HQ.out; omega
    go_enter Try.func27, Try.ntmps27
    go_wp2_with (fail)
    go_region_law (refine step_app rfl _ _ 29 rfl _ _ _ _ rfl rfl hrun ?_)
    all_goals focus
      go_wp2
      go_ret2
      first | exact ⟨rfl, .slice bz (n + k) cz, M5.out⟩ | exact ⟨.slice bz (n + k) cz, rfl, M5.out⟩
end Go.Proofs.Ytiojcfffhcipnaa
