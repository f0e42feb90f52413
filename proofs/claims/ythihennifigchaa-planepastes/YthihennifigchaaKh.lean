import Derived.Test.YthihennifigchaaKg
namespace Go.Proofs.Ythihennifigchaa.Bk
open Go.RowKit
theorem al_setCells {w : World} {ao : Option Addr} {N : Nat} {mk : Int} (h : Al .u16 w ao N mk) (g o : Nat) (hc : (w.cell? ⟨g, o, none⟩).isSome = true) : Al .u16 (w.setCells g o [.int .u16 mk]) ao N mk := by
  rcases h with h | ⟨G, off, e, hcs⟩
  · exact .inl h
  · refine .inr ⟨G, off, e, fun i hi => ?_⟩
    by_cases hin : G = g ∧ off + i = o
    · obtain ⟨rfl, rfl⟩ := hin
      have := World.cell?_setCells_in G [.int .u16 mk] (off + i) w (fun j hj => by
        have : j = 0 := by simp at hj; exact hj
        subst this
        exact hc) 0 (by simp)
      simpa using this
    · rw [World.cell?_setCells_out g [.int .u16 mk] o w ⟨G, off + i, none⟩ (fun h1 _ => by
        have h1' : G = g := h1
        show off + i < o ∨ o + 1 ≤ off + i
        have : off + i ≠ o := fun h2 => hin ⟨h1', h2⟩
        omega)]
      exact hcs i hi
/-- What reads as marks still does, behind an append of one more mark to a row of one's own. -/
theorem ex_al (u : World) (v : Value) (n : Nat) (mk : Int) (h : u.ownsRow 0 65 1 v n (List.replicate n (.int .u16 mk))) (hn : n ≤ 1000000000) {v' : Value} {ud : World}
    (hr : Sem.run Try.prog (Builtin.append_ #[52, 52] 52 #[v, .slice (some ⟨u.heap.size, 0, none⟩) 1 1]) (u.alloc (.cells #[.int .u16 mk] 65)) = .ok v' ud) (hk : Kept v.ownBlock.toList u ud) {ao1 : Option Addr} {N1 : Nat} (h1 : Al .u16 u ao1 N1 mk) : Al .u16 ud ao1 N1 mk := by
  obtain ⟨i0, hi, hz0, hz1, hz2⟩ := info_parts Try.info65
  have one : ∀ x ∈ [Value.int .u16 mk], x.oneCell' = true := fun x hx => by simp at hx; subst hx; rfl
  have ha : Al .u16 (u.alloc (.cells #[.int .u16 mk] 65)) ao1 N1 mk := al_keep h1 ((Kept.refl [] u).alloc _)
  rcases (h.alloc (.cells #[.int .u16 mk] 65)).2 with ⟨rfl, _⟩ | ⟨g, cap, cur, rfl, hb, hg, hc, hm, hs, ht⟩
  · exact al_keep h1 hk
  · by_cases hroom : n + 1 ≤ cap
    · have hcell : ((u.alloc (.cells #[.int .u16 mk] 65)).cell? ⟨g, n, none⟩).isSome = true := by
        have : n < cur.size := by rw [hs]; omega
        simp only [World.cell?, hg]
        simp [this]
      have hrun := run_append_room_cells (P := Try.prog) (u.alloc (.cells #[.int .u16 mk] 65)) 52 52 65 i0 Try.underlying52 hi g 0 n cap ⟨u.heap.size, 0, none⟩ 1 1 [.int .u16 mk] (by simp [hz1]) (cell_one_new _ _ _) one hroom (fun j hj => by
          have : j = 0 := by simp at hj; exact hj
          subst this
          rw [hz1]
          simpa using hcell) (fun j hj => by simp [World.frozen?, hg])
      rw [hr] at hrun
      cases hrun
      rw [hz1]
      have := al_setCells ha g (0 + n * 1) (by simpa using hcell)
      exact this
    · obtain ⟨v'', w'', hrun, r1, r2⟩ := run_append_arg_grows (P := Try.prog) (u.alloc (.cells #[.int .u16 mk] 65)) 52 52 65 i0 (.int .u16 0) 1 2 Try.underlying52 hi hz0 hz1 hz2 rfl (by decide) ⟨g, 0, none⟩ n cap (List.replicate n (.int .u16 mk)) (by simp) (fun j x hx => h.alloc _ |>.cells (g := g) rfl j x hx) ⟨u.heap.size, 0, none⟩ 1 1 [.int .u16 mk] rfl (cell_one_new _ _ _) (by omega) (by unfold maxLen; omega) (by omega)
      rw [hr] at hrun
      cases hrun
      exact al_keep ha ((Kept.of_grown r2).mono (by simp))

theorem Bo.seth_seth (s : Bo) (t : Nat) (v v' : Value) : (s.seth t v).seth t v' = s.seth t v' := by
  unfold Bo.seth
  simp only []
  congr 1
  funext x
  by_cases e : x = t <;> simp [e]
theorem Bo.seth_self (s : Bo) (t : Nat) (v : Value) (h : s.HV t = v) : s.seth t v = s := by
  have : (fun x => if x = t then v else s.HV x) = s.HV := by
    funext x
    by_cases e : x = t
    · rw [if_pos e, e, h]
    · rw [if_neg e]
  unfold Bo.seth
  rw [this]
/-- Behind t of the held lists of s1 (those from s.h on). -/
structure Gz (s s1 s2 : Bo) (t : Nat) : Prop where
  n : s2.n = s1.n
  r : s2.r = s1.r
  kn : s2.kn = s1.kn
  rl : s2.rl = s1.rl
  RV : s2.RV = s1.RV
  OV : s2.OV = s1.OV
  LV : s2.LV = s1.LV
  LX : s2.LX = s1.LX
  h : s2.h = s1.h + (t - s.h)
  HM : ∀ j, j < s1.h → s2.HM j = s1.HM j
  HV : ∀ j, t ≤ j → j < s1.h → s2.HV j = s1.HV j
  J : ∀ j, s2.J j ↔ j < t ∨ (s1.h ≤ j ∧ j < s2.h)
theorem Gz.start {s s1 : Bo} {i k : Nat} (hR : Rk s) (h : Fz s s1 i k) : Gz s s1 s1 s.h :=
  ⟨rfl, rfl, rfl, rfl, rfl, rfl, rfl, rfl, by omega, fun _ _ => rfl, fun _ _ _ => rfl, fun j => by rw [h.J, hR.J]; constructor; exact .inl; rintro (h | h); exact h; omega⟩
/-- The state behind one of these lists. -/
def Bo.two (s2 : Bo) (t : Nat) (v1 v2 : Value) (mk : Int) (Sn : Value) (bl : List Nat) : Bo := (((s2.seth t v1).hold v2 mk Sn).bury t bl).bury s2.h []
theorem Gz.step {s s1 s2 : Bo} {t : Nat} (h : Gz s s1 s2 t) (h1 : s.h ≤ t) (h2 : t < s1.h) (v1 v2 : Value) (mk : Int) (Sn : Value) (bl : List Nat) : Gz s s1 (s2.two t v1 v2 mk Sn bl) (t + 1) := by
  have e := h.h
  refine ⟨h.n, h.r, h.kn, h.rl, h.RV, h.OV, h.LV, h.LX, by show s2.h + 1 = _; omega, fun j hj => ?_, fun j q1 q2 => ?_, fun j => ?_⟩
  · show (if j = s2.h then mk else s2.HM j) = _
    rw [if_neg (by omega)]
    exact h.HM j hj
  · show (if j = s2.h then v2 else if j = t then v1 else s2.HV j) = _
    rw [if_neg (by omega), if_neg (by omega)]
    exact h.HV j (by omega) q2
  · show ((s2.J j ∨ j = t) ∨ j = s2.h) ↔ j < t + 1 ∨ (s1.h ≤ j ∧ j < s2.h + 1)
    rw [h.J]
    omega
section
variable {W w w' w7 wd : World} {A : Nat} {s s1 s2 : Bo}
theorem BAt.two {t : Nat} {v1 v2 Sn : Value} {mk : Int} {bl : List Nat} (hB : BAt W wd A (s2.seth t v1)) (ht : t < s2.h) (hJ : ∀ j, s2.J j → j < s2.h) (hm : s2.HM t = mk)
    (hk7 : Kept s2.SL.ownBlock.toList wd w7) (hl7 : Lies wd s2.SL Sn) (ho7 : w7.ownsRow 0 79 2 Sn (s2.h + 1) (hfl (s2.seth t v1).HV s2.HM s2.h ++ [v2, .int .u16 mk]))
    {ao1 ao2 : Option Addr} {n1 c1 n2 c2 : Nat} (e1 : v1 = .slice ao1 n1 c1) (e2 : v2 = .slice ao2 n2 c2) (b1 : n1 ≤ 1000000000) (b2 : n2 ≤ 1000000000) (a1 : Al .u16 wd ao1 n1 mk) (a2 : Al .u16 wd ao2 n2 mk)
    (o1 : ∀ a, ao1 = some a → a.block ∈ bl) (o2 : ∀ a, ao2 = some a → a.block ∈ bl)
    (hbl : ∀ x ∈ bl, W.heap.size ≤ x ∧ x < wd.heap.size ∧ ∀ j, s2.D j → x ∉ (s2.R A j).F) :
    BAt W (w7.setCell ⟨A, 0, none⟩ Sn) A (s2.two t v1 v2 mk Sn bl) := by
  have h1 := hB.hold hJ v2 mk Sn hk7 hl7 ho7
  have hkA : Kept (A :: s2.SL.ownBlock.toList) wd (w7.setCell ⟨A, 0, none⟩ Sn) := ((hk7.mono (fun x hx => .inl (List.mem_cons_of_mem _ hx)))).setCell (p := ⟨A, 0, none⟩) (.inl (by simp)) _
  have hfar : ∀ x ∈ bl, x ∉ A :: s2.SL.ownBlock.toList := fun x hx hm => by
    have h3 := (hbl x hx).2.2
    rcases List.mem_cons.1 hm with rfl | h
    · exact h3 (1, 0) s2.D1 (by simp [Bo.R, obj])
    · exact h3 (3, 0) s2.D3 h
  have al : ∀ {ao : Option Addr} {n : Nat}, Al .u16 wd ao n mk → (∀ a, ao = some a → a.block ∈ bl) → Al .u16 (w7.setCell ⟨A, 0, none⟩ Sn) ao n mk := by
    intro ao n ha ho
    rcases ha with h | ⟨G, off, e, hc⟩
    · exact .inl h
    · exact .inr ⟨G, off, e, fun i hi => cell_keep hkA (hc i hi) (hfar G (ho _ e))⟩
  have hF : ∀ x ∈ bl, ∀ j, ((s2.seth t v1).hold v2 mk Sn).D j → x ∉ (((s2.seth t v1).hold v2 mk Sn).R A j).F := fun x hx j hj hm => by
    have hj' : s2.D j := hj
    obtain ⟨_, hlt, h3⟩ := hbl x hx
    rcases s2.cases_D j hj' with ⟨i', rfl, _⟩ | rfl | rfl | rfl | rfl | ⟨i', k', rfl, _⟩
    · exact h3 _ hj' hm
    · exact h3 _ hj' hm
    · exact h3 _ hj' hm
    · rcases hl7.mem x hm with h | h
      · exact h3 _ hj' h
      · omega
    · exact h3 _ hj' hm
    · rw [((s2.seth t v1).hold v2 mk Sn).RL] at hm
      refine h3 _ hj' ?_
      rw [s2.RL]
      exact hm
  have hsz := hkA.size
  have h2 := h1.bury t bl (by
    refine ⟨ao1, n1, c1, ?_, b1, ?_, fun a e => .inl (List.mem_append.2 (.inl (o1 a e)))⟩
    · show (if t = s2.h then v2 else if t = t then v1 else s2.HV t) = _
      rw [if_neg (by omega), if_pos rfl, e1]
    · have e : ((s2.seth t v1).hold v2 mk Sn).HM t = mk := by
        show (if t = s2.h then mk else s2.HM t) = mk
        rw [if_neg (by omega), hm]
      rw [e]
      exact al a1 o1) (fun x hx => by have := (hbl x hx).2.1; omega) (fun x hx => (hbl x hx).1) hF
  exact h2.bury s2.h [] (by
    refine ⟨ao2, n2, c2, ?_, b2, ?_, fun a e => .inl (List.mem_append.2 (.inr (List.mem_append.2 (.inl (o2 a e)))))⟩
    · show (if s2.h = s2.h then v2 else _) = _
      rw [if_pos rfl, e2]
    · have e : (((s2.seth t v1).hold v2 mk Sn).bury t bl).HM s2.h = mk := by
        show (if s2.h = s2.h then mk else _) = mk
        rw [if_pos rfl]
      rw [e]
      exact al a2 o2) (fun x hx => by simp at hx) (fun x hx => by simp at hx) (fun x hx => by simp at hx)
/-- One more mark, and the held list is that. -/
theorem BAt.more {t : Nat} {v v' : Value} {mk : Int} {n : Nat} {bl : List Nat} (hB : BAt W wd A (s2.seth t v)) (ht : t < s2.h) (hJ : ¬ s2.J t) (hk : Kept bl wd w7) (ho : w7.ownsRow 0 65 1 v' n (List.replicate n (.int .u16 mk)))
    (hn : ∀ x ∈ v'.ownBlock.toList, x ∈ bl ∨ wd.heap.size ≤ x) (hbl : ∀ x ∈ bl, W.heap.size ≤ x ∧ x < wd.heap.size ∧ ∀ j, s2.D j → x ∉ (s2.R A j).F) (G cp : Nat) (hS : s2.SL = .slice (some ⟨G, 0, none⟩) s2.h cp) :
    BAt W (w7.setCell ⟨G, t * 2, none⟩ v') A (s2.seth t v') ∧ Ex (w7.setCell ⟨G, t * 2, none⟩ v') v' n mk v'.ownBlock.toList ∧ ∀ x ∈ v'.ownBlock.toList, W.heap.size ≤ x ∧ x < (w7.setCell ⟨G, t * 2, none⟩ v').heap.size ∧ ∀ j, s2.D j → x ∉ (s2.R A j).F := by
  have h1 := hB.aside hk (fun x hx => (hbl x hx).1) (fun x hx j hj => by rw [s2.seth_F A t v j hj]; exact (hbl x hx).2.2 j hj)
  have h2 := h1.seth t ht hJ v' G cp hS
  rw [s2.seth_seth] at h2
  have hold : W.heap.size ≤ wd.heap.size := hB.old.size
  have hx : ∀ x ∈ v'.ownBlock.toList, W.heap.size ≤ x ∧ x < (w7.setCell ⟨G, t * 2, none⟩ v').heap.size ∧ ∀ j, s2.D j → x ∉ (s2.R A j).F := fun x hx => by
    have hlt := (ho.lt x (mem_own.1 hx)).2
    have e : (w7.setCell ⟨G, t * 2, none⟩ v').heap.size = w7.heap.size := by simp
    rw [e]
    rcases hn x hx with h | h
    · exact ⟨(hbl x h).1, hlt, (hbl x h).2.2⟩
    · exact ⟨by omega, hlt, fun j hj hm => by
        have := hB.lt j hj x (by rw [s2.seth_F A t v j hj]; exact hm)
        omega⟩
  refine ⟨h2, .inr ⟨rfl, ?_⟩, hx⟩
  exact ((Kept.refl [G] w7).setCell (p := ⟨G, t * 2, none⟩) (.inl (by simp)) v').row ho (fun g hg hm => by
    have : g = G := by simpa using hm
    subst this
    exact (hx g (mem_own.2 hg)).2.2 (3, 0) s2.D3 (by show g ∈ s2.SL.ownBlock.toList; rw [hS]; simp [Value.ownBlock]))
end
end Go.Proofs.Ythihennifigchaa.Bk
