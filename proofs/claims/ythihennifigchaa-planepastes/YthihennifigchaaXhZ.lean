import Derived.Test.YthihennifigchaaXg
import Derived.Deep.RegionHeldLaw
namespace Go.Proofs.Ythihennifigchaa.Bx
open Go.RowKit Bk
theorem al_setCells {w : World} {ao : Option Addr} {N : Nat} {mk : Int} (h : Al .u16 w ao N mk) (g o : Nat) (hc : (w.cell? ⟨g, o, none⟩).isSome = true) : Al .u16 (w.setCells g o [.int .u16 mk]) ao N mk := by
  rcases h with h | ⟨G, off, e, hcs⟩
  · exact .inl h
  · refine .inr ⟨G, off, e, fun i hi => ?_⟩
    by_cases hin : G = g ∧ off + i = o
    · obtain ⟨rfl, rfl⟩ := hin
      have := World.cell?_setCells_in G [.int .u16 mk] (off + i) w (fun j hj => by
        have : j = 0 := by simp at hj; exact hj
        subst this
        exact hc) 0 (by simp)
      simpa using this
    · rw [World.cell?_setCells_out g [.int .u16 mk] o w ⟨G, off + i, none⟩ (fun h1 _ => by
        have h1' : G = g := h1
        show off + i < o ∨ o + 1 ≤ off + i
        have : off + i ≠ o := fun h2 => hin ⟨h1', h2⟩
        omega)]
      exact hcs i hi
/-- What reads as marks still does, behind an append of one more mark to a row of one's own. -/
theorem ex_al (u : World) (v : Value) (n : Nat) (mk : Int) (h : u.ownsRow 0 65 1 v n (List.replicate n (.int .u16 mk))) (hn : n ≤ 1000000000) {v' : Value} {ud : World}
    (hr : Sem.run Try.prog (Builtin.append_ #[52, 52] 52 #[v, .slice (some ⟨u.heap.size, 0, none⟩) 1 1]) (u.alloc (.cells #[.int .u16 mk] 65)) = .ok v' ud) (hk : Kept v.ownBlock.toList u ud) {ao1 : Option Addr} {N1 : Nat} (h1 : Al .u16 u ao1 N1 mk) : Al .u16 ud ao1 N1 mk := by
  obtain ⟨i0, hi, hz0, hz1, hz2⟩ := info_parts Try.info65
  have one : ∀ x ∈ [Value.int .u16 mk], x.oneCell' = true := fun x hx => by simp at hx; subst hx; rfl
  have ha : Al .u16 (u.alloc (.cells #[.int .u16 mk] 65)) ao1 N1 mk := al_keep h1 ((Kept.refl [] u).alloc _)
  rcases (h.alloc (.cells #[.int .u16 mk] 65)).2 with ⟨rfl, _⟩ | ⟨g, cap, cur, rfl, hb, hg, hc, hm, hs, ht⟩
  · exact al_keep h1 hk
  · by_cases hroom : n + 1 ≤ cap
    · have hcell : ((u.alloc (.cells #[.int .u16 mk] 65)).cell? ⟨g, n, none⟩).isSome = true := by
        have : n < cur.size := by rw [hs]; omega
        simp only [World.cell?, hg]
        simp [this]
      have hrun := run_append_room_cells (P := Try.prog) (u.alloc (.cells #[.int .u16 mk] 65)) 52 52 65 i0 Try.underlying52 hi g 0 n cap ⟨u.heap.size, 0, none⟩ 1 1 [.int .u16 mk] (by simp [hz1]) (cell_one_new _ _ _) one hroom (fun j hj => by
          have : j = 0 := by simp at hj; exact hj
          subst this
          rw [hz1]
          simpa using hcell) (fun j hj => by simp [World.frozen?, hg])
      rw [hr] at hrun
      cases hrun
      rw [hz1]
      have := al_setCells ha g (0 + n * 1) (by simpa using hcell)
      exact this
    · obtain ⟨v'', w'', hrun, r1, r2⟩ := run_append_arg_grows (P := Try.prog) (u.alloc (.cells #[.int .u16 mk] 65)) 52 52 65 i0 (.int .u16 0) 1 2 Try.underlying52 hi hz0 hz1 hz2 rfl (by decide) ⟨g, 0, none⟩ n cap (List.replicate n (.int .u16 mk)) (by simp) (fun j x hx => h.alloc _ |>.cells (g := g) rfl j x hx) ⟨u.heap.size, 0, none⟩ 1 1 [.int .u16 mk] rfl (cell_one_new _ _ _) (by omega) (by unfold maxLen; omega) (by omega)
      rw [hr] at hrun
      cases hrun
      exact al_keep ha ((Kept.of_grown r2).mono (by simp))

theorem Bo.seth_seth (s : Bo) (t : Nat) (v v' : Value) : (s.seth t v).seth t v' = s.seth t v' := by
  unfold Bo.seth
  simp only []
  congr 1
  funext x
  by_cases e : x = t <;> simp [e]
theorem Bo.seth_self (s : Bo) (t : Nat) (v : Value) (h : s.HV t = v) : s.seth t v = s := by
  have : (fun x => if x = t then v else s.HV x) = s.HV := by
    funext x
    by_cases e : x = t
    · rw [if_pos e, e, h]
    · rw [if_neg e]
  unfold Bo.seth
  rw [this]
/-- Behind t of the held lists of s1 (those from s.h on). -/
structure Gz (s s1 s2 : Bo) (t : Nat) : Prop where
  E : s2.E = s1.E
  n : s2.n = s1.n
  r : s2.r = s1.r
  kn : s2.kn = s1.kn
  rl : s2.rl = s1.rl
  RV : s2.RV = s1.RV
  OV : s2.OV = s1.OV
  LV : s2.LV = s1.LV
  LX : s2.LX = s1.LX
  h : s2.h = s1.h + (t - s.h)
  HM : ∀ j, j < s1.h → s2.HM j = s1.HM j
  HV : ∀ j, t ≤ j → j < s1.h → s2.HV j = s1.HV j
  J : ∀ j, s2.J j ↔ j < t ∨ (s1.h ≤ j ∧ j < s2.h)
theorem Gz.start {s s1 : Bo} {i k : Nat} (hR : Rk s) (h : Fz s s1 i k) : Gz s s1 s1 s.h :=
  ⟨rfl, rfl, rfl, rfl, rfl, rfl, rfl, rfl, rfl, by omega, fun _ _ => rfl, fun _ _ _ => rfl, fun j => by rw [h.J, hR.J]; constructor; exact .inl; rintro (h | h); exact h; omega⟩
/-- The state behind one of these lists. -/
def Bo.two (s2 : Bo) (t : Nat) (v1 v2 : Value) (mk : Int) (Sn : Value) (bl : List Nat) : Bo := (((s2.seth t v1).hold v2 mk Sn).bury t bl).bury s2.h []
theorem Gz.step {s s1 s2 : Bo} {t : Nat} (h : Gz s s1 s2 t) (h1 : s.h ≤ t) (h2 : t < s1.h) (v1 v2 : Value) (mk : Int) (Sn : Value) (bl : List Nat) : Gz s s1 (s2.two t v1 v2 mk Sn bl) (t + 1) := by
  have e := h.h
  refine ⟨h.E, h.n, h.r, h.kn, h.rl, h.RV, h.OV, h.LV, h.LX, by show s2.h + 1 = _; omega, fun j hj => ?_, fun j q1 q2 => ?_, fun j => ?_⟩
  · show (if j = s2.h then mk else s2.HM j) = _
    rw [if_neg (by omega)]
    exact h.HM j hj
  · show (if j = s2.h then v2 else if j = t then v1 else s2.HV j) = _
    rw [if_neg (by omega), if_neg (by omega)]
    exact h.HV j (by omega) q2
  · show ((s2.J j ∨ j = t) ∨ j = s2.h) ↔ j < t + 1 ∨ (s1.h ≤ j ∧ j < s2.h + 1)
    rw [h.J]
    omega
section
variable {W w w' w7 wd : World} {A : Nat} {s s1 s2 : Bo}
theorem BAt.two {t : Nat} {v1 v2 Sn : Value} {mk : Int} {bl : List Nat} (hB : BAt W wd A (s2.seth t v1)) (ht : t < s2.h) (hJ : ∀ j, s2.J j → j < s2.h) (hm : s2.HM t = mk)
    (hk7 : Kept s2.SL.ownBlock.toList wd w7) (hl7 : Lies wd s2.SL Sn) (ho7 : w7.ownsRow 0 79 2 Sn (s2.h + 1) (hfl (s2.seth t v1).HV s2.HM s2.h ++ [v2, .int .u16 mk]))
    {ao1 ao2 : Option Addr} {n1 c1 n2 c2 : Nat} (e1 : v1 = .slice ao1 n1 c1) (e2 : v2 = .slice ao2 n2 c2) (b1 : n1 ≤ 1000000000) (b2 : n2 ≤ 1000000000) (a1 : Al .u16 wd ao1 n1 mk) (a2 : Al .u16 wd ao2 n2 mk)
    (o1 : ∀ a, ao1 = some a → a.block ∈ bl) (o2 : ∀ a, ao2 = some a → a.block ∈ bl)
    (hbl : ∀ x ∈ bl, W.heap.size ≤ x ∧ x < wd.heap.size ∧ ∀ j, s2.D j → x ∉ (s2.R A j).F) :
    BAt W (w7.setCell ⟨A, 0, none⟩ Sn) A (s2.two t v1 v2 mk Sn bl) := by
  have h1 := hB.hold hJ v2 mk Sn hk7 hl7 ho7
  have hkA : Kept (A :: s2.SL.ownBlock.toList) wd (w7.setCell ⟨A, 0, none⟩ Sn) := ((hk7.mono (fun x hx => .inl (List.mem_cons_of_mem _ hx)))).setCell (p := ⟨A, 0, none⟩) (.inl (by simp)) _
  have hfar : ∀ x ∈ bl, x ∉ A :: s2.SL.ownBlock.toList := fun x hx hm => by
    have h3 := (hbl x hx).2.2
    rcases List.mem_cons.1 hm with rfl | h
    · exact h3 (1, 0) s2.D1 (by simp [Bo.R, obj])
    · exact h3 (3, 0) s2.D3 h
  have al : ∀ {ao : Option Addr} {n : Nat}, Al .u16 wd ao n mk → (∀ a, ao = some a → a.block ∈ bl) → Al .u16 (w7.setCell ⟨A, 0, none⟩ Sn) ao n mk := by
    intro ao n ha ho
    rcases ha with h | ⟨G, off, e, hc⟩
    · exact .inl h
    · exact .inr ⟨G, off, e, fun i hi => cell_keep hkA (hc i hi) (hfar G (ho _ e))⟩
  have hF : ∀ x ∈ bl, ∀ j, ((s2.seth t v1).hold v2 mk Sn).D j → x ∉ (((s2.seth t v1).hold v2 mk Sn).R A j).F := fun x hx j hj hm => by
    have hj' : s2.D j := hj
    obtain ⟨_, hlt, h3⟩ := hbl x hx
    rcases s2.cases_D j hj' with ⟨i', rfl, _⟩ | rfl | rfl | rfl | rfl | ⟨i', k', rfl, _⟩
    · exact h3 _ hj' hm
    · exact h3 _ hj' hm
    · exact h3 _ hj' hm
    · rcases hl7.mem x hm with h | h
      · exact h3 _ hj' h
      · omega
    · exact h3 _ hj' hm
    · rw [((s2.seth t v1).hold v2 mk Sn).RL] at hm
      refine h3 _ hj' ?_
      rw [s2.RL]
      exact hm
  have hsz := hkA.size
  have h2 := h1.bury t bl (by
    refine ⟨ao1, n1, c1, ?_, b1, ?_, fun a e => .inl (List.mem_append.2 (.inl (o1 a e)))⟩
    · show (if t = s2.h then v2 else if t = t then v1 else s2.HV t) = _
      rw [if_neg (by omega), if_pos rfl, e1]
    · have e : ((s2.seth t v1).hold v2 mk Sn).HM t = mk := by
        show (if t = s2.h then mk else s2.HM t) = mk
        rw [if_neg (by omega), hm]
      rw [e]
      exact al a1 o1) (fun x hx => by have := (hbl x hx).2.1; omega) (fun x hx => (hbl x hx).1) hF
  exact h2.bury s2.h [] (by
    refine ⟨ao2, n2, c2, ?_, b2, ?_, fun a e => .inl (List.mem_append.2 (.inr (List.mem_append.2 (.inl (o2 a e)))))⟩
    · show (if s2.h = s2.h then v2 else _) = _
      rw [if_pos rfl, e2]
    · have e : (((s2.seth t v1).hold v2 mk Sn).bury t bl).HM s2.h = mk := by
        show (if s2.h = s2.h then mk else _) = mk
        rw [if_pos rfl]
      rw [e]
      exact al a2 o2) (fun x hx => by simp at hx) (fun x hx => by simp at hx) (fun x hx => by simp at hx)
/-- One more mark, and the held list is that. -/
theorem BAt.more {t : Nat} {v v' : Value} {mk : Int} {n : Nat} {bl : List Nat} (hB : BAt W wd A (s2.seth t v)) (ht : t < s2.h) (hJ : ¬ s2.J t) (hk : Kept bl wd w7) (ho : w7.ownsRow 0 65 1 v' n (List.replicate n (.int .u16 mk)))
    (hn : ∀ x ∈ v'.ownBlock.toList, x ∈ bl ∨ wd.heap.size ≤ x) (hbl : ∀ x ∈ bl, W.heap.size ≤ x ∧ x < wd.heap.size ∧ ∀ j, s2.D j → x ∉ (s2.R A j).F) (G cp : Nat) (hS : s2.SL = .slice (some ⟨G, 0, none⟩) s2.h cp) :
    BAt W (w7.setCell ⟨G, t * 2, none⟩ v') A (s2.seth t v') ∧ Ex (w7.setCell ⟨G, t * 2, none⟩ v') v' n mk v'.ownBlock.toList ∧ ∀ x ∈ v'.ownBlock.toList, W.heap.size ≤ x ∧ x < (w7.setCell ⟨G, t * 2, none⟩ v').heap.size ∧ ∀ j, s2.D j → x ∉ (s2.R A j).F := by
  have h1 := hB.aside hk (fun x hx => (hbl x hx).1) (fun x hx j hj => by rw [s2.seth_F A t v j hj]; exact (hbl x hx).2.2 j hj)
  have h2 := h1.seth t ht hJ v' G cp hS
  rw [s2.seth_seth] at h2
  have hold : W.heap.size ≤ wd.heap.size := hB.old.size
  have hx : ∀ x ∈ v'.ownBlock.toList, W.heap.size ≤ x ∧ x < (w7.setCell ⟨G, t * 2, none⟩ v').heap.size ∧ ∀ j, s2.D j → x ∉ (s2.R A j).F := fun x hx => by
    have hlt := (ho.lt x (mem_own.1 hx)).2
    have e : (w7.setCell ⟨G, t * 2, none⟩ v').heap.size = w7.heap.size := by simp
    rw [e]
    rcases hn x hx with h | h
    · exact ⟨(hbl x h).1, hlt, (hbl x h).2.2⟩
    · exact ⟨by omega, hlt, fun j hj hm => by
        have := hB.lt j hj x (by rw [s2.seth_F A t v j hj]; exact hm)
        omega⟩
  refine ⟨h2, .inr ⟨rfl, ?_⟩, hx⟩
  exact ((Kept.refl [G] w7).setCell (p := ⟨G, t * 2, none⟩) (.inl (by simp)) v').row ho (fun g hg hm => by
    have : g = G := by simpa using hm
    subst this
    exact (hx g (mem_own.2 hg)).2.2 (3, 0) s2.D3 (by show g ∈ s2.SL.ownBlock.toList; rw [hS]; simp [Value.ownBlock]))
end
end Go.Proofs.Ythihennifigchaa.Bx

namespace Go.Proofs.Ythihennifigchaa.Bx
open Go.RowKit Bk

/-- A list of one nine. -/
def Nin (s : Bo) (t x : Nat) : Prop := ∃ b, s.LV t x = .slice (some ⟨b, 0, none⟩) 1 1 ∧ s.LX t x = zlf .u16 65 (some ⟨b, 0, none⟩) 1 (fun _ => 9)
/-- Behind the first answers (i of them, and k lists of answer i) of the last phase. -/
structure Pz (s s3 : Bo) (i k : Nat) : Prop where
  E : s3.E = s.E
  n : s3.n = s.n
  h : s3.h = s.h
  J : s3.J = s.J
  kn : ∀ t, s3.kn t = if t < i then s.kn t + 2 else s.kn t
  r : s3.r = s.n
  rl : ∀ t, t < s.n → s3.rl t = s3.kn t
  ov : ∀ t, t < s.n → s3.OV t = s3.RV t
  ls : ∀ t x, t < s.n → x < s3.kn t → t < i ∨ (t = i ∧ x < k) → Nin s3 t x
theorem zlf_new (w : World) : (zlf .u16 65 (some ⟨w.heap.size, 0, none⟩) 1 (fun _ => 9)).P (w.alloc (.cells #[.int .u16 9] 65)) := .inr ⟨_, rfl, by rw [heap_alloc_new]; rfl⟩
section
variable {W w : World} {A : Nat} {s s3 : Bo} {i k : Nat}
/-- One list becomes a nine. -/
theorem BAt.nine (h : BAt W w A s3) (hi : i < s3.n) (hk : k < s3.kn i) (hr : k < s3.rl i) (G cp : Nat) (hS : s3.RV i = .slice (some ⟨G, 0, none⟩) (s3.rl i) cp) :
    BAt W ((w.alloc (.cells #[.int .u16 9] 65)).setCell ⟨G, k, none⟩ (.slice (some ⟨w.heap.size, 0, none⟩) 1 1)) A ((s3.one i k (zlf .u16 65 (some ⟨w.heap.size, 0, none⟩) 1 (fun _ => 9))).setl i k (.slice (some ⟨w.heap.size, 0, none⟩) 1 1)) := by
  have h1 := h.one (ks := []) i k hi hk (zlf .u16 65 (some ⟨w.heap.size, 0, none⟩) 1 (fun _ => 9)) ((Kept.refl [] w).alloc (.cells #[.int .u16 9] 65)) (by simp) (zlf_new w) (fun x hx => .inr (by simp [zlf, ablk] at hx; omega))
  exact h1.setl i k hi hr _ G cp hS
theorem Pz.nine (h : Pz s s3 i k) (b : Nat) : Pz s ((s3.one i k (zlf .u16 65 (some ⟨b, 0, none⟩) 1 (fun _ => 9))).setl i k (.slice (some ⟨b, 0, none⟩) 1 1)) i (k + 1) := by
  refine ⟨h.E, h.n, h.h, h.J, h.kn, h.r, h.rl, h.ov, fun t x ht hx hor => ?_⟩
  by_cases e : t = i ∧ x = k
  · obtain ⟨rfl, rfl⟩ := e
    exact ⟨b, upd2_at _ _ _ _, upd2_at _ _ _ _⟩
  · obtain ⟨b', e1, e2⟩ := h.ls t x ht hx (by omega)
    exact ⟨b', (upd2_far _ _ _ _ _ _ e).trans e1, (upd2_far _ _ _ _ _ _ e).trans e2⟩
/-- Two nines more stand behind answer i, as equations. -/
theorem two_app (w : World) (v : Value) (n : Nat) (xs : List Value) (ho : w.ownsRow 0 52 1 v n xs) (y1 y2 : Value) (h1 : y1.oneCell' = true) (h2 : y2.oneCell' = true) (hn : n ≤ 1000000) :
    ∃ bo c w', Sem.run Try.prog (Builtin.append_ #[36, 36] 36 #[v, .slice (some ⟨w.heap.size, 0, none⟩) 2 2]) (w.alloc (.cells #[y1, y2] 52)) = .ok (.slice bo (n + 2) c) w' ∧ w'.ownsRow 0 52 1 (.slice bo (n + 2) c) (n + 2) (xs ++ [y1, y2]) ∧ Kept v.ownBlock.toList w w' ∧ Lies w v (.slice bo (n + 2) c) := by
  obtain ⟨i0, hi, hz0, hz1, hz2⟩ := info_parts Try.info52
  have k0 : Kept [] w (w.alloc (.cells #[y1, y2] 52)) := (Kept.refl [] w).alloc _
  obtain ⟨v', u', hrun, h2, h3, _, h5⟩ := run_append_own_at (P := Try.prog) (w.alloc (.cells #[y1, y2] 52)) 0 36 36 52 i0 (.slice none 0 0) 1 24 Try.underlying36 hi hz0 hz1 hz2 rfl (by decide) v n xs (k0.row ho (by simp)) ⟨w.heap.size, 0, none⟩ 2 2 [y1, y2] rfl (fun j u hj => by
    have hb : (w.alloc (.cells #[y1, y2] 52)).heap[w.heap.size]? = some (.cells #[y1, y2] 52) := heap_alloc_new _ _
    have ha : (⟨w.heap.size, 0, none⟩ : Addr).add j = ⟨w.heap.size, 0 + j, none⟩ := by unfold Addr.add; split <;> simp_all
    match j, hj with
    | 0, hj => simp at hj; subst hj; rw [ha]; unfold World.cell?; rw [hb]; rfl
    | 1, hj => simp at hj; subst hj; rw [ha]; unfold World.cell?; rw [hb]; rfl
    | j + 2, hj => simp at hj) (fun u hu => by simp at hu; rcases hu with rfl | rfl <;> assumption) (by unfold maxLen; omega) (by omega) (Nat.zero_le _)
  obtain ⟨bo, c, ev⟩ := row_form h2
  subst ev
  refine ⟨bo, c, u', hrun, h2, (k0.mono (by simp)).trans (Kept.of_grown h3), ?_⟩
  rcases h5 with h | h
  · exact .inl h
  · exact .inr ⟨_, h, by rw [World.size_alloc]; omega⟩
theorem vals_snoc2 (V : Nat → Value) (n : Nat) (a b : Value) : vals V n ++ [a, b] = vals (fun t => if t = n + 1 then b else if t = n then a else V t) (n + 2) := by
  rw [show ([a, b] : List Value) = [a] ++ [b] from rfl, ← List.append_assoc, snoc_vals, snoc_vals]
/-- Answer i is done with. -/
theorem BAt.nines (h : BAt W w A s3) (hP : Pz s s3 i (s.kn i)) (hi : i < s.n) (hkn : s.kn i ≤ 1000) (gO cpO : Nat) (hSO : s3.SO = .slice (some ⟨gO, 0, none⟩) s3.r cpO) (hr : i < s3.r) :
    ∃ wa wb wc bo c w7, w.alloc (.cells #[.int .u16 9] 65) = wa ∧ wa.alloc (.cells #[.int .u16 9] 65) = wb ∧ wb.alloc (.cells #[.slice (some ⟨w.heap.size, 0, none⟩) 1 1, .slice (some ⟨wa.heap.size, 0, none⟩) 1 1] 52) = wc ∧
      Sem.run Try.prog (Builtin.append_ #[36, 36] 36 #[s3.RV i, .slice (some ⟨wb.heap.size, 0, none⟩) 2 2]) wc = .ok (.slice bo (s.kn i + 2) c) w7 ∧
      w7.cell? ⟨A, 2, none⟩ = some s3.SO ∧ (∃ u, w7.cell? ⟨gO, i, none⟩ = some u) ∧ w7.frozen? ⟨gO, i, none⟩ = false ∧
      ∃ s4, BAt W (w7.setCell ⟨gO, i, none⟩ (.slice bo (s.kn i + 2) c)) A s4 ∧ Pz s s4 (i + 1) 0 := by
  have hi3 : i < s3.n := by rw [hP.n]; exact hi
  have ek : s3.kn i = s.kn i := by rw [hP.kn, if_neg (Nat.lt_irrefl _)]
  have er : s3.rl i = s.kn i := by rw [hP.rl i hi, ek]
  obtain ⟨wa, ea⟩ : ∃ wa, w.alloc (.cells #[.int .u16 9] 65) = wa := ⟨_, rfl⟩
  obtain ⟨wb, eb⟩ : ∃ wb, wa.alloc (.cells #[.int .u16 9] 65) = wb := ⟨_, rfl⟩
  have p1 := h.pushl i hi3 (zlf .u16 65 (some ⟨w.heap.size, 0, none⟩) 1 (fun _ => 9)) (w' := wa) (by rw [← ea]; exact (Kept.refl [] w).alloc _) (by rw [← ea]; exact zlf_new w) (fun x hx => by simp [zlf, ablk] at hx; omega)
  have p2 := p1.pushl i hi3 (zlf .u16 65 (some ⟨wa.heap.size, 0, none⟩) 1 (fun _ => 9)) (w' := wb) (by rw [← eb]; exact (Kept.refl [] wa).alloc _) (by rw [← eb]; exact zlf_new wa) (fun x hx => by simp [zlf, ablk] at hx; omega)
  have hrow := p2.row i hi3
  have hrow : wb.ownsRow 0 52 1 (s3.RV i) (s3.rl i) (vals (s3.LV i) (s3.rl i)) := hrow
  obtain ⟨bo, c, w7, hrun, o7, k7, l7⟩ := two_app wb (s3.RV i) (s3.rl i) _ hrow (.slice (some ⟨w.heap.size, 0, none⟩) 1 1) (.slice (some ⟨wa.heap.size, 0, none⟩) 1 1) rfl rfl (by omega)
  rw [vals_snoc2] at o7
  have p3 := p2.appr i hi3 (.slice bo (s3.rl i + 2) c) (s3.rl i + 2) _ k7 l7 o7
  have p4 := p3.seto i hr (.slice bo (s3.rl i + 2) c) gO cpO hSO
  obtain ⟨⟨-, -, c2⟩, -⟩ := p3.cells
  have hout := p3.out
  have hout : w7.ownsRow 0 36 1 s3.SO s3.r (vals s3.OV s3.r) := hout
  obtain ⟨g', cp', e', y0, y1⟩ := own_cell hout i hr
  obtain ⟨rfl, rfl⟩ : gO = g' ∧ cpO = cp' := by have := hSO.symm.trans e'; simp at this; exact ⟨this.1, this.2⟩
  rw [er] at hrun
  refine ⟨wa, wb, _, bo, c, w7, ea, eb, rfl, hrun, c2, ⟨_, y0⟩, y1, _, by rw [er] at p4; exact p4, ?_⟩
  have kn2 : ∀ t, ((s3.pushl i (zlf .u16 65 (some ⟨w.heap.size, 0, none⟩) 1 (fun _ => 9))).pushl i (zlf .u16 65 (some ⟨wa.heap.size, 0, none⟩) 1 (fun _ => 9))).kn t = if t = i then s.kn i + 2 else s3.kn t := fun t => by
    by_cases e : t = i
    · subst e
      simp [Bo.pushl, ek]
    · simp [Bo.pushl, e]
  refine ⟨hP.E, hP.n, hP.h, hP.J, fun t => ?_, hP.r, fun t ht => ?_, fun t ht => ?_, fun t x ht hx hor => ?_⟩
  · refine Eq.trans (kn2 t) ?_
    by_cases e : t = i
    · rw [if_pos e, if_pos (by omega), e]
    · rw [if_neg e, hP.kn]
      by_cases e2 : t < i
      · rw [if_pos e2, if_pos (by omega)]
      · rw [if_neg e2, if_neg (by omega)]
  · refine Eq.trans ?_ (kn2 t).symm
    show (if t = i then s.kn i + 2 else s3.rl t) = _
    by_cases e : t = i
    · rw [if_pos e, if_pos e]
    · rw [if_neg e, if_neg e]; exact hP.rl t ht
  · show (if t = i then _ else s3.OV t) = (if t = i then _ else s3.RV t)
    by_cases e : t = i
    · rw [if_pos e, if_pos e]
    · rw [if_neg e, if_neg e]; exact hP.ov t ht
  · have hx : x < ((s3.pushl i (zlf .u16 65 (some ⟨w.heap.size, 0, none⟩) 1 (fun _ => 9))).pushl i (zlf .u16 65 (some ⟨wa.heap.size, 0, none⟩) 1 (fun _ => 9))).kn t := hx
    rw [kn2 t] at hx
    by_cases e : t = i
    · subst e
      rw [if_pos rfl] at hx
      by_cases e1 : x = s.kn t + 1
      · refine ⟨wa.heap.size, ?_, ?_⟩
        · show (if t = t then (fun u => if u = s.kn t + 1 then _ else _) else s3.LV t) x = _
          rw [if_pos rfl]; show (if x = s.kn t + 1 then _ else _) = _; rw [if_pos e1]
        · show upd2 (upd2 s3.LX t (s3.kn t) (zlf .u16 65 (some ⟨w.heap.size, 0, none⟩) 1 (fun _ => 9))) t ((s3.pushl t (zlf .u16 65 (some ⟨w.heap.size, 0, none⟩) 1 (fun _ => 9))).kn t) (zlf .u16 65 (some ⟨wa.heap.size, 0, none⟩) 1 (fun _ => 9)) t x = _
          have : (s3.pushl t (zlf .u16 65 (some ⟨w.heap.size, 0, none⟩) 1 (fun _ => 9))).kn t = x := by simp [Bo.pushl, ek, e1]
          rw [this, upd2_at]
      · by_cases e0 : x = s.kn t
        · refine ⟨w.heap.size, ?_, ?_⟩
          · show (if t = t then (fun u => if u = s.kn t + 1 then _ else if u = s.kn t then _ else _) else s3.LV t) x = _
            rw [if_pos rfl]; show (if x = s.kn t + 1 then _ else if x = s.kn t then _ else _) = _; rw [if_neg e1, if_pos e0]
          · show upd2 (upd2 s3.LX t (s3.kn t) (zlf .u16 65 (some ⟨w.heap.size, 0, none⟩) 1 (fun _ => 9))) t ((s3.pushl t (zlf .u16 65 (some ⟨w.heap.size, 0, none⟩) 1 (fun _ => 9))).kn t) (zlf .u16 65 (some ⟨wa.heap.size, 0, none⟩) 1 (fun _ => 9)) t x = _
            have : (s3.pushl t (zlf .u16 65 (some ⟨w.heap.size, 0, none⟩) 1 (fun _ => 9))).kn t = s.kn t + 1 := by simp [Bo.pushl, ek]
            rw [this, upd2_far _ _ _ _ _ _ (by omega), ek, e0, upd2_at]
        · obtain ⟨b', q1, q2⟩ := hP.ls t x ht (by rw [ek]; omega) (by omega)
          refine ⟨b', ?_, ?_⟩
          · show (if t = t then (fun u => if u = s.kn t + 1 then _ else if u = s.kn t then _ else s3.LV t u) else s3.LV t) x = _
            rw [if_pos rfl]; show (if x = s.kn t + 1 then _ else if x = s.kn t then _ else s3.LV t x) = _; rw [if_neg e1, if_neg e0]; exact q1
          · show upd2 (upd2 s3.LX t (s3.kn t) (zlf .u16 65 (some ⟨w.heap.size, 0, none⟩) 1 (fun _ => 9))) t ((s3.pushl t (zlf .u16 65 (some ⟨w.heap.size, 0, none⟩) 1 (fun _ => 9))).kn t) (zlf .u16 65 (some ⟨wa.heap.size, 0, none⟩) 1 (fun _ => 9)) t x = _
            have : (s3.pushl t (zlf .u16 65 (some ⟨w.heap.size, 0, none⟩) 1 (fun _ => 9))).kn t = s.kn t + 1 := by simp [Bo.pushl, ek]
            rw [this, upd2_far _ _ _ _ _ _ (by omega), ek, upd2_far _ _ _ _ _ _ (by omega)]; exact q2
    · rw [if_neg e] at hx
      obtain ⟨b', q1, q2⟩ := hP.ls t x ht hx (by omega)
      refine ⟨b', ?_, ?_⟩
      · show (if t = i then _ else s3.LV t) x = _
        rw [if_neg e]; exact q1
      · show upd2 (upd2 s3.LX i (s3.kn i) (zlf .u16 65 (some ⟨w.heap.size, 0, none⟩) 1 (fun _ => 9))) i ((s3.pushl i (zlf .u16 65 (some ⟨w.heap.size, 0, none⟩) 1 (fun _ => 9))).kn i) (zlf .u16 65 (some ⟨wa.heap.size, 0, none⟩) 1 (fun _ => 9)) t x = _
        rw [upd2_far _ _ _ _ _ _ (by omega), upd2_far _ _ _ _ _ _ (by omega)]; exact q2
end
theorem Pz.start {s s1 s2 : Bo} {i k t : Nat} (hR : Rk s) (hF : Fz s s1 i k) (hG : Gz s s1 s2 t) : Pz s2 s2 0 0 := by
  have en : s2.n = s.n := hG.n.trans hF.n
  refine ⟨rfl, rfl, rfl, rfl, fun t => by rw [if_neg (by omega)], ?_, fun t ht => ?_, fun t ht => ?_, fun t x ht hx h => by omega⟩
  · rw [hG.r, hF.r, hR.r, en]
  · rw [hG.rl, hF.rl, hG.kn, hF.kn]; exact hR.rl t (by omega)
  · rw [hG.OV, hF.OV, hG.RV, hF.RV]; exact hR.ov t (by omega)
/-- What own leaves. -/
structure Dn (s s' : Bo) : Prop where
  E : s'.E = s.E
  n : s'.n = s.n
  kn : ∀ t, s'.kn t ≤ s.kn t + 2
  h : s'.h ≤ s.h + 200
  r : s'.r = s'.n
  rl : ∀ i, i < s'.n → s'.rl i = s'.kn i
  ov : ∀ i, i < s'.n → s'.OV i = s'.RV i
  J : ∀ j, s'.J j ↔ j < s'.h
  ls : ∀ i k, i < s'.n → k < s'.kn i → ∃ ao m f, s'.LV i k = .slice ao m m ∧ s'.LX i k = zlf .u16 65 ao m f ∧ m ≤ 100000000
theorem Dn.of {s s1 s2 s3 : Bo} (hR : Rk s) (hF : Fz s s1 s.n 0) (hG : Gz s s1 s2 s1.h) (hP : Pz s2 s3 s2.n 0) : Dn s s3 ∧ (∀ j, j < s3.h → s3.J j) ∧ (∀ i, s3.kn i ≤ 1000000) ∧ (∀ i k, i < s3.n → k < s3.kn i → ∃ b c, s3.LV i k = .slice (some ⟨b, 0, none⟩) 1 c ∧ s3.LX i k = zlf .u16 65 (some ⟨b, 0, none⟩) 1 (fun _ => 9)) := by
  have en : s2.n = s.n := hG.n.trans hF.n
  have h1 := hF.hhi
  have h2 := hF.hlo
  have h3 := hG.h
  have h4 := hR.n8
  have ek : ∀ t, s3.kn t ≤ s.kn t + 2 := fun t => by
    rw [hP.kn, hG.kn, hF.kn]; split <;> omega
  have hJ : ∀ j, s3.J j ↔ j < s3.h := fun j => by rw [hP.J, hG.J, hP.h]; omega
  refine ⟨⟨hP.E.trans (hG.E.trans hF.E), hP.n.trans en, ek, by rw [hP.h]; omega, by rw [hP.r, hP.n], fun i hi => hP.rl i (by rw [hP.n] at hi; exact hi), fun i hi => hP.ov i (by rw [hP.n] at hi; exact hi), hJ, fun i k hi hk => ?_⟩, fun j hj => (hJ j).2 hj, fun i => by have := ek i; have := hR.k8 i; omega, fun i k hi hk => ?_⟩
  · rw [hP.n] at hi
    obtain ⟨b, e1, e2⟩ := hP.ls i k hi hk (.inl hi)
    exact ⟨_, 1, _, e1, e2, by omega⟩
  · rw [hP.n] at hi
    obtain ⟨b, e1, e2⟩ := hP.ls i k hi hk (.inl hi)
    exact ⟨b, 1, e1, e2⟩
end Go.Proofs.Ythihennifigchaa.Bx

namespace Go.Proofs.Ythihennifigchaa.Bx
open Go.RowKit Bk
theorem Ex.own {w : World} {v : Value} {n : Nat} {mk : Int} (h : Ex w v n mk v.ownBlock.toList) (hn : 0 < n) : w.ownsRow 0 65 1 v n (List.replicate n (.int .u16 mk)) := by
  rcases h with ⟨h0, ao, rfl, h2, _⟩ | ⟨_, h⟩
  · cases ao with
    | none => have := h2 rfl; omega
    | some a => simp [Value.ownBlock] at h0
  · exact h
theorem wpList_eq {ops : Array Oper} {rest : List Oper} {o : Oper} {a : Act} {w : World} {Q : Exit → Act → World → Prop} (hg : o.guard = none) (s x : Operand) (t : Nat)
    (hop : o.op = Op.call { callee := Callee.builtin Builtin.append, args := #[s, x], argTypes := #[t, t] }) (v1 v2 v' : Value) (w' : World) (hs : a.eval s = v1) (hx : a.eval x = v2)
    (hr : Sem.run Try.prog (Builtin.append_ #[t, t] o.type #[v1, v2]) w = .ok v' w') (hK : wpList Try.prog ops Q rest (a.put o.dst v') w') : wpList Try.prog ops Q (o :: rest) a w := by
  refine wpList_plain hg fun K hK' => ?_
  unfold Oper.wp
  simp [execOp, hop, resolve, invoke, builtin, hs, hx, hr, Result.andThen]
  exact hK' _ _ hK
set_option maxHeartbeats 16000000 in
set_option maxRecDepth 100000 in
theorem own_any (W w : World) (A : Nat) (s : Bo) (h : BAt W w A s) (hR : Rk s) (hh : s.h ≤ 500000) :
    Calls Try.prog 20 #[.pointer (some ⟨A, 0, none⟩)] w fun e w' => e = .returned (.bool true) ∧ ∃ s', BAt W w' A s' ∧ Dn s s' := by
  have HH := Hid.mk h
  have HR := Hid.mk hR
  obtain ⟨⟨c0, -, -⟩, -⟩ := h.cells
  obtain ⟨aoS, cpS, eS⟩ := row_form h.held
  rw [eS] at c0
  have hn8 := hR.n8
  clear h hR eS
  go_enter Try.func20, Try.ntmps20
  go_wp2
  clear c0
  go_loopw [4] (fun i wr => ∃ k : Nat, k ≤ s.n ∧ i = .int .i64 (k : Int) ∧ ∃ s1, BAt W wr A s1 ∧ Fz s s1 k 0) (fun i _ => s.n - (intOf i).toNat)
  case atStart => exact ⟨0, by omega, rfl, s, HH.out, Fz.start HR.out⟩
  case round =>
    obtain ⟨i, hi, rfl, s1, hB, hF⟩ := hrel
    obtain ⟨wo, ewo⟩ : ∃ wo, wo = wr := ⟨_, rfl⟩
    subst ewo
    have H1 := Hid.mk hB
    have F1 := Hid.mk hF
    obtain ⟨⟨-, -, c2⟩, -⟩ := hB.cells
    obtain ⟨aoO, cpO, eO⟩ := row_form hB.out
    rw [eO, hF.r, HR.out.r] at c2
    clear hB hF eO
    by_cases hlt : i < s.n
    · have ix : (i : Int) < (s.n : Int) := by omega
      go_wp2
      clear c2
      go_loopw [5] (fun t wr => ∃ k : Nat, k ≤ s.kn i ∧ t = .int .i64 (k : Int) ∧ ∃ s1, BAt W wr A s1 ∧ Fz s s1 i k) (fun t _ => s.kn i - (intOf t).toNat)
      case atStart => exact ⟨0, by omega, rfl, s1, H1.out, F1.out⟩
      case round =>
        obtain ⟨k, hk, rfl, s2, hB, hF⟩ := hrel
        obtain ⟨wp, ewp⟩ : ∃ wp, wp = wr := ⟨_, rfl⟩
        subst ewp
        have H2 := Hid.mk hB
        have F2 := Hid.mk hF
        have hk8 := HR.out.k8 i
        have hF1 := hF.hhi
        obtain ⟨⟨c0, -, c2⟩, -⟩ := hB.cells
        obtain ⟨aoS, cpS, eS⟩ := row_form hB.held
        obtain ⟨aoO, cpO, eO⟩ := row_form hB.out
        obtain ⟨gO, cpO', eO', y0, -⟩ := own_cell hB.out i (by rw [hF.r, HR.out.r]; exact hlt)
        obtain ⟨rfl, rfl⟩ : aoO = some ⟨gO, 0, none⟩ ∧ cpO = cpO' := by have := eO.symm.trans eO'; simp at this; exact this
        obtain ⟨aoR, cpR, eR⟩ := row_form (hB.row i (by rw [hF.n]; exact hlt))
        rw [hF.OV, HR.out.ov i hlt, ← hF.RV, eR, hF.rl, HR.out.rl i hlt] at y0
        rw [eS] at c0
        rw [eO, hF.r, HR.out.r] at c2
        have HS := Hid.mk eS
        have HO := Hid.mk eO
        have HRw := Hid.mk eR
        clear hB hF eS eO eO' eR
        by_cases hkl : k < s.kn i
        · have ixk : (k : Int) < (s.kn i : Int) := by omega
          obtain ⟨gR, cpR', eR', y1, -⟩ := own_cell (H2.out.row i (by rw [F2.out.n]; exact hlt)) k (by rw [F2.out.rl, HR.out.rl i hlt]; exact hkl)
          obtain ⟨rfl, rfl⟩ : aoR = some ⟨gR, 0, none⟩ ∧ cpR = cpR' := by have := HRw.out.symm.trans eR'; simp at this; exact this
          obtain ⟨ao, m, f, q1, q2, q3⟩ := F2.out.ls i k hlt hkl
          rw [F2.out.LV, q1] at y1
          have HQ1 := Hid.mk q1
          have HQ2 := Hid.mk q2
          clear eR' q1 q2
          go_wp2
          generalize (5000 + (s2.h : Int) % 50000) = mk
          clear c0 c2 y0 y1
          go_loopw [7] (fun t wr => ∃ j : Nat, j ≤ m ∧ t = .int .i64 (j : Int) ∧ ∃ f, (∀ x, x < j → f x = mk) ∧ BAt W wr A (s2.one i k (zlf .u16 65 ao m f))) (fun t _ => m - (intOf t).toNat)
          case atStart => exact ⟨0, by omega, rfl, f, fun x hx => by omega, by rw [s2.one_self i k _ HQ2.out]; exact H2.out⟩
          case round =>
            obtain ⟨j, hj, rfl, f3, hf3, hB⟩ := hrel
            obtain ⟨wq, ewq⟩ : ∃ wq, wq = wr := ⟨_, rfl⟩
            subst ewq
            have H3 := Hid.mk hB
            have Hf3 := Hid.mk hf3
            have hi2 : i < s2.n := by rw [F2.out.n]; exact hlt
            have hk2 : k < s2.kn i := by rw [F2.out.kn]; exact hkl
            have hr2 : i < s2.r := by rw [F2.out.r, HR.out.r]; exact hlt
            have hrl2 : k < s2.rl i := by rw [F2.out.rl, HR.out.rl i hlt]; exact hkl
            obtain ⟨⟨c0, -, c2⟩, fz⟩ := hB.cells
            change wq.cell? _ = some s2.SL at c0
            change wq.cell? _ = some s2.SO at c2
            have f0 := fz 0
            have hO := hB.out
            change wq.ownsRow 0 36 1 s2.SO s2.r (vals s2.OV s2.r) at hO
            have hRr := hB.row i hi2
            change wq.ownsRow 0 52 1 (s2.RV i) (s2.rl i) (vals (s2.LV i) (s2.rl i)) at hRr
            obtain ⟨gO', cpO', eO', y0, -⟩ := own_cell hO i hr2
            obtain ⟨rfl, rfl⟩ : gO = gO' ∧ cpO = cpO' := by have := HO.out.symm.trans eO'; simp at this; exact this
            obtain ⟨gR', cpR', eR', y1, -⟩ := own_cell hRr k hrl2
            obtain ⟨rfl, rfl⟩ : gR = gR' ∧ cpR = cpR' := by have := HRw.out.symm.trans eR'; simp at this; exact this
            rw [F2.out.OV, HR.out.ov i hlt, ← F2.out.RV, HRw.out, F2.out.rl, HR.out.rl i hlt] at y0
            rw [F2.out.LV, HQ1.out] at y1
            rw [HS.out] at c0
            rw [HO.out, F2.out.r, HR.out.r] at c2
            have hL := hB.list i k hi2 hk2
            rw [show (s2.one i k (zlf .u16 65 ao m f3)).LX i k = zlf .u16 65 ao m f3 from upd2_at _ _ _ _] at hL
            have HL := Hid.mk hL
            clear hB hf3 fz hO hRr eO' eR' hL
            by_cases hjm : j < m
            · have ixj : (j : Int) < (m : Int) := by omega
              obtain ⟨G, hG, z1, cz, z2⟩ := zlf_cells HL.out j hjm
              subst hG
              go_wp2
              refine ⟨⟨j + 1, by omega, by go_num, fun t => if t = j then mk else f3 t, fun x hx => ?_, ?_⟩, by simp [intOf]; omega⟩
              · by_cases e : x = j
                · show (if x = j then mk else f3 x) = mk; rw [if_pos e]
                · show (if x = j then mk else f3 x) = mk; rw [if_neg e]; exact Hf3.out x (by omega)
              · rw [← s2.one_one i k (zlf .u16 65 (some ⟨G, 0, none⟩) m f3)]
                have e1 : (s2.one i k (zlf .u16 65 (some ⟨G, 0, none⟩) m f3)).LX i k = zlf .u16 65 (some ⟨G, 0, none⟩) m f3 := upd2_at _ _ _ _
                exact H3.out.one (ks := [G]) i k hi2 hk2 _ ((Kept.refl _ _).setCell (p := ⟨G, j, none⟩) (.inl (by simp)) _) (by rw [e1]; exact fun x hx => .inl (by simpa [zlf, ablk] using hx)) (zlf_set HL.out rfl hjm) (by rw [e1]; exact fun x hx => .inl hx)
            · have ehj : j = m := by omega
              subst ehj
              obtain ⟨wd, hwd⟩ : ∃ wd, wd = wq.drew := ⟨_, rfl⟩
              have hkd : Kept [] wq wd := by rw [hwd]; exact (Kept.refl [] wq).drew
              have H4 := Hid.mk (H3.out.keep hkd)
              obtain ⟨aoN, cpN, w7, hrun, ho7, hk7, hl7⟩ := held_app wd s2.SL s2.h (hfl s2.HV s2.HM s2.h) (.slice ao j j) mk rfl H4.out.held (by omega)
              rw [HS.out] at hrun
              have HO7 := Hid.mk ho7
              have HK7 := Hid.mk hk7
              have HL7 := Hid.mk hl7
              have b7 := H4.out.boxKept hk7
              have g7 : w7.frozen? ⟨A, 0, none⟩ = false := by simp [World.frozen?, b7]
              have g8 : ∃ c, w7.cell? ⟨A, 0, none⟩ = some c := ⟨s2.SL, by simp [World.cell?, b7]; rfl⟩
              obtain ⟨cg, g8⟩ := g8
              subst hwd
              obtain ⟨w3, hw3⟩ : ∃ w3, wq.drew.alloc (.cells #[.slice ao j j, .int .u16 mk] 79) = w3 := ⟨_, rfl⟩
              have hk3 : Kept [] wq w3 := by rw [← hw3]; exact ((Kept.refl [] wq).drew).alloc _
              rw [hw3] at hrun
              have e3 := cell_keep hk3 c0 (by simp)
              clear ho7 hk7 hl7 hkd b7 hk3
              have FN : Hid (∃ s3, BAt W (w7.setCell ⟨A, 0, none⟩ (.slice aoN (s2.h + 1) cpN)) A s3 ∧ Fz s s3 i (k + 1)) := Hid.mk (by
                refine ⟨_, H4.out.hold (fun t ht => ?_) (.slice ao j j) mk _ HK7.out HL7.out HO7.out, (F2.out.one HQ1.out q3).hold hlt hkl HQ1.out q3 ((upd2_at _ _ _ _).trans (zlf_const Hf3.out)) _⟩
                have h1 : s.J t := by rw [← F2.out.J]; exact ht
                have h2 := (HR.out.J t).1 h1
                have h3 := F2.out.hlo
                show t < s2.h
                omega)
              clear H4 HK7 HL7 HO7
              go_upto_region 13 with (fail)
              go_region_law (refine step_app rfl (.tmp 82) (.tmp 95) 32 rfl _ _ _ _ rfl rfl hrun ?_)
              all_goals
                go_wp2
                obtain ⟨s3, b3, z3⟩ := FN.out
                exact ⟨⟨k + 1, by omega, by go_num, s3, b3, z3⟩, by simp [intOf]; omega⟩
        · go_wp2
          exact ⟨⟨i + 1, by omega, by go_num, s2, H2.out, F2.out.next (by omega) (by omega)⟩, by simp [intOf]; omega⟩
    · clear c2
      obtain rfl : i = s.n := by omega
      obtain ⟨⟨c0, -, -⟩, -⟩ := H1.out.cells
      obtain ⟨aoS1, cpS1, eS1⟩ := row_form H1.out.held
      rw [eS1] at c0
      obtain ⟨⟨-, -, c2⟩, -⟩ := H1.out.cells
      obtain ⟨aoO1, cpO1, eO1⟩ := row_form H1.out.out
      rw [eO1, F1.out.r, HR.out.r] at c2
      have hlo := F1.out.hlo
      have hhi := F1.out.hhi
      clear eS1 eO1
      go_wp2
      clear c0 c2
      go_loopw [9] (fun t wr => ∃ k : Nat, s.h ≤ k ∧ k ≤ s1.h ∧ t = .int .i64 (k : Int) ∧ ∃ s2, BAt W wr A s2 ∧ Gz s s1 s2 k) (fun t _ => s1.h - (intOf t).toNat)
      case atStart => exact ⟨s.h, Nat.le_refl _, hlo, rfl, s1, H1.out, Gz.start HR.out F1.out⟩
      case round =>
        obtain ⟨t, ht0, ht1, rfl, s2, hB, hG⟩ := hrel
        obtain ⟨wp, ewp⟩ : ∃ wp, wp = wr := ⟨_, rfl⟩
        subst ewp
        have H2 := Hid.mk hB
        have G2 := Hid.mk hG
        have hh2a : s2.h ≤ s1.h + (t - s.h) := Nat.le_of_eq hG.h
        have hh2b : s1.h + (t - s.h) ≤ s2.h := Nat.le_of_eq hG.h.symm
        clear hB hG
        by_cases hlt2 : t < s1.h
        · obtain ⟨i', k', q1, q2, -, ao, m, q4, q5, q6, q7⟩ := F1.out.fresh t ht0 hlt2
          obtain ⟨mk, hmk⟩ : ∃ mk, mk = s1.HM t := ⟨_, rfl⟩
          rw [← hmk] at q7
          have HM2 : Hid (s2.HM t = mk) := Hid.mk (by rw [G2.out.HM t hlt2, hmk])
          have HV2 : Hid (s2.HV t = .slice ao m m) := Hid.mk (by rw [G2.out.HV t (Nat.le_refl _) hlt2, q5])
          have HE : Hid (Ex wp (.slice ao m m) m mk []) := Hid.mk (by
            have hL := H2.out.list i' k' (by rw [G2.out.n, F1.out.n]; exact q1) (by rw [G2.out.kn, F1.out.kn]; exact q2)
            rw [G2.out.LX, q7] at hL
            refine .inl ⟨rfl, ao, rfl, fun e => ?_, ?_⟩
            · rcases hL with ⟨_, h⟩ | ⟨G, e2, _⟩
              · exact h
              · rw [e] at e2; cases e2
            · rcases hL with ⟨_, h⟩ | ⟨G, e2, hT⟩
              · exact .inl h
              · exact .inr ⟨G, 0, e2, fun x hx => by rw [cell_of_row _ _ _ _ _ _ hT, Nat.zero_add]; simp [ints, hx]⟩)
          have HJ2 : Hid (¬ s2.J t) := Hid.mk (by rw [G2.out.J]; omega)
          clear q1 q2 q4 q5 q7 hmk
          go_wp2
          go_loopw [10] (fun c wr => ∃ x : Nat, x ≤ 20 ∧ c = .int .i64 (x : Int) ∧ ∃ v bl, Ex wr v (m + x) mk bl ∧ BAt W wr A (s2.seth t v) ∧ (0 < x → bl = v.ownBlock.toList) ∧ ∀ y ∈ bl, W.heap.size ≤ y ∧ y < wr.heap.size ∧ ∀ j, s2.D j → y ∉ (s2.R A j).F) (fun c _ => 20 - (intOf c).toNat)
          case atStart => exact ⟨0, by omega, rfl, .slice ao m m, [], HE.out, by rw [s2.seth_self t _ HV2.out]; exact H2.out, fun h => by omega, fun y hy => by simp at hy⟩
          case round =>
            obtain ⟨x, hx, rfl, v, bl, hE, hB, hx0, hbl⟩ := hrel
            obtain ⟨wq, ewq⟩ : ∃ wq, wq = wr := ⟨_, rfl⟩
            subst ewq
            obtain ⟨aoV, cpV, rfl⟩ := hE.form
            have H3 := Hid.mk hB
            have E3 := Hid.mk hE
            have HBL := Hid.mk hbl
            have hth : t < s2.h := by omega
            obtain ⟨⟨c0, -, -⟩, -⟩ := hB.cells
            obtain ⟨gH, cpH, eH, d0, d1, dz⟩ := held_cell hB.held t hth
            have HS : Hid (s2.SL = .slice (some ⟨gH, 0, none⟩) s2.h cpH) := Hid.mk eH
            change wq.cell? _ = some s2.SL at c0
            rw [HS.out] at c0
            have d0' : wq.cell? ⟨gH, t * 2, none⟩ = some (.slice aoV (m + x) cpV) := by
              rw [d0]; show some (if t = t then _ else _) = _; rw [if_pos rfl]
            have d1' : wq.cell? ⟨gH, t * 2 + 1, none⟩ = some (.int .u16 mk) := by
              rw [d1]; show some (Value.int .u16 (s2.HM t)) = _; rw [HM2.out]
            have ixt : (t : Int) < (s2.h : Int) := by omega
            clear hE hB hbl eH d0 d1
            by_cases hx20 : x < 20
            · have H4 := Hid.mk (H3.out.keep ((Kept.refl [] wq).drew))
              obtain ⟨aoN, cpN, w7, hrun, -, ho7, hk7, hn7⟩ := ex_app wq.drew _ _ mk bl (E3.out.keep ((Kept.refl [] wq).drew)) (by omega)
              have hk3 : Kept [] wq (wq.drew.alloc (.cells #[.int .u16 mk] 65)) := ((Kept.refl [] wq).drew).alloc _
              have e0 := cell_keep hk3 c0 (by simp)
              have e2 := cell_keep hk3 d1' (by simp)
              have a1 : (wq.alloc (.cells #[.int .u16 mk] 65)).cell? ⟨gH, t * 2, none⟩ = some (.slice aoV (m + x) cpV) := cell_keep ((Kept.refl [] wq).alloc _) d0' (by simp)
              have FN : Hid (BAt W (w7.setCell ⟨gH, t * 2, none⟩ (.slice aoN (m + x + 1) cpN)) A (s2.seth t (.slice aoN (m + x + 1) cpN)) ∧ _) := Hid.mk (H4.out.more hth HJ2.out hk7 ho7 hn7 (by simpa using HBL.out) gH cpH HS.out)
              have nA : A ∉ bl := fun h => (HBL.out A h).2.2 (1, 0) s2.D1 (by simp [Bo.R, obj])
              have nG : gH ∉ bl := fun h => (HBL.out gH h).2.2 (3, 0) s2.D3 (by show gH ∈ s2.SL.ownBlock.toList; rw [HS.out]; simp [Value.ownBlock])
              have g0 : w7.cell? ⟨A, 0, none⟩ = _ := cell_keep hk7 (show wq.drew.cell? _ = _ from c0) nA
              have g1 : w7.cell? ⟨gH, t * 2, none⟩ = _ := cell_keep hk7 (show wq.drew.cell? _ = _ from d0') nG
              have g2 : w7.frozen? ⟨gH, t * 2, none⟩ = false := by
                have h7 := H4.out.aside hk7 (fun y hy => (HBL.out y hy).1) (fun y hy j hj => by rw [s2.seth_F A t _ j hj]; exact (HBL.out y hy).2.2 j hj)
                obtain ⟨g', c', e', -, -, z'⟩ := held_cell h7.held t hth
                obtain ⟨rfl, rfl⟩ : gH = g' ∧ cpH = c' := by have := HS.out.symm.trans e'; simp at this; exact ⟨this.1, this.2.2⟩
                exact z'
              have g3 : w7.cell? ⟨gH, t * 2 + 1, none⟩ = _ := cell_keep hk7 (show wq.drew.cell? _ = _ from d1') nG
              have nAG : A ≠ gH := fun e => H3.out.apart (1, 0) (3, 0) s2.D1 s2.D3 (by simp) A (by simp [Bo.R, obj]) (by show A ∈ s2.SL.ownBlock.toList; rw [HS.out, e]; simp [Value.ownBlock])
              have ES : Hid ((w7.setCell ⟨gH, t * 2, none⟩ (.slice aoN (m + x + 1) cpN)).cell? ⟨A, 0, none⟩ = some (.slice (some ⟨gH, 0, none⟩) s2.h cpH) ∧ (w7.setCell ⟨gH, t * 2, none⟩ (.slice aoN (m + x + 1) cpN)).cell? ⟨gH, t * 2 + 1, none⟩ = some (.int .u16 mk)) := Hid.mk ⟨by rw [World.cell?_setCell_other _ _ _ _ (by first | (simp; done) | (intro e; cases e; exact nAG rfl) | (simp; exact fun h => absurd h.symm nAG))]; first | done | exact g0, by rw [World.cell?_setCell_other _ _ _ _ (by simp)]; first | done | exact g3⟩
              have ED : Hid (wq.drew.cell? ⟨A, 0, none⟩ = some (.slice (some ⟨gH, 0, none⟩) s2.h cpH) ∧ wq.drew.cell? ⟨gH, t * 2 + 1, none⟩ = some (.int .u16 mk)) := Hid.mk ⟨c0, d1'⟩
              have EA := Hid.mk (And.intro e0 e2)
              have E1 := Hid.mk (And.intro g0 g3)
              clear ho7 hk7 hn7 hk3 H4 nA nG
              go_wp2_with (fail)
              refine wp_region_held_drew (S := fun u => u.cell? ⟨A, 0, none⟩ = some (.slice (some ⟨gH, 0, none⟩) s2.h cpH) ∧ u.cell? ⟨gH, t * 2 + 1, none⟩ = some (.int .u16 mk)) (by kernel_rfl) ED.out (fun hHeld => ?_)
              refine wpAnyH_take (i := 0) (v := ?_) rfl (by kernel_rfl) (by kernel_rfl) (by kernel_rfl) (fun _ _ _ h => h) (Or.inl ⟨by rfl, ?_⟩) (by assumption) ?_
              rotate_left
              · intro w hSw
                try dsimp only at hSw
                go_simp
                all_goals with_reducible rfl
              simp only [Act.put, List.getElem_toArray, List.getElem_cons_zero, List.setIfInBounds_toArray, List.set_cons_zero, List.set_cons_succ]
              refine wpAnyH_take (i := 1) (v := ?_) rfl (by kernel_rfl) (by kernel_rfl) (by kernel_rfl) (fun _ _ _ h => h) (Or.inl ⟨by rfl, ?_⟩) (by assumption) ?_
              rotate_left
              · intro w hSw
                try dsimp only at hSw
                go_simp
                all_goals with_reducible rfl
              simp only [Act.put, List.getElem_toArray, List.getElem_cons_zero, List.getElem_cons_succ, List.setIfInBounds_toArray, List.set_cons_zero, List.set_cons_succ]
              refine wpAnyH_take (i := 2) (v := ?_) rfl (by kernel_rfl) (by kernel_rfl) (by kernel_rfl) (fun _ _ _ h => h) (Or.inl ⟨by rfl, ?_⟩) (by assumption) ?_
              rotate_left
              · intro w hSw
                try dsimp only at hSw
                go_simp
                all_goals with_reducible rfl
              simp only [Act.put, List.getElem_toArray, List.getElem_cons_zero, List.getElem_cons_succ, List.setIfInBounds_toArray, List.set_cons_zero, List.set_cons_succ]
              refine wpAnyH_take (i := 3) (v := ?_) rfl (by kernel_rfl) (by kernel_rfl) (by kernel_rfl) (fun _ _ _ h => h) (Or.inl ⟨by rfl, ?_⟩) (by assumption) ?_
              rotate_left
              · intro w hSw
                try dsimp only at hSw
                go_simp
                all_goals with_reducible rfl
              simp only [Act.put, List.getElem_toArray, List.getElem_cons_zero, List.getElem_cons_succ, List.setIfInBounds_toArray, List.set_cons_zero, List.set_cons_succ]
              refine wpAnyH_take (i := 4) (v := ?_) rfl (by kernel_rfl) (by kernel_rfl) (by kernel_rfl) (fun _ _ _ h => h) (Or.inl ⟨by rfl, ?_⟩) (by assumption) ?_
              rotate_left
              · intro w hSw
                try dsimp only at hSw
                go_simp
                all_goals with_reducible rfl
              simp only [Act.put, List.getElem_toArray, List.getElem_cons_zero, List.getElem_cons_succ, List.setIfInBounds_toArray, List.set_cons_zero, List.set_cons_succ]
              refine wpAnyH_take (i := 5) (v := ?_) rfl (by kernel_rfl) (by kernel_rfl) (by kernel_rfl) (fun _ _ _ h => h) (Or.inl ⟨by rfl, ?_⟩) (by assumption) ?_
              rotate_left
              · intro w hSw
                try dsimp only at hSw
                go_simp
                all_goals with_reducible rfl
              simp only [Act.put, List.getElem_toArray, List.getElem_cons_zero, List.getElem_cons_succ, List.setIfInBounds_toArray, List.set_cons_zero, List.set_cons_succ]
              refine wpAnyH_take (i := 6) (v := ?_) rfl (by kernel_rfl) (by kernel_rfl) (by kernel_rfl) (fun _ _ _ h => h) (Or.inl ⟨by rfl, ?_⟩) (by assumption) ?_
              rotate_left
              · intro w hSw
                try dsimp only at hSw
                go_simp
                all_goals with_reducible rfl
              simp only [Act.put, List.getElem_toArray, List.getElem_cons_zero, List.getElem_cons_succ, List.setIfInBounds_toArray, List.set_cons_zero, List.set_cons_succ]
              refine wpAnyH_take (i := 7) (v := ?_) rfl (by kernel_rfl) (by kernel_rfl) (by kernel_rfl) (fun _ _ _ h => h) (Or.inl ⟨by rfl, ?_⟩) (by assumption) ?_
              rotate_left
              · intro w hSw
                try dsimp only at hSw
                go_simp
                all_goals with_reducible rfl
              simp only [Act.put, List.getElem_toArray, List.getElem_cons_zero, List.getElem_cons_succ, List.setIfInBounds_toArray, List.set_cons_zero, List.set_cons_succ]
              refine wpAnyH_take (i := 8) (v := ?_) rfl (by kernel_rfl) (by kernel_rfl) (by kernel_rfl) (fun _ _ _ h => h) (Or.inl ⟨by rfl, ?_⟩) (by assumption) ?_
              rotate_left
              · intro w hSw
                try dsimp only at hSw
                go_simp
                all_goals with_reducible rfl
              simp only [Act.put, List.getElem_toArray, List.getElem_cons_zero, List.getElem_cons_succ, List.setIfInBounds_toArray, List.set_cons_zero, List.set_cons_succ]
              refine wpAnyH_take (i := 9) (v := ?_) rfl (by kernel_rfl) (by kernel_rfl) (by kernel_rfl) (fun _ _ _ h => h) (Or.inl ⟨by rfl, ?_⟩) (by assumption) ?_
              rotate_left
              · intro w hSw
                try dsimp only at hSw
                go_simp
                all_goals with_reducible rfl
              simp only [Act.put, List.getElem_toArray, List.getElem_cons_zero, List.getElem_cons_succ, List.setIfInBounds_toArray, List.set_cons_zero, List.set_cons_succ]
              refine wpAnyH_take (i := 10) (v := ?_) rfl (by kernel_rfl) (by kernel_rfl) (by kernel_rfl) (fun _ _ _ h => h) (Or.inl ⟨by rfl, ?_⟩) (by assumption) ?_
              rotate_left
              · intro w hSw
                try dsimp only at hSw
                go_simp
                all_goals with_reducible rfl
              simp only [Act.put, List.getElem_toArray, List.getElem_cons_zero, List.getElem_cons_succ, List.setIfInBounds_toArray, List.set_cons_zero, List.set_cons_succ]
              refine wpAnyH_take (i := 11) (v := ?_) rfl (by kernel_rfl) (by kernel_rfl) (by kernel_rfl) (fun _ _ _ h => h) (Or.inl ⟨by rfl, ?_⟩) (by assumption) ?_
              rotate_left
              · intro w hSw
                try dsimp only at hSw
                go_simp
                all_goals with_reducible rfl
              simp only [Act.put, List.getElem_toArray, List.getElem_cons_zero, List.getElem_cons_succ, List.setIfInBounds_toArray, List.set_cons_zero, List.set_cons_succ]
              refine wpAnyH_take (i := 13) (v := ?_) rfl (by kernel_rfl) (by kernel_rfl) (by kernel_rfl) (fun _ _ _ h => h) (Or.inl ⟨by rfl, ?_⟩) (by assumption) ?_
              rotate_left
              · intro w hSw
                try dsimp only at hSw
                go_simp
                all_goals with_reducible rfl
              simp only [Act.put, List.getElem_toArray, List.getElem_cons_zero, List.getElem_cons_succ, List.setIfInBounds_toArray, List.set_cons_zero, List.set_cons_succ]
              refine wpAnyH_take (i := 14) (v := ?_) rfl (by kernel_rfl) (by kernel_rfl) (by kernel_rfl) (fun _ _ _ h => h) (Or.inl ⟨by rfl, ?_⟩) (by assumption) ?_
              rotate_left
              · intro w hSw
                try dsimp only at hSw
                go_simp
                all_goals with_reducible rfl
              simp only [Act.put, List.getElem_toArray, List.getElem_cons_zero, List.getElem_cons_succ, List.setIfInBounds_toArray, List.set_cons_zero, List.set_cons_succ]
              refine wpAnyH_take (i := 15) (v := ?_) rfl (by kernel_rfl) (by kernel_rfl) (by kernel_rfl) (fun _ _ _ h => h) (Or.inl ⟨by rfl, ?_⟩) (by assumption) ?_
              rotate_left
              · intro w hSw
                try dsimp only at hSw
                go_simp
                all_goals with_reducible rfl
              simp only [Act.put, List.getElem_toArray, List.getElem_cons_zero, List.getElem_cons_succ, List.setIfInBounds_toArray, List.set_cons_zero, List.set_cons_succ]
              refine wpAnyH_take (i := 16) (v := ?_) rfl (by kernel_rfl) (by kernel_rfl) (by kernel_rfl) (fun _ _ _ h => h) (Or.inl ⟨by rfl, ?_⟩) (by assumption) ?_
              rotate_left
              · intro w hSw
                try dsimp only at hSw
                go_simp
                all_goals with_reducible rfl
              simp only [Act.put, List.getElem_toArray, List.getElem_cons_zero, List.getElem_cons_succ, List.setIfInBounds_toArray, List.set_cons_zero, List.set_cons_succ]
              refine wpAnyH_take (i := 17) (v := ?_) rfl (by kernel_rfl) (by kernel_rfl) (by kernel_rfl) (fun _ _ _ h => h) (Or.inl ⟨by rfl, ?_⟩) (by assumption) ?_
              rotate_left
              · intro w hSw
                try dsimp only at hSw
                go_simp
                all_goals with_reducible rfl
              simp only [Act.put, List.getElem_toArray, List.getElem_cons_zero, List.getElem_cons_succ, List.setIfInBounds_toArray, List.set_cons_zero, List.set_cons_succ]
              refine wpAnyH_take (i := 18) (v := ?_) rfl (by kernel_rfl) (by kernel_rfl) (by kernel_rfl) (fun _ _ _ h => h) (Or.inl ⟨by rfl, ?_⟩) (by assumption) ?_
              rotate_left
              · intro w hSw
                try dsimp only at hSw
                go_simp
                all_goals with_reducible rfl
              simp only [Act.put, List.getElem_toArray, List.getElem_cons_zero, List.getElem_cons_succ, List.setIfInBounds_toArray, List.set_cons_zero, List.set_cons_succ]
              refine wpAnyH_take (i := 19) (v := ?_) rfl (by kernel_rfl) (by kernel_rfl) (by kernel_rfl) (fun _ _ _ h => h) (Or.inl ⟨by rfl, ?_⟩) (by assumption) ?_
              rotate_left
              · intro w hSw
                try dsimp only at hSw
                go_simp
                all_goals with_reducible rfl
              simp only [Act.put, List.getElem_toArray, List.getElem_cons_zero, List.getElem_cons_succ, List.setIfInBounds_toArray, List.set_cons_zero, List.set_cons_succ]
              refine wpAnyH_take (i := 20) (v := ?_) rfl (by kernel_rfl) (by kernel_rfl) (by kernel_rfl) (fun _ _ _ h => h) (Or.inl ⟨by rfl, ?_⟩) (by assumption) ?_
              rotate_left
              · intro w hSw
                try dsimp only at hSw
                go_simp
                all_goals with_reducible rfl
              simp only [Act.put, List.getElem_toArray, List.getElem_cons_zero, List.getElem_cons_succ, List.setIfInBounds_toArray, List.set_cons_zero, List.set_cons_succ]
              refine wpAnyH_ready (rs := [12, 21]) (by kernel_rfl) (by simp) ?_
              refine (AllReadyH.cons rfl (fun K9 hK9 => ?_) (AllReadyH.cons rfl (fun K9 hK9 => ?_) AllReadyH.nil))
              · go_simp
                refine hK9.out _ _ ED.out (fun hHeld2 => ?_)
                clear hK9 K9
                refine wpAnyH_ready (rs := [21]) (by kernel_rfl) (by simp) ?_
                refine (AllReadyH.cons rfl (fun K9 hK9 => ?_) AllReadyH.nil)
                go_simp
                refine hK9.out _ _ EA.out (fun hHeld2 => ?_)
                clear hK9 K9
                refine wpAnyH_ready (rs := [22]) (by kernel_rfl) (by simp) ?_
                refine (AllReadyH.cons rfl (fun K9 hK9 => ?_) AllReadyH.nil)
                refine step_app rfl _ _ 52 rfl _ _ _ _ rfl rfl hrun ?_
                simp only [Act.put, List.getElem_toArray, List.getElem_cons_zero, List.getElem_cons_succ, List.setIfInBounds_toArray, List.set_cons_zero, List.set_cons_succ]
                refine hK9.out _ _ E1.out (fun hHeld2 => ?_)
                clear hK9 K9
                refine wpAnyH_take (i := 23) (v := ?_) rfl (by kernel_rfl) (by kernel_rfl) (by kernel_rfl) (fun _ _ _ h => h) (Or.inl ⟨by rfl, ?_⟩) (by assumption) ?_
                rotate_left
                · intro w hSw
                  try dsimp only at hSw
                  go_simp
                  all_goals with_reducible rfl
                simp only [Act.put, List.getElem_toArray, List.getElem_cons_zero, List.getElem_cons_succ, List.setIfInBounds_toArray, List.set_cons_zero, List.set_cons_succ]
                refine wpAnyH_take (i := 24) (v := ?_) rfl (by kernel_rfl) (by kernel_rfl) (by kernel_rfl) (fun _ _ _ h => h) (Or.inl ⟨by rfl, ?_⟩) (by assumption) ?_
                rotate_left
                · intro w hSw
                  try dsimp only at hSw
                  go_simp
                  all_goals with_reducible rfl
                simp only [Act.put, List.getElem_toArray, List.getElem_cons_zero, List.getElem_cons_succ, List.setIfInBounds_toArray, List.set_cons_zero, List.set_cons_succ]
                refine wpAnyH_ready (rs := [25]) (by kernel_rfl) (by simp) ?_
                refine (AllReadyH.cons rfl (fun K9 hK9 => ?_) AllReadyH.nil)
                go_simp
                refine hK9.out _ _ ES.out (fun hHeld2 => ?_)
                clear hK9 K9
                refine wpAnyH_done (by kernel_rfl) ?_ _
                clear hrun a1 c0 d0' d1' e0 e2 g0 g1 g2 g3 ED EA E1 ES hHeld hHeld2
                go_wp2
                obtain ⟨r1, r2, r3⟩ := FN.out
                exact ⟨⟨x + 1, by omega, by go_num, _, _, r2, r1, fun _ => rfl, r3⟩, by simp [intOf]; omega⟩
              · go_simp
                refine hK9.out _ _ EA.out (fun hHeld2 => ?_)
                clear hK9 K9
                refine wpAnyH_ready (rs := [12]) (by kernel_rfl) (by simp) ?_
                refine (AllReadyH.cons rfl (fun K9 hK9 => ?_) AllReadyH.nil)
                go_simp
                refine hK9.out _ _ EA.out (fun hHeld2 => ?_)
                clear hK9 K9
                refine wpAnyH_ready (rs := [22]) (by kernel_rfl) (by simp) ?_
                refine (AllReadyH.cons rfl (fun K9 hK9 => ?_) AllReadyH.nil)
                refine step_app rfl _ _ 52 rfl _ _ _ _ rfl rfl hrun ?_
                simp only [Act.put, List.getElem_toArray, List.getElem_cons_zero, List.getElem_cons_succ, List.setIfInBounds_toArray, List.set_cons_zero, List.set_cons_succ]
                refine hK9.out _ _ E1.out (fun hHeld2 => ?_)
                clear hK9 K9
                refine wpAnyH_take (i := 23) (v := ?_) rfl (by kernel_rfl) (by kernel_rfl) (by kernel_rfl) (fun _ _ _ h => h) (Or.inl ⟨by rfl, ?_⟩) (by assumption) ?_
                rotate_left
                · intro w hSw
                  try dsimp only at hSw
                  go_simp
                  all_goals with_reducible rfl
                simp only [Act.put, List.getElem_toArray, List.getElem_cons_zero, List.getElem_cons_succ, List.setIfInBounds_toArray, List.set_cons_zero, List.set_cons_succ]
                refine wpAnyH_take (i := 24) (v := ?_) rfl (by kernel_rfl) (by kernel_rfl) (by kernel_rfl) (fun _ _ _ h => h) (Or.inl ⟨by rfl, ?_⟩) (by assumption) ?_
                rotate_left
                · intro w hSw
                  try dsimp only at hSw
                  go_simp
                  all_goals with_reducible rfl
                simp only [Act.put, List.getElem_toArray, List.getElem_cons_zero, List.getElem_cons_succ, List.setIfInBounds_toArray, List.set_cons_zero, List.set_cons_succ]
                refine wpAnyH_ready (rs := [25]) (by kernel_rfl) (by simp) ?_
                refine (AllReadyH.cons rfl (fun K9 hK9 => ?_) AllReadyH.nil)
                go_simp
                refine hK9.out _ _ ES.out (fun hHeld2 => ?_)
                clear hK9 K9
                refine wpAnyH_done (by kernel_rfl) ?_ _
                clear hrun a1 c0 d0' d1' e0 e2 g0 g1 g2 g3 ED EA E1 ES hHeld hHeld2
                go_wp2
                obtain ⟨r1, r2, r3⟩ := FN.out
                exact ⟨⟨x + 1, by omega, by go_num, _, _, r2, r1, fun _ => rfl, r3⟩, by simp [intOf]; omega⟩
            · have hx20' : 0 < x := by omega
              go_wp2
              obtain rfl := hx0 (by omega)
              clear c0 d0' d1' dz hx0
              have HO1 := Hid.mk (E3.out.own (by omega))
              have HA1 := Hid.mk (own_al HO1.out)
              go_loopw [11, 12] (fun v2 c wr => ∃ y : Nat, y ≤ 70 ∧ c = .int .i64 (y : Int) ∧ ∃ ao2 cp2, v2 = .slice ao2 (m + x + y) cp2 ∧ wr.ownsRow 0 65 1 v2 (m + x + y) (List.replicate (m + x + y) (.int .u16 mk)) ∧ Al .u16 wr aoV (m + x) mk ∧ BAt W wr A (s2.seth t (.slice aoV (m + x) cpV)) ∧ ∀ z ∈ (Value.slice aoV (m + x) cpV).ownBlock.toList ++ v2.ownBlock.toList, W.heap.size ≤ z ∧ z < wr.heap.size ∧ ∀ j, s2.D j → z ∉ (s2.R A j).F) (fun _ c _ => 70 - (intOf c).toNat)
              case atStart => exact ⟨0, by omega, rfl, aoV, cpV, rfl, HO1.out, HA1.out, H3.out, fun z hz => HBL.out z (by rcases List.mem_append.1 hz with h | h <;> exact h)⟩
              case round =>
                obtain ⟨y, hy, rfl, ao2, cp2, rfl, ho2, ha2, hB2, hbl2⟩ := hrel
                obtain ⟨wy, ewy⟩ : ∃ wy, wy = wr := ⟨_, rfl⟩
                subst ewy
                have H5 := Hid.mk hB2
                have O2 := Hid.mk ho2
                have A2 := Hid.mk ha2
                have B2 := Hid.mk hbl2
                obtain ⟨⟨c0, -, -⟩, fz0⟩ := hB2.cells
                have f0 := fz0 0
                obtain ⟨gH', cpH', eH', d0, d1, dz⟩ := held_cell hB2.held t hth
                obtain ⟨rfl, rfl⟩ : gH = gH' ∧ cpH = cpH' := by have := HS.out.symm.trans eH'; simp at this; exact ⟨this.1, this.2.2⟩
                change wy.cell? _ = some s2.SL at c0
                rw [HS.out] at c0
                have d1' : wy.cell? ⟨gH, t * 2 + 1, none⟩ = some (.int .u16 mk) := by
                  rw [d1]; show some (Value.int .u16 (s2.HM t)) = _; rw [HM2.out]
                clear ho2 ha2 hB2 hbl2 eH' d0 d1 dz fz0
                by_cases hy70 : y < 70
                · obtain ⟨aoN, cpN, w7, hrun, -, ho7, hk7, hn7⟩ := ex_app wy _ _ mk _ (.inr ⟨rfl, O2.out⟩) (by omega)
                  have FN : Hid (Al .u16 w7 aoV (m + x) mk ∧ w7.ownsRow 0 65 1 (.slice aoN (m + x + y + 1) cpN) (m + x + y + 1) (List.replicate (m + x + y + 1) (.int .u16 mk)) ∧ BAt W w7 A (s2.seth t (.slice aoV (m + x) cpV)) ∧ ∀ z ∈ (Value.slice aoV (m + x) cpV).ownBlock.toList ++ (Value.slice aoN (m + x + y + 1) cpN).ownBlock.toList, W.heap.size ≤ z ∧ z < w7.heap.size ∧ ∀ j, s2.D j → z ∉ (s2.R A j).F) := Hid.mk (by
                    refine ⟨ex_al wy _ _ mk O2.out (by omega) hrun hk7 A2.out, ho7, H5.out.aside hk7 (fun z hz => (B2.out z (List.mem_append.2 (.inr hz))).1) (fun z hz j hj => by rw [s2.seth_F A t _ j hj]; exact (B2.out z (List.mem_append.2 (.inr hz))).2.2 j hj), fun z hz => ?_⟩
                    have hs := hk7.size
                    rcases List.mem_append.1 hz with h | h
                    · obtain ⟨a, b, c⟩ := B2.out z (List.mem_append.2 (.inl h))
                      exact ⟨a, by omega, c⟩
                    · have hlt := (ho7.lt z (mem_own.1 h)).2
                      rcases hn7 z h with h | h
                      · obtain ⟨a, b, c⟩ := B2.out z (List.mem_append.2 (.inr h))
                        exact ⟨a, by omega, c⟩
                      · have hW : W.heap.size ≤ wy.heap.size := H5.out.old.size
                        exact ⟨by omega, hlt, fun j hj hm => by have := H5.out.lt j hj z (by rw [s2.seth_F A t _ j hj]; exact hm); omega⟩)
                  clear ho7 hk7 hn7
                  go_wp2_with (at_builtin; refine wpList_eq rfl _ _ 52 rfl _ _ _ _ rfl rfl hrun ?_)
                  go_roundw
                  case rel =>
                    obtain ⟨r1, r2, r3, r4⟩ := FN.out
                    exact ⟨y + 1, by omega, by go_num, aoN, cpN, rfl, r2, r1, r3, r4⟩
                  case measure => simp [intOf]; omega
                · obtain rfl : y = 70 := by omega
                  have H6 := Hid.mk (H5.out.keep ((Kept.refl [] wy).drew))
                  obtain ⟨aoN, cpN, w7, hrun, ho7, hk7, hl7⟩ := held_app wy.drew s2.SL s2.h (hfl (s2.seth t (.slice aoV (m + x) cpV)).HV s2.HM s2.h) (.slice ao2 (m + x + 70) cp2) mk rfl H6.out.held (by omega)
                  rw [HS.out] at hrun
                  obtain ⟨w3, hw3⟩ : ∃ w3, wy.drew.alloc (.cells #[.slice ao2 (m + x + 70) cp2, .int .u16 mk] 79) = w3 := ⟨_, rfl⟩
                  have hk3 : Kept [] wy w3 := by rw [← hw3]; exact ((Kept.refl [] wy).drew).alloc _
                  rw [hw3] at hrun
                  have e0 := cell_keep hk3 c0 (by simp)
                  have b7 := H6.out.boxKept hk7
                  have g7 : w7.frozen? ⟨A, 0, none⟩ = false := by simp [World.frozen?, b7]
                  have g8 : ∃ c, w7.cell? ⟨A, 0, none⟩ = some c := ⟨s2.SL, by simp [World.cell?, b7]; rfl⟩
                  obtain ⟨cg, g8⟩ := g8
                  have FN : Hid (∃ s3, BAt W (w7.setCell ⟨A, 0, none⟩ (.slice aoN (s2.h + 1) cpN)) A s3 ∧ Gz s s1 s3 (t + 1)) := Hid.mk ⟨_, H6.out.two hth (fun j hj => by have := (G2.out.J j).1 hj; omega) HM2.out hk7 hl7 ho7 rfl rfl (by omega) (by omega) (al_keep A2.out ((Kept.refl [] wy).drew)) (al_keep (own_al O2.out) ((Kept.refl [] wy).drew)) (bl := (Value.slice aoV (m + x) cpV).ownBlock.toList ++ (Value.slice ao2 (m + x + 70) cp2).ownBlock.toList) (fun a e => by subst e; simp [Value.ownBlock]) (fun a e => by subst e; simp [Value.ownBlock]) (by simpa using B2.out), G2.out.step ht0 hlt2 _ _ _ _ _⟩
                  clear ho7 hk7 hl7 hk3 b7 H6
                  go_upto_region 27 with (fail)
                  go_region_law (refine step_app rfl (.tmp 166) (.tmp 177) 32 rfl _ _ _ _ rfl rfl hrun ?_)
                  all_goals
                    go_wp2
                    obtain ⟨s3, b3, z3⟩ := FN.out
                    exact ⟨⟨t + 1, by omega, by omega, by go_num, s3, b3, z3⟩, by simp [intOf]; omega⟩
        · obtain rfl : s1.h = t := by omega
          have P0 := Hid.mk (Pz.start HR.out F1.out G2.out)
          have en2 : s2.n = s.n := G2.out.n.trans F1.out.n
          have ek2 : s2.kn = s.kn := G2.out.kn.trans F1.out.kn
          have hn8 := HR.out.n8
          obtain ⟨⟨c0, -, c2⟩, -⟩ := H2.out.cells
          obtain ⟨aoS2, cpS2, eS2⟩ := row_form H2.out.held
          rw [eS2] at c0
          obtain ⟨aoO2, cpO2, eO2⟩ := row_form H2.out.out
          rw [eO2] at c2
          have E2 := Hid.mk (And.intro en2 ek2)
          clear eS2 eO2 en2 ek2
          go_wp2
          clear c0 c2
          go_loopw [13] (fun t wr => ∃ i : Nat, i ≤ s.n ∧ t = .int .i64 (i : Int) ∧ ∃ s3, BAt W wr A s3 ∧ Pz s2 s3 i 0) (fun t _ => s.n - (intOf t).toNat)
          case atStart => exact ⟨0, by omega, rfl, s2, H2.out, P0.out⟩
          case round =>
            obtain ⟨i3, hi3, rfl, s3, hB, hP⟩ := hrel
            obtain ⟨wo3, ewo⟩ : ∃ wo3, wo3 = wr := ⟨_, rfl⟩
            subst ewo
            have H3 := Hid.mk hB
            have P3 := Hid.mk hP
            obtain ⟨⟨-, -, c2⟩, -⟩ := hB.cells
            obtain ⟨aoO3, cpO3, eO3⟩ := row_form hB.out
            rw [eO3, hP.r, E2.out.1] at c2
            clear hB hP eO3
            by_cases hlt3 : i3 < s.n
            · have ix3 : (i3 : Int) < (s.n : Int) := by omega
              have hk8 := HR.out.k8 i3
              go_wp2
              clear c2
              go_loopw [14] (fun t wr => ∃ k : Nat, k ≤ s.kn i3 ∧ t = .int .i64 (k : Int) ∧ ∃ s4, BAt W wr A s4 ∧ Pz s2 s4 i3 k) (fun t _ => s.kn i3 - (intOf t).toNat)
              case atStart => exact ⟨0, by omega, rfl, s3, H3.out, P3.out⟩
              case round =>
                obtain ⟨k3, hk3, rfl, s4, hB, hP⟩ := hrel
                obtain ⟨wp3, ewp⟩ : ∃ wp3, wp3 = wr := ⟨_, rfl⟩
                subst ewp
                have H4 := Hid.mk hB
                have P4 := Hid.mk hP
                have hn4 : i3 < s4.n := by rw [hP.n, E2.out.1]; exact hlt3
                have hr4 : i3 < s4.r := by rw [hP.r, E2.out.1]; exact hlt3
                have ekn : s4.kn i3 = s.kn i3 := by rw [hP.kn, if_neg (Nat.lt_irrefl _), E2.out.2]
                have erl : s4.rl i3 = s.kn i3 := by rw [hP.rl i3 (by rw [E2.out.1]; exact hlt3), ekn]
                obtain ⟨⟨-, -, c2⟩, -⟩ := hB.cells
                obtain ⟨gO, cpO, eO, y0, -⟩ := own_cell hB.out i3 hr4
                rw [eO, hP.r, E2.out.1] at c2
                rw [hP.ov i3 (by rw [E2.out.1]; exact hlt3)] at y0
                obtain ⟨aoR, cpR, eR⟩ := row_form (hB.row i3 hn4)
                rw [eR, erl] at y0
                have EO := Hid.mk eO
                have ER := Hid.mk eR
                have EK := Hid.mk (And.intro ekn (And.intro erl (And.intro hn4 hr4)))
                clear hB hP eO eR ekn erl hn4 hr4
                by_cases hkl : k3 < s.kn i3
                · have ixk : (k3 : Int) < (s.kn i3 : Int) := by omega
                  obtain ⟨gR, cpR', eR', y1, y2⟩ := own_cell (H4.out.row i3 EK.out.2.2.1) k3 (by rw [EK.out.2.1]; exact hkl)
                  obtain ⟨rfl, rfl⟩ : aoR = some ⟨gR, 0, none⟩ ∧ cpR = cpR' := by have := ER.out.symm.trans eR'; simp at this; exact this
                  obtain ⟨wa, ea⟩ : ∃ wa, wp3.alloc (.cells #[.int .u16 9] 65) = wa := ⟨_, rfl⟩
                  have ka : Kept [] wp3 wa := by rw [← ea]; exact (Kept.refl [] wp3).alloc _
                  have z1 := cell_keep ka y1 (by simp)
                  have z2 : wa.frozen? ⟨gR, k3, none⟩ = false := by
                    have h9 := (H4.out.keep ka).row i3 EK.out.2.2.1
                    obtain ⟨g', c', e', -, q⟩ := own_cell h9 k3 (by rw [EK.out.2.1]; exact hkl)
                    obtain ⟨rfl, rfl⟩ : gR = g' ∧ cpR = c' := by have := ER.out.symm.trans e'; simp at this; exact this
                    exact q
                  have FN : Hid (BAt W (wa.setCell ⟨gR, k3, none⟩ (.slice (some ⟨wp3.heap.size, 0, none⟩) 1 1)) A ((s4.one i3 k3 (zlf .u16 65 (some ⟨wp3.heap.size, 0, none⟩) 1 (fun _ => 9))).setl i3 k3 (.slice (some ⟨wp3.heap.size, 0, none⟩) 1 1))) := Hid.mk (by rw [← ea]; exact H4.out.nine EK.out.2.2.1 (by rw [EK.out.1]; exact hkl) (by rw [EK.out.2.1]; exact hkl) gR cpR (by rw [EK.out.2.1]; exact ER.out.trans (by rw [EK.out.2.1])))
                  clear eR' ka
                  go_wp2
                  exact ⟨⟨k3 + 1, by omega, by go_num, _, FN.out, P4.out.nine _⟩, by simp [intOf]; omega⟩
                · have hkk : k3 = s.kn i3 := by omega
                  have P5 := Hid.mk P4.out
                  rw [hkk, ← E2.out.2] at P5
                  obtain ⟨wa, wb, wc, bo, c, w7, ea, eb, ec, hrun, g1, ⟨u7, g2⟩, g3, s5, b5, p5⟩ := H4.out.nines P5.out (by rw [E2.out.1]; exact hlt3) (by rw [E2.out.2]; omega) gO cpO EO.out EK.out.2.2.2
                  rw [ER.out, EK.out.2.1, E2.out.2] at hrun
                  rw [E2.out.2] at b5
                  rw [EO.out, P4.out.r, E2.out.1] at g1
                  have FN := Hid.mk (And.intro b5 p5)
                  have ca := cell_keep (show Kept [] wp3 wa by rw [← ea]; exact (Kept.refl [] wp3).alloc _) c2 (by simp)
                  clear b5 p5 P5 hkk
                  go_wp2_with (at_builtin; refine wpList_eq rfl _ _ 36 rfl _ _ _ _ rfl rfl hrun ?_)
                  exact ⟨⟨i3 + 1, by omega, by go_num, s5, FN.out.1, FN.out.2⟩, by simp [intOf]; omega⟩
            · obtain rfl : i3 = s.n := by omega
              have P5 := Hid.mk P3.out
              rw [← E2.out.1] at P5
              obtain ⟨D1, D2, D3, D4⟩ := Dn.of HR.out F1.out G2.out P5.out
              have hh3 := D1.h
              have LK := Hid.mk (looks_any W wo3 A s3 H3.out D2 (by omega) D1.r D1.rl D1.ov (by rw [D1.n]; omega) D3 D4)
              have DD := Hid.mk D1
              clear D1 D2 D3 D4 P5 hh3
              go_wp2_with (fail)
              refine LK.out.mono ?_
              rintro e w9 ⟨rfl, b9⟩
              have B9 := Hid.mk b9
              clear b9 LK
              go_wp2
              go_ret
              exact ⟨rfl, s3, B9.out, DD.out⟩
end Go.Proofs.Ythihennifigchaa.Bx
