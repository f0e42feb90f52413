import Derived.Test.YtodlkpcbkilglaaDoorNwZ
import Derived.Test.YtodlkpcbkilglaaDoorsBSZ
import Derived.Test.YtodlkpcbkilglaaDoorPo
import Derived.Test.YtodlkpcbkilglaaDoorAlZ
import Derived.Test.YtodlkpcbkilglaaDoorB2Z
import Derived.Deep.RegionHeldLaw
namespace Go.Proofs.YtodlkpcbkilglaaDoor
open Go.RowKit Go.Shelf

/-- A book of samples that is written into, from a world on in which all its lists stand. -/
def BkS (w14 w : World) (Bk n : Nat) (V : Nat → Value) (ls : Nat → List Nat) : Prop := ∃ vl vw U, B6.Bks w Bk n vl vw V U ls ∧ Kept [Bk] w14 w ∧ (∀ g, vl.ownBlock = some g → w14.heap.size ≤ g) ∧ (∀ g, vw.ownBlock = some g → w14.heap.size ≤ g)
theorem bks_new {w : World} {Bk : Nat} (h : w.heap[Bk]? = some (.cells #[.slice none 0 0, .slice none 0 0] 46 (0, 0))) (V : Nat → Value) (ls : Nat → List Nat) : BkS w w Bk 0 V ls :=
  ⟨_, _, V, B6.Bks.empty h V V ls, Kept.refl _ _, fun g hg => by simp [Value.ownBlock] at hg, fun g hg => by simp [Value.ownBlock] at hg⟩
theorem BkS.keep {w14 w w' : World} {Bk n : Nat} {V : Nat → Value} {ls : Nat → List Nat} (h : BkS w14 w Bk n V ls) (hk : Kept [] w w') : BkS w14 w' Bk n V ls := by
  obtain ⟨vl, vw, U, h1, h2, h3, h4⟩ := h
  exact ⟨vl, vw, U, h1.keep hk, h2.step hk (by simp), h3, h4⟩
theorem upd_self6 {α : Type} (f : Nat → α) (n : Nat) : B6.upd f n (f n) = f := by
  funext i
  unfold B6.upd
  split
  · rename_i e; rw [e]
  · rfl
/-- Blocks of other types than t, but one, stand. -/
def KpT (t Bk : Nat) (u u' : World) : Prop := ∀ g cs s, s ≠ t → g ≠ Bk → u.heap[g]? = some (.cells cs s (0, 0)) → u'.heap[g]? = some (.cells cs s (0, 0))
theorem bks_keep (w14 w : World) (Bk n : Nat) (V : Nat → Value) (ls : Nat → List Nat) (h : BkS w14 w Bk n V ls) (hv : B6.Lst w14 (V n) (ls n)) (hB : (V n).ownBlock ≠ some Bk) (hap : ∀ i, i < n → ∀ g, (V i).ownBlock = some g → (V n).ownBlock ≠ some g) (hn : n ≤ 100) (hl : (ls n).length ≤ 70368744177664) :
    Calls Tryd.prog 50 #[.pointer (some ⟨Bk, 0, none⟩), V n] w fun e w' => e = .returned (.tuple #[]) ∧ BkS w14 w' Bk (n + 1) V ls ∧ KpT 68 Bk w w' := by
  obtain ⟨vl, vw, U, h1, h2, h3, h4⟩ := h
  refine (B6.keep_bks Bk n vl vw (V n) V U ls (ls n) w h1 (hv.kept h2 (fun g hg => by simp; intro e; exact hB (e ▸ hg))) hap (by omega) hl).mono ?_
  rintro e w' ⟨rfl, vl', vw', u, g1, g2, g3, g4⟩
  rw [upd_self6, upd_self6] at g1
  refine ⟨rfl, ⟨vl', vw', _, g1, h2.step g4 (fun x hx => ?_), fun g hg => ?_, fun g hg => ?_⟩, fun g cs s hs hg hc => g4.heap hc (fun hm => ?_)⟩
  · simp only [List.mem_cons, List.mem_append, B6.mem_own] at hx
    rcases hx with e | e | e
    · subst e; exact .inl (by simp)
    · exact .inr (h3 x e)
    · exact .inr (h4 x e)
  · rcases g2 with e | ⟨g', e, h⟩
    · exact h3 g (e ▸ hg)
    · rw [e] at hg; cases hg; exact Nat.le_trans h2.size h
  · rcases g3 with e | ⟨g', e, h⟩
    · exact h4 g (e ▸ hg)
    · rw [e] at hg; cases hg; exact Nat.le_trans h2.size h
  · simp only [List.mem_cons, List.mem_append, B6.mem_own] at hm
    rcases hm with e | e | e
    · exact hg e
    · exact B6.own_ne2 hc hs h1.l e
    · exact B6.own_ne2 hc hs h1.was e
/-- A book's end. -/
theorem bks_ends (wc w14 w : World) (Bk n : Nat) (V : Nat → Value) (ls : Nat → List Nat) (h : BkS w14 w Bk n V ls) (hk : Kept [] wc w14) (hn0 : 0 < n) (hn : n ≤ 100) (hl : ∀ i, (ls i).length ≤ 70368744170000) (hV : ∀ i, i < n → ∀ g, (V i).ownBlock = some g → wc.heap.size ≤ g) :
    Calls Tryd.prog 28 #[.pointer (some ⟨Bk, 0, none⟩)] w fun e w' => e = .returned (.bool true) ∧ Kept [Bk] wc w' ∧ KpT 70 Bk w w' := by
  obtain ⟨vl, vw, U, h1, h2, h3, h4⟩ := h
  obtain ⟨gl, cl, gw, cw, hb⟩ := h1.done hn0
  refine (B6.ends_any Bk gl cl gw cw n V U ls w hn0 (by omega) hl hb).mono ?_
  rintro e w' ⟨rfl, _, k2⟩
  refine ⟨rfl, ((hk.mono (by simp)).trans h2).step k2 (fun x hx => ?_), fun g cs s hs hg hc => k2.heap hc (fun hm => ?_)⟩
  · simp only [List.mem_cons] at hx
    rcases hx with e | e
    · subst e; exact .inl (by simp)
    · obtain ⟨i, hi, hg⟩ := B6.mem_blk.1 e
      exact .inr (hV i hi x hg)
  · simp only [List.mem_cons] at hm
    rcases hm with e | e
    · exact hg e
    · obtain ⟨i, hi, hgi⟩ := B6.mem_blk.1 e
      obtain ⟨cs', hcs⟩ := (hb.v i hi).own hgi
      rw [hcs] at hc
      simp at hc
      exact hs hc.2.symm
/-- Lists that were told, each in a block of its own, all behind a world. -/
def AccS (wc u : World) (k : Nat) (V : Nat → Value) (ls : Nat → List Nat) : Prop := ∀ i, i < k → B6.Lst u (V i) (ls i) ∧ (∀ g, (V i).ownBlock = some g → wc.heap.size ≤ g) ∧ ∀ j, j < i → ∀ g, (V j).ownBlock = some g → (V i).ownBlock ≠ some g
theorem AccS.keep {wc u u' : World} {k : Nat} {V : Nat → Value} {ls : Nat → List Nat} (h : AccS wc u k V ls) (hk : Kept [] u u') : AccS wc u' k V ls := fun i hi => ⟨(h i hi).1.keep hk, (h i hi).2⟩
/-- A frame's rows among them. -/
theorem AccS.frame {wc u u1 u2 : World} {k n G : Nat} {V : Nat → Value} {ls : Nat → List Nat} {bs ln : Nat → Nat} {F : Nat → Nat → Nat} (h : AccS wc u k V ls) (hw : Kept [] wc u) (hk : Kept [] u u1) (hf : Fw u1.heap.size u2 G bs n ln F) (hk2 : Kept [] u1 u2) :
    AccS wc u2 (k + n) (fun i => if i < k then V i else .slice (some ⟨bs (i - k), 0, none⟩) (ln (i - k)) (ln (i - k))) (fun i => if i < k then ls i else (List.range (ln (i - k))).map (F (i - k))) := by
  intro i hi
  by_cases e : i < k
  · simp only [if_pos e]
    refine ⟨(h i e).1.keep (hk.trans hk2), (h i e).2.1, fun j hj g hg => ?_⟩
    rw [if_pos (by omega)] at hg
    exact (h i e).2.2 j hj g hg
  · simp only [if_neg e]
    have hin : i - k < n := by omega
    have hgt := hf.gt _ hin
    have hlo := hf.lo
    refine ⟨.inr ⟨bs (i - k), by simp, ?_⟩, fun g hg => ?_, fun j hj g hg => ?_⟩
    · have hr := hf.row _ hin
      unfold Row at hr
      rw [hr]
      congr 2
      simp [fl, vU, byt]
    · simp [Value.ownBlock] at hg
      have := (hw.trans hk).size
      omega
    · by_cases e2 : j < k
      · rw [if_pos e2] at hg
        obtain ⟨cs, hcs⟩ := ((h j e2).1.keep hk).own hg
        have := lt_of_block hcs
        simp [Value.ownBlock]
        omega
      · rw [if_neg e2] at hg
        simp [Value.ownBlock] at hg ⊢
        have := hf.mon (j - k) (i - k) (by omega) hin
        omega
theorem accs_book {wc w14 : World} {Bk N : Nat} {V : Nat → Value} {ls : Nat → List Nat} (hA : AccS wc w14 N V ls) (hk : Kept [] wc w14) (hB : Bk < wc.heap.size) (hN0 : 0 < N) (hN : N ≤ 100) (hl : ∀ i, (ls i).length ≤ 1000000000) :
    (∀ k, k < N → ∀ u, BkS w14 u Bk k V ls → Calls Tryd.prog 50 #[.pointer (some ⟨Bk, 0, none⟩), V k] u fun e u' => e = .returned (.tuple #[]) ∧ BkS w14 u' Bk (k + 1) V ls ∧ KpT 68 Bk u u') ∧
    ∀ u, BkS w14 u Bk N V ls → Calls Tryd.prog 28 #[.pointer (some ⟨Bk, 0, none⟩)] u fun e u' => e = .returned (.bool true) ∧ Kept [Bk] wc u' ∧ KpT 70 Bk u u' := by
  refine ⟨fun k hkN u hb => bks_keep w14 u Bk k V ls hb (hA k hkN).1 (fun e => ?_) (hA k hkN).2.2 (by omega) (Nat.le_trans (hl k) (by decide)), fun u hb => bks_ends wc w14 u Bk N V ls hb hk hN0 hN (fun i => Nat.le_trans (hl i) (by decide)) (fun i hi => (hA i hi).2.1)⟩
  have := (hA k hkN).2.1 Bk e
  omega

set_option maxHeartbeats 4000000 in
set_option maxRecDepth 1000000 in
/-- A frame's planes go into the book. -/
theorem held_any (w14 : World) (Bk k n N c : Nat) (W H D : Int) (A : Bool) (po : Option Addr) (V : Nat → Value) (ls : Nat → List Nat) (hBk : Bk < w14.heap.size) (hkN : k + n ≤ N) (hN : N ≤ 100)
    (CK : ∀ j, j < N → ∀ u, BkS w14 u Bk j V ls → Calls Tryd.prog 50 #[.pointer (some ⟨Bk, 0, none⟩), V j] u fun e u' => e = .returned (.tuple #[]) ∧ BkS w14 u' Bk (j + 1) V ls ∧ KpT 68 Bk u u')
    (hP : n = 0 ∨ ∃ G, po = some ⟨G, 0, none⟩ ∧ G ≠ Bk ∧ ∀ i, i < n → w14.cell? ⟨G, i, none⟩ = some (V (k + i))) (u : World) (hb : BkS w14 u Bk k V ls) :
    Calls Tryd.prog 27 #[.pointer (some ⟨Bk, 0, none⟩), frv W H D A po n c] u fun e u' => e = .returned (.tuple #[]) ∧ BkS w14 u' Bk (k + n) V ls := by
  have CK := Hid.mk CK
  have hB0 := heap_alloc_new u (.cells #[.int .i64 W, .int .i64 H, .int .i64 D, .bool A, .slice po n c] 31)
  have hk0 := alloc_kept u (.cells #[.int .i64 W, .int .i64 H, .int .i64 D, .bool A, .slice po n c] 31)
  have hus : w14.heap.size ≤ u.heap.size := by obtain ⟨_, _, _, _, h2, _⟩ := hb; exact h2.size
  have HB := Hid.mk (hb.keep hk0)
  obtain ⟨wa, ewa⟩ : ∃ wa, wa = u.alloc (.cells #[.int .i64 W, .int .i64 H, .int .i64 D, .bool A, .slice po n c] 31) := ⟨_, rfl⟩
  rw [← ewa] at hB0 hk0 HB
  obtain ⟨b, eb⟩ : ∃ b, b = u.heap.size := ⟨_, rfl⟩
  rw [← eb] at hB0
  have hbB : b ≠ Bk := by omega
  have HX := Hid.mk hB0
  have HP := Hid.mk hP
  obtain ⟨⟨p0, p1, p2, p3, p4⟩, _⟩ := five hB0
  clear hB0 hk0 hb hus hP
  go_enter Tryd.func27, Tryd.ntmps27
  go_wp2_with (fail)
  rw [← ewa, ← eb]
  clear ewa eb p0 p1 p2 p3 p4
  go_loopw [4] (fun i wr => ∃ j : Nat, j ≤ n ∧ i = .int .i64 (j : Int) ∧ BkS w14 wr Bk (k + j) V ls ∧ wr.heap[b]? = some (.cells #[.int .i64 W, .int .i64 H, .int .i64 D, .bool A, .slice po n c] 31 (0, 0))) (fun i _ => n - (intOf i).toNat)
  case atStart => exact ⟨0, by omega, rfl, HB.out, HX.out⟩
  case round =>
    obtain ⟨j, hj, rfl, hS, hx⟩ := hrel
    have HS := Hid.mk hS
    have HY := Hid.mk hx
    obtain ⟨⟨p0, p1, p2, p3, p4⟩, _⟩ := five hx
    clear hS hx
    by_cases hlt : j < n
    · have ix : (j : Int) < (n : Int) := by omega
      obtain ⟨G, rfl, hG, hc⟩ := HP.out.resolve_left (by omega)
      have hc1 : wr.cell? ⟨G, j, none⟩ = some (V (k + j)) := by
        obtain ⟨_, _, _, _, h2, _⟩ := HS.out
        exact cell_keep h2 (hc j hlt) (by simpa using hG)
      obtain ⟨v, ev⟩ : ∃ v, V (k + j) = v := ⟨_, rfl⟩
      have C := Hid.mk (CK.out (k + j) (by omega) _ HS.out)
      rw [ev] at hc1 C
      clear hc ev
      go_wp2_with (fail)
      refine C.out.mono ?_
      rintro e wx ⟨rfl, hS2, hK⟩
      have hx2 := hK b _ _ (by decide) hbB HY.out
      have HS2 := Hid.mk hS2
      have HX2 := Hid.mk hx2
      clear hS2 hK hx2 p0 p1 p2 p3 p4 hc1
      go_wp2_with (fail)
      exact ⟨⟨j + 1, by omega, by go_num, HS2.out, HX2.out⟩, by simp [intOf]; omega⟩
    · obtain rfl : j = n := by omega
      go_wp2_with (fail)
      go_end0
      exact ⟨rfl, HS.out⟩
end Go.Proofs.YtodlkpcbkilglaaDoor

namespace Go.Proofs.YtodlkpcbkilglaaDoor
open Go.RowKit Go.Shelf

/-- A slice of n bytes that are all c: it is full and old, or it lies in memory that is new to W0. -/
def GrowL (W0 w : World) (v : Value) (n : Nat) (c : Value) : Prop :=
  (∃ ao, v = .slice ao n n ∧ (ao = none → n = 0) ∧ ∀ b, ao = some b → ∀ j u, (List.replicate n c)[j]? = some u → w.cell? (b.add j) = some u) ∨ w.ownsRow W0.heap.size 68 1 v n (List.replicate n c)

theorem GrowL.alloc {W0 w : World} {v : Value} {n : Nat} {c : Value} (h : GrowL W0 w v n c) (o : Obj) : GrowL W0 (w.alloc o) v n c := by
  rcases h with ⟨ao, hv, h1, h2⟩ | h
  · refine .inl ⟨ao, hv, h1, fun b hb j u hu => ?_⟩
    have hc := h2 b hb j u hu
    have hlt := World.block_lt_of_cell? w _ hc
    rw [World.cell?_of_block (w := w) (Below.heap_alloc w o _ hlt)]
    exact hc
  · exact .inr (h.alloc o)

/-- One more of them is appended. -/
theorem wpList_growL (w : World) {ops : Array Oper} {rest : List Oper} {o : Oper} {a : Act} {Q : Exit → Act → World → Prop} (hgd : o.guard = none) (s x : Operand)
    (ho : o.op = .call { callee := .builtin .append, args := #[s, x], argTypes := #[29, 29] }) (W0 : World) (hk : Kept [] W0 w) (v : Value) (n : Nat) (c : Value) (hc1 : c.oneCell' = true) (hs : a.eval s = v) (hG : GrowL W0 w v n c)
    (ad : Addr) (hx : a.eval x = .slice (some ad) 1 1) (hnews : ∀ j u, [c][j]? = some u → w.cell? (ad.add j) = some u) (hn : n + 1 ≤ 1000000)
    (h : ∀ v' w', w'.ownsRow W0.heap.size 68 1 v' (n + 1) (List.replicate (n + 1) c) → Kept [] W0 w' → wpList Tryd.prog ops Q rest (a.put o.dst v') w') : wpList Tryd.prog ops Q (o :: rest) a w := by
  obtain ⟨i0, hi, hz0, hz1, hz2⟩ := info_parts Tryd.infoR
  have h1 : ∀ u ∈ [c], u.oneCell' = true := by intro u hu; simp at hu; subst hu; exact hc1
  have hrep : List.replicate (n + 1) c = List.replicate n c ++ [c] := by rw [List.replicate_succ']
  rcases hG with ⟨ao, hv, hnone, hold⟩ | hown
  · subst hv
    refine wpList_append_grows w hgd s x 29 ho 68 i0 (.slice none 0 0) 1 24 Tryd.underlying29 hi hz0 hz1 hz2 rfl (by decide) ao n n (List.replicate n c) hs (fun e => ⟨hnone e, hnone e⟩) (by simp) hold ad 1 1 [c] hx (by simp) hnews h1 (by omega) (by unfold maxLen; omega) (by omega) ?_
    intro v' w' ho' hg'
    refine h v' w' ?_ (hk.step (Kept.of_grown hg') (by simp))
    rw [hrep]
    have hsz := hk.size
    refine ⟨ho'.1, ?_⟩
    rcases ho'.2 with h2 | ⟨g, cap, cur, e1, e2, e3⟩
    · exact .inl h2
    · exact .inr ⟨g, cap, cur, e1, by omega, e3⟩
  · refine wpList_append_own_at w hgd s x 29 ho W0.heap.size 68 i0 (.slice none 0 0) 1 24 Tryd.underlying29 hi hz0 hz1 hz2 rfl (by decide) v n _ hs hown ad 1 1 [c] hx (by simp) hnews h1 (by unfold maxLen; omega) (by omega) hk.size ?_
    intro v' w' ho' hg' _ _
    refine h v' w' (by rw [hrep]; exact ho') (hk.step (Kept.of_grown hg') ?_)
    intro y hy
    rw [B6.mem_own] at hy
    exact .inr (hown.lt y hy).1


/-- A list of lists that fills its block, or nil. -/
def OwL (w : World) (ao : Option Addr) (l : List Value) : Prop := (ao = none → l = []) ∧ ∀ b, ao = some b → ∃ G, b = ⟨G, 0, none⟩ ∧ w.heap[G]? = some (.cells l.toArray 68 (0, 0))
def oB (ao : Option Addr) : List Nat := ao.toList.map (·.block)
theorem OwL.kept {w w' : World} {ao : Option Addr} {l : List Value} {ks : List Nat} (h : OwL w ao l) (hk : Kept ks w w') (hn : ∀ b, ao = some b → b.block ∉ ks) : OwL w' ao l := by
  refine ⟨h.1, fun b hb => ?_⟩
  obtain ⟨G, rfl, hg⟩ := h.2 b hb
  exact ⟨G, rfl, hk.heap hg (hn _ hb)⟩
theorem OwL.keep {w w' : World} {ao : Option Addr} {l : List Value} (h : OwL w ao l) (hk : Kept [] w w') : OwL w' ao l := h.kept hk (by simp)
theorem OwL.grow {w : World} {ao : Option Addr} {n : Nat} {c : Value} (h : OwL w ao (List.replicate n c)) : GrowL w w (.slice ao n n) n c := by
  refine .inl ⟨ao, rfl, fun e => ?_, fun b hb j u hu => ?_⟩
  · have := congrArg List.length (h.1 e)
    simpa using this
  · obtain ⟨G, rfl, hg⟩ := h.2 b hb
    rw [show (⟨G, 0, none⟩ : Addr).add j = ⟨G, 0 + j, none⟩ by unfold Addr.add; split <;> simp_all, Nat.zero_add, cell_of_row _ _ _ _ _ _ hg, List.getElem?_toArray]
    exact hu
theorem fill_two (l : List Value) (m : Value) (k : Nat) (hk : k < l.length) : (List.replicate k m ++ l.drop k).set k m = List.replicate (k + 1) m ++ l.drop (k + 1) := by
  have h1 : l.drop k = l[k] :: l.drop (k + 1) := List.drop_eq_getElem_cons hk
  rw [h1, B6.set_mid _ _ _ _ k (by simp), List.replicate_succ']
  simp
theorem own_some {w : World} {base e n : Nat} {v : Value} {xs : List Value} (h : w.ownsRow base e 1 v n xs) (hn : 0 < n) : ∃ g cap, v = .slice (some ⟨g, 0, none⟩) n cap := by
  rcases h.2 with ⟨_, h1⟩ | ⟨g, cap, cur, h1, _⟩
  · omega
  · exact ⟨g, cap, h1⟩

set_option maxHeartbeats 8000000 in
set_option maxRecDepth 1000000 in
/-- The lists of two frames, written over and made longer. -/
theorem outer_any (ao bo : Option Addr) (n m : Nat) (la lb : List Value) (w : World) (hla : la.length = n) (hlb : lb.length = m) (hn : n ≤ 100) (hm : m ≤ 100) (ha : OwL w ao la) (hb : OwL w bo lb) (hap : ∀ b b', ao = some b → bo = some b' → b.block ≠ b'.block) :
    Calls Tryd.prog 29 #[.slice ao n n, .slice bo m m] w fun e w' => e = .returned (.bool true) ∧ Kept (oB ao ++ oB bo) w w' ∧ (∃ l, l.length = n ∧ OwL w' ao l) ∧ ∃ l, l.length = m ∧ OwL w' bo l := by
  have hX0 := heap_alloc_new w (.cells #[.int .u16 1] 70)
  have hk1 := alloc_kept w (.cells #[.int .u16 1] 70)
  have hY := heap_alloc_new (w.alloc (.cells #[.int .u16 1] 70)) (.cells #[.int .u16 2] 70)
  have hk2 := alloc_kept (w.alloc (.cells #[.int .u16 1] 70)) (.cells #[.int .u16 2] 70)
  have hX := hk2.heap hX0 (by simp)
  rw [World.size_alloc] at hY
  have hk0 := hk1.trans hk2
  have ha := ha.keep hk0
  have hb := hb.keep hk0
  obtain ⟨wa, ewa⟩ : ∃ wa, wa = (w.alloc (.cells #[.int .u16 1] 70)).alloc (.cells #[.int .u16 2] 70) := ⟨_, rfl⟩
  rw [← ewa] at hX hY hk0 ha hb
  obtain ⟨X, eX⟩ : ∃ X, X = w.heap.size := ⟨_, rfl⟩
  obtain ⟨Y, eY⟩ : ∃ Y, Y = w.heap.size + 1 := ⟨_, rfl⟩
  rw [← eX] at hX
  rw [← eY] at hY
  have HX := Hid.mk (And.intro hX hY)
  have HK := Hid.mk hk0
  have HA := Hid.mk ha
  have HB := Hid.mk hb
  have HAP := Hid.mk hap
  have HLA := Hid.mk hla
  have HLB := Hid.mk hlb
  clear hX0 hk1 hY hk2 hX hk0 ha hb hap hla hlb
  go_enter Tryd.func29, Tryd.ntmps29
  go_wp2
  rw [← ewa, ← eX, show X + 1 = Y by omega]
  clear ewa eX eY
  go_loopw [7] (fun i wr => ∃ k : Nat, k ≤ n ∧ i = .int .i64 (k : Int) ∧ OwL wr ao (List.replicate k (Value.slice (some ⟨X, 0, none⟩) 1 1) ++ la.drop k) ∧ Kept (oB ao) wa wr) (fun i _ => n - (intOf i).toNat)
  case atStart => exact ⟨0, by omega, rfl, by simpa using HA.out, Kept.refl _ _⟩
  case round =>
    obtain ⟨k, hk, rfl, hO, hkr⟩ := hrel
    have HO := Hid.mk hO
    have HKR := Hid.mk hkr
    clear hO hkr
    by_cases hlt : k < n
    · have ix : (k : Int) < (n : Int) := by omega
      obtain ⟨b0, rfl⟩ : ∃ b0, ao = some b0 := by
        cases e : ao with
        | none => have := congrArg List.length (HO.out.1 e); simp at this; have := HLA.out; omega
        | some b0 => exact ⟨b0, rfl⟩
      obtain ⟨G, rfl, hg⟩ := HO.out.2 _ rfl
      have hll : (List.replicate k (Value.slice (some ⟨X, 0, none⟩) 1 1) ++ la.drop k).length = n := by have := HLA.out; simp; omega
      obtain ⟨u, hu⟩ := row_cell_at hg (j := k) (by rw [hll]; exact hlt)
      have hfz : wr.frozen? ⟨G, k, none⟩ = false := by simp [World.frozen?, hg]
      have HS : Hid (OwL (wr.setCell ⟨G, k, none⟩ (Value.slice (some ⟨X, 0, none⟩) 1 1)) (some ⟨G, 0, none⟩) (List.replicate (k + 1) (Value.slice (some ⟨X, 0, none⟩) 1 1) ++ la.drop (k + 1))) := Hid.mk ⟨fun e => by simp at e, fun b hb => ⟨G, by simpa using hb.symm, by
        rw [heap_setCell_at hg, List.setIfInBounds_toArray, fill_two _ _ _ (by rw [HLA.out]; exact hlt)]⟩⟩
      have HK2 := Hid.mk (HKR.out.setCell (p := ⟨G, k, none⟩) (.inl (by simp [oB])) (Value.slice (some ⟨X, 0, none⟩) 1 1))
      clear hg hll
      go_wp2
      exact ⟨⟨k + 1, by omega, by go_num, HS.out, HK2.out⟩, by simp [intOf]; omega⟩
    · obtain rfl : k = n := by omega
      have HO1 : Hid (OwL wr ao (List.replicate k (Value.slice (some ⟨X, 0, none⟩) 1 1))) := Hid.mk (by
        have := HO.out
        rw [List.drop_eq_nil_of_le (by rw [HLA.out]; exact Nat.le_refl _), List.append_nil] at this
        exact this)
      have HB1 : Hid (OwL wr bo lb) := Hid.mk (HB.out.kept HKR.out (fun b hb hm => by
        simp only [oB, List.mem_map, Option.mem_toList] at hm
        obtain ⟨b', hb', e⟩ := hm
        exact HAP.out b' b hb' hb e))
      have HK1 := Hid.mk ((HK.out.mono (l2 := oB ao) (by simp)).trans HKR.out)
      have HX1 := Hid.mk (And.intro (HKR.out.heap HX.out.1 (fun hm => by
        simp only [oB, List.mem_map, Option.mem_toList] at hm
        obtain ⟨b', hb', e⟩ := hm
        obtain ⟨G, rfl, hg⟩ := HA.out.2 b' hb'
        have e' : G = X := e
        subst e'
        have := HX.out.1
        rw [hg] at this
        simp at this)) (HKR.out.heap HX.out.2 (fun hm => by
        simp only [oB, List.mem_map, Option.mem_toList] at hm
        obtain ⟨b', hb', e⟩ := hm
        obtain ⟨G, rfl, hg⟩ := HA.out.2 b' hb'
        have e' : G = Y := e
        subst e'
        have := HX.out.2
        rw [hg] at this
        simp at this)))
      clear HO HKR HA HB HX HK
      go_wp2
      obtain ⟨wb, ewb⟩ : ∃ wb, wb = wr := ⟨_, rfl⟩
      rw [← ewb] at HO1 HB1 HK1 HX1 ⊢
      clear ewb
      go_loopw [8] (fun i wr => ∃ j : Nat, j ≤ m ∧ i = .int .i64 (j : Int) ∧ OwL wr bo (List.replicate j (Value.slice (some ⟨Y, 0, none⟩) 1 1) ++ lb.drop j) ∧ Kept (oB bo) wb wr) (fun i _ => m - (intOf i).toNat)
      case atStart => exact ⟨0, by omega, rfl, by simpa using HB1.out, Kept.refl _ _⟩
      case round =>
        obtain ⟨j, hj, rfl, hO, hkr⟩ := hrel
        have HO := Hid.mk hO
        have HKR := Hid.mk hkr
        clear hO hkr
        by_cases hlt : j < m
        · have ix : (j : Int) < (m : Int) := by omega
          obtain ⟨b0, rfl⟩ : ∃ b0, bo = some b0 := by
            cases e : bo with
            | none => have := congrArg List.length (HO.out.1 e); simp at this; have := HLB.out; omega
            | some b0 => exact ⟨b0, rfl⟩
          obtain ⟨G, rfl, hg⟩ := HO.out.2 _ rfl
          have hll : (List.replicate j (Value.slice (some ⟨Y, 0, none⟩) 1 1) ++ lb.drop j).length = m := by have := HLB.out; simp; omega
          obtain ⟨u, hu⟩ := row_cell_at hg (j := j) (by rw [hll]; exact hlt)
          have hfz : wr.frozen? ⟨G, j, none⟩ = false := by simp [World.frozen?, hg]
          have HS : Hid (OwL (wr.setCell ⟨G, j, none⟩ (Value.slice (some ⟨Y, 0, none⟩) 1 1)) (some ⟨G, 0, none⟩) (List.replicate (j + 1) (Value.slice (some ⟨Y, 0, none⟩) 1 1) ++ lb.drop (j + 1))) := Hid.mk ⟨fun e => by simp at e, fun b hb => ⟨G, by simpa using hb.symm, by
            rw [heap_setCell_at hg, List.setIfInBounds_toArray, fill_two _ _ _ (by rw [HLB.out]; exact hlt)]⟩⟩
          have HK2 := Hid.mk (HKR.out.setCell (p := ⟨G, j, none⟩) (.inl (by simp [oB])) (Value.slice (some ⟨Y, 0, none⟩) 1 1))
          clear hg hll
          go_wp2
          exact ⟨⟨j + 1, by omega, by go_num, HS.out, HK2.out⟩, by simp [intOf]; omega⟩
        · obtain rfl : j = m := by omega
          have HO2 : Hid (OwL wr bo (List.replicate j (Value.slice (some ⟨Y, 0, none⟩) 1 1))) := Hid.mk (by
            have := HO.out
            rw [List.drop_eq_nil_of_le (by rw [HLB.out]; exact Nat.le_refl _), List.append_nil] at this
            exact this)
          have hnm : ∀ (g : Nat) (cs : Array Value) (t : TypeId), t ≠ 68 → wb.heap[g]? = some (.cells cs t (0, 0)) → g ∉ oB bo := fun g cs t ht hc hm => by
            simp only [oB, List.mem_map, Option.mem_toList] at hm
            obtain ⟨b', hb', e⟩ := hm
            obtain ⟨G, rfl, hg⟩ := HB1.out.2 b' hb'
            have e' : G = g := e
            subst e'
            rw [hg] at hc
            simp at hc
            exact ht hc.2.symm
          have HX2 := Hid.mk (And.intro (HKR.out.heap HX1.out.1 (hnm _ _ _ (by decide) HX1.out.1)) (HKR.out.heap HX1.out.2 (hnm _ _ _ (by decide) HX1.out.2)))
          have HO3 : Hid (OwL wr ao (List.replicate k (Value.slice (some ⟨X, 0, none⟩) 1 1))) := Hid.mk (HO1.out.kept HKR.out (fun b hb hm => by
            simp only [oB, List.mem_map, Option.mem_toList] at hm
            obtain ⟨b', hb', e⟩ := hm
            exact HAP.out b b' hb hb' e.symm))
          have HK2 := Hid.mk ((HK1.out.mono (l2 := oB ao ++ oB bo) (by simp; exact fun x h => .inl (.inl h))).trans (HKR.out.mono (l2 := oB ao ++ oB bo) (by simp; exact fun x h => .inl (.inr h))))
          clear HO HKR HO1 HB1 HK1 HX1 hnm
          have HGA := Hid.mk HO3.out.grow
          have HGB := Hid.mk HO2.out.grow
          go_wp2
          obtain ⟨wc, ewc⟩ : ∃ wc, wc = wr := ⟨_, rfl⟩
          rw [← ewc] at HX2 HK2 HO2 HO3 HGA HGB ⊢
          clear ewc
          go_loopw [9, 11] (fun s9 s11 wx => ∃ (kk : Nat), kk ≤ 20 ∧ s11 = .int .i64 kk ∧ GrowL wc wx s9 (k + kk) (Value.slice (some ⟨X, 0, none⟩) 1 1) ∧ (0 < kk → wx.ownsRow wc.heap.size 68 1 s9 (k + kk) (List.replicate (k + kk) (Value.slice (some ⟨X, 0, none⟩) 1 1))) ∧ Kept [] wc wx) (fun _ s11 _ => 20 - (intOf s11).toNat)
          case atStart => exact ⟨0, Nat.zero_le _, rfl, HGA.out, fun h => by omega, Kept.refl _ _⟩
          case round =>
            obtain ⟨kk, hkk, rfl, hgr, hown, hkx⟩ := hrel
            by_cases hk2 : kk < 20
            · have Hgr := Hid.mk hgr
              have Hkx := Hid.mk hkx
              clear hgr hown hkx
              go_wp2_with (at_builtin; refine wpList_growL _ rfl _ _ rfl _ (Hkx.out.alloc _) _ (k + kk) (Value.slice (some ⟨X, 0, none⟩) 1 1) rfl rfl (Hgr.out.alloc _) ⟨wr.heap.size, 0, none⟩ rfl (cell_one_new _ _ _) (by omega) ?_)
              intro v' wy hown' hkx'
              go_wp2
              exact ⟨⟨kk + 1, by omega, by go_num, .inr hown', fun _ => hown', hkx'⟩, by simp [intOf]; omega⟩
            · obtain ⟨k5, hk5⟩ : ∃ k5, k5 = kk := ⟨_, rfl⟩
              have hk5a : 20 ≤ k5 := by omega
              have hk5b : k5 ≤ 20 := by omega
              rw [← hk5] at hown hgr ⊢
              clear hk5 hkk hk2
              have hog := hown (by omega)
              obtain ⟨N1, eN1⟩ : ∃ N1, N1 = k + k5 := ⟨_, rfl⟩
              rw [← eN1] at hog
              obtain ⟨gg, cg, rfl⟩ := own_some hog (by omega)
              have iN1 : N1 ≤ 120 := by omega
              have HOG := Hid.mk hog
              have HO4 := Hid.mk (HO2.out.keep hkx)
              have HO5 := Hid.mk (HO3.out.keep hkx)
              have HX3 := Hid.mk (And.intro (hkx.heap HX2.out.1 (by simp)) (hkx.heap HX2.out.2 (by simp)))
              have HK3 := Hid.mk (HK2.out.trans (hkx.mono (by simp)))
              have HGB := Hid.mk HO4.out.grow
              clear hgr hown hkx hog HO2 HO3 HX2 HK2 HGA eN1
              go_wp2
              obtain ⟨wd, ewd⟩ : ∃ wd, wd = wr := ⟨_, rfl⟩
              rw [← ewd] at HOG HO4 HO5 HX3 HK3 HGB ⊢
              clear ewd
              go_loopw [10, 12] (fun s10 s12 wx => ∃ (kk : Nat), kk ≤ 20 ∧ s12 = .int .i64 kk ∧ GrowL wd wx s10 (j + kk) (Value.slice (some ⟨Y, 0, none⟩) 1 1) ∧ (0 < kk → wx.ownsRow wd.heap.size 68 1 s10 (j + kk) (List.replicate (j + kk) (Value.slice (some ⟨Y, 0, none⟩) 1 1))) ∧ Kept [] wd wx) (fun _ s12 _ => 20 - (intOf s12).toNat)
              case atStart => exact ⟨0, Nat.zero_le _, rfl, HGB.out, fun h => by omega, Kept.refl _ _⟩
              case round =>
                obtain ⟨kk, hkk, rfl, hgr, hown, hkx⟩ := hrel
                by_cases hk2 : kk < 20
                · have Hgr := Hid.mk hgr
                  have Hkx := Hid.mk hkx
                  clear hgr hown hkx
                  go_wp2_with (at_builtin; refine wpList_growL _ rfl _ _ rfl _ (Hkx.out.alloc _) _ (j + kk) (Value.slice (some ⟨Y, 0, none⟩) 1 1) rfl rfl (Hgr.out.alloc _) ⟨wr.heap.size, 0, none⟩ rfl (cell_one_new _ _ _) (by omega) ?_)
                  intro v' wy hown' hkx'
                  go_wp2
                  exact ⟨⟨kk + 1, by omega, by go_num, .inr hown', fun _ => hown', hkx'⟩, by simp [intOf]; omega⟩
                · obtain ⟨k6, hk6⟩ : ∃ k6, k6 = kk := ⟨_, rfl⟩
                  have hk6a : 20 ≤ k6 := by omega
                  have hk6b : k6 ≤ 20 := by omega
                  rw [← hk6] at hown hgr ⊢
                  clear hk6 hkk hk2
                  have hog := hown (by omega)
                  obtain ⟨N2, eN2⟩ : ∃ N2, N2 = j + k6 := ⟨_, rfl⟩
                  rw [← eN2] at hog
                  obtain ⟨hh, ch, rfl⟩ := own_some hog (by omega)
                  have HOH := Hid.mk hog
                  have HOG2 := Hid.mk (hkx.row HOG.out (by simp))
                  have HO6 := Hid.mk (HO4.out.keep hkx)
                  have HO7 := Hid.mk (HO5.out.keep hkx)
                  have hx3 := hkx.heap HX3.out.1 (by simp)
                  have hy3 := hkx.heap HX3.out.2 (by simp)
                  have HK4 := Hid.mk (HK3.out.trans (hkx.mono (by simp)))
                  clear hgr hown hkx hog HO4 HO5 HX3 HK3 HGB HOG
                  have cX : wr.cell? ⟨X, 0, none⟩ = some (.int .u16 1) := by rw [cell_of_row _ _ _ _ _ _ hx3]; rfl
                  have cY : wr.cell? ⟨Y, 0, none⟩ = some (.int .u16 2) := by rw [cell_of_row _ _ _ _ _ _ hy3]; rfl
                  clear hx3 hy3
                  have iN2 : N2 ≤ 120 := by omega
                  clear eN2
                  go_wp2
                  obtain ⟨we, ewe⟩ : ∃ we, we = wr := ⟨_, rfl⟩
                  rw [← ewe] at HOG2 HOH HO6 HO7 HK4 cX cY ⊢
                  clear ewe
                  go_loopw [13] (fun i wx => ∃ q : Nat, q ≤ N1 ∧ i = .int .i64 (q : Int) ∧ Kept [] we wx) (fun i _ => N1 - (intOf i).toNat)
                  case atStart => exact ⟨0, by omega, rfl, Kept.refl _ _⟩
                  case round =>
                    obtain ⟨q, hq, rfl, hkq⟩ := hrel
                    have HKQ := Hid.mk hkq
                    have cXq := cell_keep hkq cX (by simp)
                    have cYq := cell_keep hkq cY (by simp)
                    by_cases hlt : q < N1
                    · have ix : (q : Int) < (N1 : Int) := by omega
                      have cg1 : wr.cell? ⟨gg, q, none⟩ = some (Value.slice (some ⟨X, 0, none⟩) 1 1) := by
                        refine cell_keep hkq ?_ (by simp)
                        rw [HOG2.out.cellAt q (by omega), List.getElem?_replicate, if_pos hlt]
                      clear hkq cX cY
                      go_wp2
                      exact ⟨⟨q + 1, by omega, by go_num, HKQ.out⟩, by simp [intOf]; omega⟩
                    · obtain rfl : q = N1 := by omega
                      clear hkq cX cY
                      go_wp2
                      obtain ⟨wf, ewf⟩ : ∃ wf, wf = wr := ⟨_, rfl⟩
                      rw [← ewf] at HKQ cXq cYq ⊢
                      clear ewf
                      go_loopw [14] (fun i wx => ∃ r : Nat, r ≤ N2 ∧ i = .int .i64 (r : Int) ∧ Kept [] wf wx) (fun i _ => N2 - (intOf i).toNat)
                      case atStart => exact ⟨0, by omega, rfl, Kept.refl _ _⟩
                      case round =>
                        obtain ⟨r, hr, rfl, hkr⟩ := hrel
                        have HKR := Hid.mk hkr
                        have cYr := cell_keep hkr cYq (by simp)
                        by_cases hlr : r < N2
                        · have ir : (r : Int) < (N2 : Int) := by omega
                          have cg1 : wr.cell? ⟨hh, r, none⟩ = some (Value.slice (some ⟨Y, 0, none⟩) 1 1) := by
                            refine cell_keep (HKQ.out.trans hkr) ?_ (by simp)
                            rw [HOH.out.cellAt r (by omega), List.getElem?_replicate, if_pos hlr]
                          clear hkr cXq cYq
                          go_wp2
                          exact ⟨⟨r + 1, by omega, by go_num, HKR.out⟩, by simp [intOf]; omega⟩
                        · obtain rfl : r = N2 := by omega
                          clear hkr cXq cYq
                          go_wp2
                          go_ret
                          exact ⟨rfl, HK4.out.trans ((HKQ.out.trans HKR.out).mono (by simp)), ⟨_, by simp, HO7.out.keep (HKQ.out.trans HKR.out)⟩, ⟨_, by simp, HO6.out.keep (HKQ.out.trans HKR.out)⟩⟩
end Go.Proofs.YtodlkpcbkilglaaDoor

namespace Go.Proofs.YtodlkpcbkilglaaDoor
open Go.RowKit Go.Shelf

/-- What is told of a frame that may be an error's. -/
noncomputable def xI (E x : Int) : Int := if E = 0 then x else 0
noncomputable def xB (E : Int) (A : Bool) : Bool := if E = 0 then A else false
noncomputable def xN (E : Int) (A : Bool) : Nat := if E = 0 then np A else 0
noncomputable def xL (E W H : Int) : Nat → Nat := if E = 0 then pz W H else fun _ => 0
/-- A frame in memory of its own, or none. -/
def FwO (lo : Nat) (w : World) (po : Option Addr) (bs : Nat → Nat) (n : Nat) (ln : Nat → Nat) (F : Nat → Nat → Nat) : Prop := (n = 0 ∧ po = none) ∨ ∃ G, po = some ⟨G, 0, none⟩ ∧ 0 < n ∧ Fw lo w G bs n ln F
theorem FwO.keep {lo n : Nat} {w w' : World} {po : Option Addr} {bs ln : Nat → Nat} {F : Nat → Nat → Nat} (h : FwO lo w po bs n ln F) (hk : Kept [] w w') : FwO lo w' po bs n ln F := by
  rcases h with h | ⟨G, e, h0, h⟩
  · exact .inl h
  · exact .inr ⟨G, e, h0, h.keep hk⟩
theorem FwO.pl {lo n : Nat} {w : World} {po : Option Addr} {bs ln : Nat → Nat} {F : Nat → Nat → Nat} (h : FwO lo w po bs n ln F) : Pl w po n ln F := by
  rcases h with ⟨h, _⟩ | ⟨G, rfl, h0, h⟩
  · exact .inl h
  · exact h.pl
theorem FwO.own {lo n : Nat} {w : World} {po : Option Addr} {bs ln : Nat → Nat} {F : Nat → Nat → Nat} (h : FwO lo w po bs n ln F) : OwL w po (outC bs ln n n) := by
  rcases h with ⟨rfl, rfl⟩ | ⟨G, rfl, h0, h⟩
  · exact ⟨fun _ => rfl, fun b hb => by simp at hb⟩
  · exact ⟨fun e => by simp at e, fun b hb => ⟨G, by simpa using hb.symm, h.out⟩⟩
theorem FwO.lo {lo n : Nat} {w : World} {po : Option Addr} {bs ln : Nat → Nat} {F : Nat → Nat → Nat} (h : FwO lo w po bs n ln F) {b : Addr} (hb : po = some b) : lo ≤ b.block ∧ b.block < w.heap.size := by
  rcases h with ⟨_, rfl⟩ | ⟨G, rfl, h0, h⟩
  · simp at hb
  · simp at hb
    subst hb
    exact ⟨h.lo, lt_of_block h.out⟩
theorem UnS.form {lo : Nat} {E W H D : Int} {A : Bool} {F : Nat → Nat → Nat} {w' : World} {x1 x2 x3 : Int} {x4 : Bool} {po : Option Addr} {n k : Nat} (h : UnS lo E W H D A F w' x1 x2 x3 x4 po n k) :
    ∃ bs, frv x1 x2 x3 x4 po n k = frv (xI E W) (xI E H) (xI E D) (xB E A) po (xN E A) (xN E A) ∧ FwO lo w' po bs (xN E A) (xL E W H) F := by
  unfold xI xB xN xL
  by_cases e : E = 0
  · obtain ⟨rfl, rfl, rfl, rfl, rfl, rfl, G, bs, rfl, hf⟩ := h.1 e
    simp only [if_pos e]
    exact ⟨bs, trivial, .inr ⟨G, rfl, by have := np_lo x4; omega, hf⟩⟩
  · obtain ⟨rfl, rfl, rfl, rfl, rfl, rfl, rfl⟩ := h.2 e
    simp only [if_neg e]
    exact ⟨fun _ => 0, trivial, .inl ⟨rfl, rfl⟩⟩
theorem UdR.form {lo : Nat} {E W H D : Int} {A : Bool} {F : Nat → Nat → Nat} {w' : World} {x1 x2 x3 : Int} {x4 : Bool} {po : Option Addr} {n : Nat} (k : Nat) (h : UdR lo E W H D A F w' x1 x2 x3 x4 po n) :
    frv x1 x2 x3 x4 po n k = frv (xI E W) (xI E H) (xI E D) (xB E A) po (xN E A) k ∧ Pl w' po (xN E A) (xL E W H) F := by
  unfold xI xB xN xL
  by_cases e : E = 0
  · obtain ⟨rfl, rfl, rfl, rfl, rfl, G, bs, rfl, hf⟩ := h.1 e
    simp only [if_pos e]
    exact ⟨trivial, hf.pl⟩
  · obtain ⟨rfl, rfl, rfl, rfl, rfl, rfl⟩ := h.2 e
    simp only [if_neg e]
    exact ⟨trivial, .inl rfl⟩
theorem unE_shp {v : Bool} {W H D : Int} {A : Bool} {M : Nat} {fb : Nat → Nat} (h : unE v W H D A M fb = 0) : Shp W H D A := by
  cases v with
  | false => exact shp_of (plE_zero (show plE W H D A M fb = 0 from h)).1
  | true => exact shp_of (v2E_zero (show v2E W H D A M fb = 0 from h)).1
theorem xL_le (v : Bool) (W H D : Int) (A : Bool) (M : Nat) (fb : Nat → Nat) (i : Nat) : xL (unE v W H D A M fb) W H i ≤ 16777216 := by
  unfold xL
  by_cases e : unE v W H D A M fb = 0
  · rw [if_pos e]
    have hs := unE_shp e
    obtain ⟨h, rfl⟩ : ∃ h : Nat, H = (h : Int) := ⟨H.toNat, by have := hs.2.1; omega⟩
    rw [pz_wd hs]
    have h1 : h ≤ 4096 := by have := hs.2.1; omega
    have := Nat.mul_le_mul (wdN_ok hs i).2.1 h1
    omega
  · rw [if_neg e]; omega
theorem xN_le (E : Int) (A : Bool) : xN E A ≤ 4 := by unfold xN; split; exact np_hi A; omega
/-- Two frames that are told alike are the same. -/
theorem same_true (a b d : Int) (x : Bool) (po qo : Option Addr) (n c k : Nat) (ln : Nat → Nat) (F : Nat → Nat → Nat) (w : World) (hp : Pl w po n ln F) (hq : Pl w qo n ln F) (hn : n ≤ 9223372036854775807) (hln : ∀ i, i < n → ln i ≤ 9223372036854775807) :
    Calls Tryd.prog 26 #[frv a b d x po n c, frv a b d x qo n k] w fun e w' => e = .returned (.bool true) ∧ Kept [] w w' := by
  refine (rsame_eq a b d x po qo n c k ln ln F F w hp hq hn hln hln).mono ?_
  rintro e w' ⟨rfl, hk⟩
  rw [alF_yes (fun i _ => eqL_yes (fun _ _ => rfl))]
  exact ⟨rfl, hk⟩
/-- Lists that were told. -/
def vF (V : Nat → Value) (k : Nat) (bs ln : Nat → Nat) : Nat → Value := fun i => if i < k then V i else .slice (some ⟨bs (i - k), 0, none⟩) (ln (i - k)) (ln (i - k))
def lF (ls : Nat → List Nat) (k : Nat) (ln : Nat → Nat) (F : Nat → Nat → Nat) : Nat → List Nat := fun i => if i < k then ls i else (List.range (ln (i - k))).map (F (i - k))
theorem vF_lo {V : Nat → Value} {k : Nat} {bs ln : Nat → Nat} {i : Nat} (h : i < k) : vF V k bs ln i = V i := by unfold vF; rw [if_pos h]
theorem vF_hi {V : Nat → Value} {k : Nat} {bs ln : Nat → Nat} {i : Nat} : vF V k bs ln (k + i) = .slice (some ⟨bs i, 0, none⟩) (ln i) (ln i) := by unfold vF; rw [if_neg (by omega), Nat.add_sub_cancel_left]
theorem lF_len {ls : Nat → List Nat} {k b : Nat} {ln : Nat → Nat} {F : Nat → Nat → Nat} (h : ∀ i, (ls i).length ≤ b) (hl : ∀ i, ln i ≤ b) (i : Nat) : (lF ls k ln F i).length ≤ b := by
  unfold lF
  split
  · exact h i
  · simpa using hl (i - k)
theorem AccS.frameO {wc u u1 u2 : World} {k n : Nat} {V : Nat → Value} {ls : Nat → List Nat} {po : Option Addr} {bs ln : Nat → Nat} {F : Nat → Nat → Nat} (h : AccS wc u k V ls) (hw : Kept [] wc u) (hk : Kept [] u u1) (hf : FwO u1.heap.size u2 po bs n ln F) (hk2 : Kept [] u1 u2) :
    AccS wc u2 (k + n) (vF V k bs ln) (lF ls k ln F) := by
  rcases hf with ⟨rfl, rfl⟩ | ⟨G, rfl, h0, hf⟩
  · intro i hi
    have hi' : i < k := by omega
    unfold vF lF
    simp only [if_pos hi']
    refine ⟨(h i hi').1.keep (hk.trans hk2), (h i hi').2.1, fun j hj g hg => ?_⟩
    rw [if_pos (by omega)] at hg
    exact (h i hi').2.2 j hj g hg
  · exact h.frame hw hk hf hk2
theorem FwO.held {lo n k : Nat} {w : World} {po : Option Addr} {bs ln : Nat → Nat} {F : Nat → Nat → Nat} {Bk : Nat} {V : Nat → Value} {a b : Value} (h : FwO lo w po bs n ln F) (hB : w.heap[Bk]? = some (.cells #[a, b] 46 (0, 0))) (hV : ∀ i, i < n → V (k + i) = .slice (some ⟨bs i, 0, none⟩) (ln i) (ln i)) :
    n = 0 ∨ ∃ G, po = some ⟨G, 0, none⟩ ∧ G ≠ Bk ∧ ∀ i, i < n → w.cell? ⟨G, i, none⟩ = some (V (k + i)) := by
  rcases h with ⟨h, _⟩ | ⟨G, rfl, h0, h⟩
  · exact .inl h
  · refine .inr ⟨G, rfl, fun e => ?_, fun i hi => by rw [hV i hi]; exact h.cell hi⟩
    have := h.out
    rw [e, hB] at this
    simp at this
theorem OwL.kpt {w w' : World} {po : Option Addr} {l : List Value} {Bk : Nat} {a b : Value} (h : OwL w po l) (hk : KpT 70 Bk w w') (hB : w.heap[Bk]? = some (.cells #[a, b] 46 (0, 0))) : OwL w' po l := by
  refine ⟨h.1, fun x hx => ?_⟩
  obtain ⟨G, rfl, hg⟩ := h.2 x hx
  refine ⟨G, rfl, hk G _ _ (by decide) (fun e => ?_) hg⟩
  rw [e, hB] at hg
  simp at hg
theorem OwL.far {w : World} {po : Option Addr} {l : List Value} (h : OwL w po l) {g : Nat} {cs : Array Value} {t : TypeId} (hg : w.heap[g]? = some (.cells cs t (0, 0))) (ht : t ≠ 68) : g ∉ oB po := fun hm => by
  simp only [oB, List.mem_map, Option.mem_toList] at hm
  obtain ⟨b, hb, e⟩ := hm
  obtain ⟨G, rfl, hG⟩ := h.2 b hb
  have e' : G = g := e
  subst e'
  rw [hG] at hg
  simp at hg
  exact ht hg.2.symm
theorem shape4 {w : World} {b : Nat} {W H D : Int} {A : Bool} (h : w.heap[b]? = some (.cells #[.int .i64 W, .int .i64 H, .int .i64 D, .bool A] 24 (0, 0))) : w.cell? ⟨b, 0, none⟩ = some (.int .i64 W) ∧ w.cell? ⟨b, 1, none⟩ = some (.int .i64 H) ∧ w.cell? ⟨b, 2, none⟩ = some (.int .i64 D) ∧ w.cell? ⟨b, 3, none⟩ = some (.bool A) := by
  refine ⟨?_, ?_, ?_, ?_⟩ <;> (rw [cell_of_row _ _ _ _ _ _ h]; rfl)
/-- The first example's bytes. -/
def fbO (i : Nat) : Nat := [1, 0, 2, 0, 1, 3].getD i 0
theorem pz_one (i : Nat) : pz 1 1 i = 1 := by
  unfold pz wp
  split <;> rfl
theorem tiny_un : unE false 1 1 10 false 6 fbO = 0 ∧ xL 0 1 1 = (fun _ => 1) ∧ ∀ i, i < 3 → ∀ j, j < 1 → unF false 1 1 fbO i j = tnF i := by
  have hF : ∀ i, i < 3 → ∀ j, j < 1 → pnF 1 1 fbO i j = tnF i := fun i hi j hj => by
    obtain rfl : j = 0 := by omega
    rcases (by omega : i = 0 ∨ i = 1 ∨ i = 2) with rfl | rfl | rfl <;> rfl
  refine ⟨?_, ?_, hF⟩
  · show plE 1 1 10 false 6 fbO = 0
    have hV : Vld 1 1 10 false 3 (pz 1 1) (pnF 1 1 fbO) := by
      have h1 := tiny_vld
      refine ⟨h1.shp, rfl, fun i hi => ?_, fun i hi j hj => ?_⟩
      · have := h1.len i hi
        rw [pz_one]
        exact this
      · rw [pz_one] at hj
        rw [hF i hi j hj]
        exact h1.top i hi j hj
    unfold plE
    rw [if_pos (shE_ok hV.shp), if_pos (by rfl)]
    exact if_pos (vE_zero.2 hV)
  · unfold xL
    rw [if_pos rfl]
    funext i
    exact pz_one i
end Go.Proofs.YtodlkpcbkilglaaDoor

namespace Go.Proofs.YtodlkpcbkilglaaDoor
open Go.RowKit Go.Shelf

/-- The law's unpacking, and the document's, in one form. -/
theorem un_form (v : Bool) (W H D : Int) (A : Bool) (bo : Option Addr) (M cb : Nat) (fb : Nat → Nat) (w : World) (hT : Tab w) (hb : RB w bo M fb) (hfb : ∀ i, i < M → fb i < 256) (hcb : M ≤ cb) :
    Calls Tryd.prog 24 #[.bool v, shv W H D A, .slice bo M cb] w fun e w' => ∃ po bs, e = .returned (.tuple #[frv (xI (unE v W H D A M fb) W) (xI (unE v W H D A M fb) H) (xI (unE v W H D A M fb) D) (xB (unE v W H D A M fb) A) po (xN (unE v W H D A M fb) A) (xN (unE v W H D A M fb) A), .int .i64 (unE v W H D A M fb)]) ∧ FwO w.heap.size w' po bs (xN (unE v W H D A M fb) A) (xL (unE v W H D A M fb) W H) (unF v W H fb) ∧ Kept [] w w' := by
  refine (ups24 v W H D A bo M cb fb w hT hb hfb hcb).mono ?_
  rintro e w' ⟨x1, x2, x3, x4, po, n, k, rfl, hk, hs⟩
  obtain ⟨bs, he, hf⟩ := hs.form
  exact ⟨po, bs, by rw [he], hf, hk⟩
theorem ask_form (v : Bool) (W H D : Int) (A : Bool) (bo : Option Addr) (M cb : Nat) (fb : Nat → Nat) (w : World) (hb : RB w bo M fb) (hfb : ∀ i, i < M → fb i < 256) (hcb : M ≤ cb) :
    Calls Tryd.prog 25 #[.bool v, shv W H D A, .slice bo M cb] w fun e w' => ∃ po k, e = .returned (.tuple #[frv (xI (unE v W H D A M fb) W) (xI (unE v W H D A M fb) H) (xI (unE v W H D A M fb) D) (xB (unE v W H D A M fb) A) po (xN (unE v W H D A M fb) A) k, .int .i64 (unE v W H D A M fb)]) ∧ Pl w' po (xN (unE v W H D A M fb) A) (xL (unE v W H D A M fb) W H) (unF v W H fb) ∧ Kept [] w w' := by
  refine (ask25 v W H D A bo M cb fb w hb hfb hcb).mono ?_
  rintro e w' ⟨x1, x2, x3, x4, po, n, k, rfl, hk, hs⟩
  obtain ⟨he, hf⟩ := hs.form k
  exact ⟨po, k, by rw [he], hf, hk⟩
theorem o_form (g : Nat) (w : World) (hT : Tab w) (hg : w.heap[g]? = some (.cells #[.int .u8 1, .int .u8 0, .int .u8 2, .int .u8 0, .int .u8 1, .int .u8 3] 5 (0, 0))) :
    Calls Tryd.prog 24 #[.bool false, shv 1 1 10 false, .slice (some ⟨g, 0, none⟩) 6 6] w fun e w' => ∃ po bs, e = .returned (.tuple #[frv 1 1 10 false po 3 3, .int .i64 0]) ∧ FwO w.heap.size w' po bs 3 (fun _ => 1) (fun i _ => tnF i) ∧ Kept [] w w' := by
  obtain ⟨t1, t2, t3⟩ := tiny_un
  have h := un_form false 1 1 10 false (some ⟨g, 0, none⟩) 6 6 fbO w hT (.inr ⟨g, 0, rfl, fun i hi => by
    rw [cell_of_row _ _ _ _ _ _ hg]
    rcases (by omega : i = 0 ∨ i = 1 ∨ i = 2 ∨ i = 3 ∨ i = 4 ∨ i = 5) with rfl | rfl | rfl | rfl | rfl | rfl <;> rfl⟩) (fun i hi => by
    rcases (by omega : i = 0 ∨ i = 1 ∨ i = 2 ∨ i = 3 ∨ i = 4 ∨ i = 5) with rfl | rfl | rfl | rfl | rfl | rfl <;> decide) (Nat.le_refl _)
  rw [t1, t2] at h
  refine h.mono ?_
  rintro e w' ⟨po, bs, rfl, hf, hk⟩
  refine ⟨po, bs, ?_, ?_, hk⟩
  · rfl
  · rcases hf with ⟨h0, _⟩ | ⟨G, e1, h0, hf⟩
    · exact absurd h0 (by decide)
    · exact .inr ⟨G, e1, by omega, hf.out, fun i hi => (hf.row i hi).congr (fun j hj => t3 i hi j hj), hf.gt, hf.mon, hf.lo⟩
theorem tiny_pl {u : World} {g : Nat} (h : ∀ i, i < 3 → ∃ b, u.cell? ⟨g, i, none⟩ = some (.slice (some ⟨b, 0, none⟩) 1 1) ∧ u.cell? ⟨b, 0, none⟩ = some (.int .u16 (tnF i : Int))) : Pl u (some ⟨g, 0, none⟩) 3 (fun _ => 1) (fun i _ => tnF i) := by
  obtain ⟨pb, ⟨g', off, e, hc⟩, h2⟩ := tiny_in h
  exact .inr ⟨g', off, e, fun i hi => ⟨_, _, hc i hi, h2 i hi⟩⟩

theorem BkS.kept {w14 w : World} {Bk n : Nat} {V : Nat → Value} {ls : Nat → List Nat} (h : BkS w14 w Bk n V ls) : Kept [Bk] w14 w := by
  obtain ⟨_, _, _, _, h2, _⟩ := h
  exact h2
theorem BkS.box {w14 w : World} {Bk n : Nat} {V : Nat → Value} {ls : Nat → List Nat} (h : BkS w14 w Bk n V ls) : ∃ a b, w.heap[Bk]? = some (.cells #[a, b] 46 (0, 0)) := by
  obtain ⟨vl, vw, _, h1, _⟩ := h
  exact ⟨vl, vw, h1.box⟩

set_option maxHeartbeats 32000000 in
set_option maxRecDepth 1000000 in
/-- PixelUnpacks of any bytes. -/
theorem pixelUnpacks_any (v : Bool) (W H D : Int) (A : Bool) (bo : Option Addr) (cb : Nat) (l : List Nat) (w : World) (hT : Tab w) (hb : Bt.Reads w bo l) (hl : ∀ b ∈ l, b < 256) (hcb : l.length ≤ cb) (hk : cb ≤ 140737488351232) :
    Calls Tryd.prog 6 #[.bool v, shv W H D A, .slice bo l.length cb] w fun e w' => e = .returned (.bool true) ∧ Kept [] w w' := by
  have HT := Hid.mk hT
  have HBR := Hid.mk hb
  have HL := Hid.mk hl
  obtain ⟨M, eM⟩ : ∃ M, l.length = M := ⟨_, rfl⟩
  have hMb : M ≤ 140737488351232 := by omega
  rw [eM] at hcb
  have HM := Hid.mk eM
  have hfb : ∀ i, i < M → gb l i < 256 := fun i hi => gb_lt hl i (by omega)
  have C25 : Hid (∀ u, Kept [] w u → Calls Tryd.prog 25 #[.bool v, shv W H D A, .slice bo M cb] u fun e w' => ∃ po k, e = .returned (.tuple #[frv (xI (unE v W H D A M (gb l)) W) (xI (unE v W H D A M (gb l)) H) (xI (unE v W H D A M (gb l)) D) (xB (unE v W H D A M (gb l)) A) po (xN (unE v W H D A M (gb l)) A) k, .int .i64 (unE v W H D A M (gb l))]) ∧ Pl w' po (xN (unE v W H D A M (gb l)) A) (xL (unE v W H D A M (gb l)) W H) (unF v W H (gb l)) ∧ Kept [] u w') := Hid.mk (fun u hk => ask_form v W H D A bo M cb (gb l) u (by have := rb_of (hb.keep (kept_to hk)); rw [eM] at this; exact this) hfb hcb)
  have C24 : Hid (∀ u g, Tab u → u.heap[g]? = some (.cells ((l ++ List.replicate 70 167).map Bt.byt).toArray 5 (0, 0)) → Calls Tryd.prog 24 #[.bool v, shv W H D A, .slice (some ⟨g, 0, none⟩) M (M + 70)] u fun e w' => ∃ po bs, e = .returned (.tuple #[frv (xI (unE v W H D A M (gb l)) W) (xI (unE v W H D A M (gb l)) H) (xI (unE v W H D A M (gb l)) D) (xB (unE v W H D A M (gb l)) A) po (xN (unE v W H D A M (gb l)) A) (xN (unE v W H D A M (gb l)) A), .int .i64 (unE v W H D A M (gb l))]) ∧ FwO u.heap.size w' po bs (xN (unE v W H D A M (gb l)) A) (xL (unE v W H D A M (gb l)) W H) (unF v W H (gb l)) ∧ Kept [] u w') := Hid.mk (fun u g hTu hg => un_form v W H D A (some ⟨g, 0, none⟩) M (M + 70) (gb l) u hTu (.inr ⟨g, 0, rfl, fun i hi => by
    rw [Nat.zero_add, cell_of_row _ _ _ _ _ _ hg, List.getElem?_toArray, List.getElem?_map, List.getElem?_append_left (by omega)]
    unfold gb Bt.byt
    simp [List.getElem?_eq_getElem (show i < l.length by omega)]⟩) hfb (by omega))
  have hxl := xL_le v W H D A M (gb l)
  have hxn := xN_le (unE v W H D A M (gb l)) A
  obtain ⟨E, eE⟩ : ∃ E, unE v W H D A M (gb l) = E := ⟨_, rfl⟩
  rw [eE] at C24 C25 hxl hxn
  obtain ⟨a1, e1⟩ : ∃ a1, xI E W = a1 := ⟨_, rfl⟩
  obtain ⟨a2, e2⟩ : ∃ a2, xI E H = a2 := ⟨_, rfl⟩
  obtain ⟨a3, e3⟩ : ∃ a3, xI E D = a3 := ⟨_, rfl⟩
  obtain ⟨a4, e4⟩ : ∃ a4, xB E A = a4 := ⟨_, rfl⟩
  obtain ⟨n, e5⟩ : ∃ n, xN E A = n := ⟨_, rfl⟩
  obtain ⟨ln, e6⟩ : ∃ ln, xL E W H = ln := ⟨_, rfl⟩
  obtain ⟨F, e7⟩ : ∃ F, unF v W H (gb l) = F := ⟨_, rfl⟩
  rw [e1, e2, e3, e4, e5, e6, e7] at C24 C25
  rw [e6] at hxl
  rw [e5] at hxn
  have HXL := Hid.mk hxl
  have C26 := Hid.mk (fun (u : World) (po qo : Option Addr) (c k : Nat) (h1 : Pl u po n ln F) (h2 : Pl u qo n ln F) => same_true a1 a2 a3 a4 po qo n c k ln F u h1 h2 (by omega) (fun i _ => by have := hxl i; omega))
  clear hfb hcb hb hl hT eE e1 e2 e3 e4 e5 e6 e7 hxl hk
  have hS0 := heap_alloc_new w (.cells #[.int .i64 W, .int .i64 H, .int .i64 D, .bool A] 24)
  have hk0 := alloc_kept w (.cells #[.int .i64 W, .int .i64 H, .int .i64 D, .bool A] 24)
  obtain ⟨wa, ewa⟩ : ∃ wa, wa = w.alloc (.cells #[.int .i64 W, .int .i64 H, .int .i64 D, .bool A] 24) := ⟨_, rfl⟩
  rw [← ewa] at hS0 hk0
  obtain ⟨sb, esb⟩ : ∃ sb, sb = w.heap.size := ⟨_, rfl⟩
  rw [← esb] at hS0
  have HS := Hid.mk (And.intro hS0 (And.intro hk0 esb))
  clear hS0 hk0
  rw [eM]
  go_enter Tryd.func6, Tryd.ntmps6
  go_wp2_with (fail)
  rw [← ewa, ← esb]
  clear ewa esb
  refine (alive_any _ (HT.out.keep HS.out.2.1 (by simp))).mono ?_
  rintro e u1 ⟨rfl, hk1⟩
  have hq := heap_alloc_new u1 (.cells #[.slice none 0 0, .slice none 0 0] 46)
  have hqk := alloc_kept u1 (.cells #[.slice none 0 0, .slice none 0 0] 46)
  obtain ⟨u2, eu2⟩ : ∃ u2, u2 = u1.alloc (.cells #[.slice none 0 0, .slice none 0 0] 46) := ⟨_, rfl⟩
  rw [← eu2] at hq hqk
  obtain ⟨Bk, eBk⟩ : ∃ Bk, Bk = u1.heap.size := ⟨_, rfl⟩
  rw [← eBk] at hq
  have HK2 := Hid.mk ((HS.out.2.1.trans hk1).trans hqk)
  have HBk := Hid.mk (And.intro hq (show w.heap.size ≤ Bk by rw [eBk]; exact (HS.out.2.1.trans hk1).size))
  have HS2 := Hid.mk ((hk1.trans hqk).heap HS.out.1 (by simp))
  have EU2 := Hid.mk (And.intro eu2 eBk)
  clear hq hqk hk1 eu2 eBk
  go_wp2_with (fail)
  rw [← EU2.out.1, ← EU2.out.2]
  refine (Bt.lent_any bo cb M l u2 (HBR.out.keep (kept_to HK2.out)) HM.out (by omega)).mono ?_
  rintro e wc ⟨rfl, hc, hkc⟩
  obtain ⟨cg, ecg⟩ : ∃ cg, cg = u2.heap.size := ⟨_, rfl⟩
  have hkc := kept_of hkc
  rw [← ecg] at hc ⊢
  have HC := Hid.mk hc
  have HKC := Hid.mk (HK2.out.trans hkc)
  have HCG : Hid (w.heap.size ≤ cg ∧ cg < wc.heap.size) := Hid.mk ⟨by rw [ecg]; exact HK2.out.size, lt_of_block hc⟩
  have HSC := Hid.mk (hkc.heap HS2.out (by simp))
  have HBC := Hid.mk (hkc.heap HBk.out.1 (by simp))
  have NCS : Hid (sb ≠ cg) := Hid.mk (fun e => by have h1 := HSC.out; rw [e, HC.out] at h1; simp at h1)
  have K0 := Hid.mk (Kept.refl [] wc)
  have A0 : Hid (AccS wc wc 0 (fun _ => .slice none 0 0) (fun _ => [])) := Hid.mk (fun i hi => by omega)
  obtain ⟨q0, q1, q2, q3⟩ := shape4 HSC.out
  clear hc hkc ecg HS2 HK2
  go_wp2_with (fail)

  refine (C24.out _ cg (HT.out.keep (HKC.out.trans K0.out) (by simp)) (K0.out.heap HC.out (by simp))).mono ?_
  rintro e v1 ⟨px, bsx, rfl, hf, hk⟩
  have hbx := heap_alloc_new v1 (.cells #[.int .i64 a1, .int .i64 a2, .int .i64 a3, .bool a4, .slice px n n] 31)
  have hkx := alloc_kept v1 (.cells #[.int .i64 a1, .int .i64 a2, .int .i64 a3, .bool a4, .slice px n n] 31)
  have AX := Hid.mk ((A0.out.frameO K0.out (Kept.refl _ _) hf hk).keep hkx)
  have FXx := Hid.mk (hf.keep hkx)
  have LOx := Hid.mk K0.out.size
  have KX := Hid.mk ((K0.out.trans hk).trans hkx)
  have KSx := Hid.mk (hk.trans hkx)
  obtain ⟨x1, ex1⟩ : ∃ x1, x1 = v1.alloc (.cells #[.int .i64 a1, .int .i64 a2, .int .i64 a3, .bool a4, .slice px n n] 31) := ⟨_, rfl⟩
  obtain ⟨bx, ebx⟩ : ∃ bx, bx = v1.heap.size := ⟨_, rfl⟩
  rw [← ex1] at hbx AX FXx KX KSx
  rw [← ebx] at hbx
  have BXx := Hid.mk hbx
  have EXX := Hid.mk (And.intro ex1 ebx)
  have SX1 := Hid.mk (show x1.heap.size = bx + 1 by rw [ex1, World.size_alloc, ← ebx])
  clear q0 q1 q2 q3
  obtain ⟨q0, q1, q2, q3⟩ := shape4 (KX.out.heap HSC.out (by simp))
  rw [ex1] at q0 q1 q2 q3
  clear hf hk hbx hkx ex1 ebx
  go_wp2_with (fail)
  rw [← EXX.out.1, ← EXX.out.2]
  have K1 := KX
  have A1 := AX
  clear KX AX EXX
  refine (C24.out _ cg (HT.out.keep (HKC.out.trans K1.out) (by simp)) (K1.out.heap HC.out (by simp))).mono ?_
  rintro e v2 ⟨pw, bsw, rfl, hf, hk⟩
  have hbx := heap_alloc_new v2 (.cells #[.int .i64 a1, .int .i64 a2, .int .i64 a3, .bool a4, .slice pw n n] 31)
  have hkx := alloc_kept v2 (.cells #[.int .i64 a1, .int .i64 a2, .int .i64 a3, .bool a4, .slice pw n n] 31)
  have AX := Hid.mk ((A1.out.frameO K1.out (Kept.refl _ _) hf hk).keep hkx)
  have FXw := Hid.mk (hf.keep hkx)
  have LOw := Hid.mk K1.out.size
  have KX := Hid.mk ((K1.out.trans hk).trans hkx)
  have KSw := Hid.mk (hk.trans hkx)
  obtain ⟨x2, ex2⟩ : ∃ x2, x2 = v2.alloc (.cells #[.int .i64 a1, .int .i64 a2, .int .i64 a3, .bool a4, .slice pw n n] 31) := ⟨_, rfl⟩
  obtain ⟨bw, ebw⟩ : ∃ bw, bw = v2.heap.size := ⟨_, rfl⟩
  rw [← ex2] at hbx AX FXw KX KSw
  rw [← ebw] at hbx
  have BXw := Hid.mk hbx
  have EXX := Hid.mk (And.intro ex2 ebw)
  have SX2 := Hid.mk (show x2.heap.size = bw + 1 by rw [ex2, World.size_alloc, ← ebw])
  clear q0 q1 q2 q3
  obtain ⟨q0, q1, q2, q3⟩ := shape4 (KX.out.heap HSC.out (by simp))
  rw [ex2] at q0 q1 q2 q3
  clear hf hk hbx hkx ex2 ebw
  go_wp2_with (fail)
  rw [← EXX.out.1, ← EXX.out.2]
  have K2 := KX
  have A2 := AX
  clear KX AX EXX
  have ho := heap_alloc_new x2 (.cells #[.int .u8 1, .int .u8 0, .int .u8 2, .int .u8 0, .int .u8 1, .int .u8 3] 5)
  have hok := alloc_kept x2 (.cells #[.int .u8 1, .int .u8 0, .int .u8 2, .int .u8 0, .int .u8 1, .int .u8 3] 5)
  rw [← SX2.out]
  refine (o_form _ _ (HT.out.keep (HKC.out.trans (K2.out.trans hok)) (by simp)) ho).mono ?_
  rintro e v3 ⟨po, bso, rfl, hf, hk⟩
  have hbx := heap_alloc_new v3 (.cells #[.int .i64 1, .int .i64 1, .int .i64 10, .bool false, .slice po 3 3] 31)
  have hkx := alloc_kept v3 (.cells #[.int .i64 1, .int .i64 1, .int .i64 10, .bool false, .slice po 3 3] 31)
  have A3 := Hid.mk ((A2.out.frameO K2.out hok hf hk).keep hkx)
  have FXo := Hid.mk (hf.keep hkx)
  have K3 := Hid.mk (((K2.out.trans hok).trans hk).trans hkx)
  obtain ⟨x3, ex3⟩ : ∃ x3, x3 = v3.alloc (.cells #[.int .i64 1, .int .i64 1, .int .i64 10, .bool false, .slice po 3 3] 31) := ⟨_, rfl⟩
  obtain ⟨bo', ebo⟩ : ∃ bo', bo' = v3.heap.size := ⟨_, rfl⟩
  have KSo := Hid.mk ((hok.trans hk).trans hkx)
  rw [← ex3] at hbx A3 FXo K3 KSo
  rw [← ebo] at hbx
  have BXo := Hid.mk hbx
  have EXX := Hid.mk (And.intro ex3 ebo)
  clear q0 q1 q2 q3
  obtain ⟨q0, q1, q2, q3⟩ := shape4 (K3.out.heap HSC.out (by simp))
  rw [ex3] at q0 q1 q2 q3
  clear hf hk hbx hkx ex3 ebo ho hok
  go_wp2_with (fail)
  rw [← EXX.out.1, ← EXX.out.2]
  clear EXX
  refine (C24.out _ cg (HT.out.keep (HKC.out.trans K3.out) (by simp)) (K3.out.heap HC.out (by simp))).mono ?_
  rintro e v4 ⟨pt, bst, rfl, hf, hk⟩
  have hbx := heap_alloc_new v4 (.cells #[.int .i64 a1, .int .i64 a2, .int .i64 a3, .bool a4, .slice pt n n] 31)
  have hkx := alloc_kept v4 (.cells #[.int .i64 a1, .int .i64 a2, .int .i64 a3, .bool a4, .slice pt n n] 31)
  have AX := Hid.mk ((A3.out.frameO K3.out (Kept.refl _ _) hf hk).keep hkx)
  have FXt := Hid.mk (hf.keep hkx)
  have LOt := Hid.mk K3.out.size
  have KX := Hid.mk ((K3.out.trans hk).trans hkx)
  have KSt := Hid.mk (hk.trans hkx)
  obtain ⟨x4, ex4⟩ : ∃ x4, x4 = v4.alloc (.cells #[.int .i64 a1, .int .i64 a2, .int .i64 a3, .bool a4, .slice pt n n] 31) := ⟨_, rfl⟩
  obtain ⟨bt, ebt⟩ : ∃ bt, bt = v4.heap.size := ⟨_, rfl⟩
  rw [← ex4] at hbx AX FXt KX KSt
  rw [← ebt] at hbx
  have BXt := Hid.mk hbx
  have EXX := Hid.mk (And.intro ex4 ebt)
  have SX4 := Hid.mk (show x4.heap.size = bt + 1 by rw [ex4, World.size_alloc, ← ebt])
  clear q0 q1 q2 q3
  obtain ⟨q0, q1, q2, q3⟩ := shape4 (KX.out.heap HSC.out (by simp))
  rw [ex4] at q0 q1 q2 q3
  clear hf hk hbx hkx ex4 ebt
  go_wp2_with (fail)
  rw [← EXX.out.1, ← EXX.out.2]
  have K4 := KX
  have A4 := AX
  clear KX AX EXX
  refine (C25.out _ (HKC.out.trans K4.out)).mono ?_
  rintro e v5 ⟨pd, kd, rfl, hf, hk⟩
  have hbx := heap_alloc_new v5 (.cells #[.int .i64 a1, .int .i64 a2, .int .i64 a3, .bool a4, .slice pd n kd] 31)
  have hkx := alloc_kept v5 (.cells #[.int .i64 a1, .int .i64 a2, .int .i64 a3, .bool a4, .slice pd n kd] 31)
  have PD := Hid.mk (hf.keep hkx)
  have K5 := Hid.mk ((K4.out.trans hk).trans hkx)
  obtain ⟨x5, ex5⟩ : ∃ x5, x5 = v5.alloc (.cells #[.int .i64 a1, .int .i64 a2, .int .i64 a3, .bool a4, .slice pd n kd] 31) := ⟨_, rfl⟩
  obtain ⟨bd, ebd⟩ : ∃ bd, bd = v5.heap.size := ⟨_, rfl⟩
  have KS5 := Hid.mk (hk.trans hkx)
  rw [← ex5] at hbx PD K5 KS5
  rw [← ebd] at hbx
  have BXd := Hid.mk hbx
  have KS45 := KS5
  have BY := Hid.mk (KS5.out.heap BXt.out (by simp))
  have KS3 := Hid.mk (KSt.out.trans KS5.out)
  have KS2 := Hid.mk (KSo.out.trans KS3.out)
  have KS1 := Hid.mk (KSw.out.trans KS2.out)
  have BO := Hid.mk (KS3.out.heap BXo.out (by simp))
  have BW := Hid.mk (KS2.out.heap BXw.out (by simp))
  have BX := Hid.mk (KS1.out.heap BXx.out (by simp))
  have FX := Hid.mk (FXx.out.keep KS1.out)
  have FW := Hid.mk (FXw.out.keep KS2.out)
  have FO := Hid.mk (FXo.out.keep KS3.out)
  have FY := Hid.mk (FXt.out.keep KS5.out)
  have A5 := Hid.mk (A4.out.keep KS5.out)
  have GX : Hid (∀ b, px = some b → b.block < x1.heap.size) := Hid.mk (fun b hb => (FXx.out.lo hb).2)
  have GW : Hid (∀ b, pw = some b → x1.heap.size ≤ b.block ∧ b.block < x2.heap.size) := Hid.mk (fun b hb => FXw.out.lo hb)
  have GY : Hid (∀ b, pt = some b → x3.heap.size ≤ b.block) := Hid.mk (fun b hb => (FXt.out.lo hb).1)
  have GX0 : Hid (∀ b, px = some b → wc.heap.size ≤ b.block) := Hid.mk (fun b hb => (FXx.out.lo hb).1)
  have KA : Hid (wc.heap.size ≤ x1.heap.size ∧ x1.heap.size ≤ x2.heap.size ∧ x2.heap.size ≤ x3.heap.size) := Hid.mk ⟨K1.out.size, KSw.out.size, KSo.out.size⟩
  have SZ : Hid (x1.heap.size ≤ x2.heap.size ∧ x2.heap.size ≤ x3.heap.size) := Hid.mk ⟨KSw.out.size, KSo.out.size⟩
  have EXX := Hid.mk (And.intro ex5 ebd)
  clear q0 q1 q2 q3
  obtain ⟨⟨p0, p1, p2, p3, p4⟩, _⟩ := five BX.out
  obtain ⟨⟨r0, r1, r2, r3, r4⟩, _⟩ := five BXd.out
  rw [ex5] at p0 p1 p2 p3 p4 r0 r1 r2 r3 r4
  rw [ebd] at r0 r1 r2 r3 r4
  clear hf hk hbx hkx ex5 ebd FXx FXw FXo FXt BXx BXw BXo BXt KSx KSw KSo KSt A0 A1 A2 A3 A4 K0 K1 K2 K3 K4
  go_wp2_with (fail)
  rw [← EXX.out.1, ← EXX.out.2]
  clear EXX p0 p1 p2 p3 p4 r0 r1 r2 r3 r4
  refine (C26.out _ _ _ _ _ FX.out.pl PD.out).mono ?_
  rintro e y1 ⟨rfl, hk⟩
  have J1 := Hid.mk hk
  clear hk
  obtain ⟨⟨p0, p1, p2, p3, p4⟩, _⟩ := five (J1.out.heap BY.out (by simp))
  obtain ⟨⟨r0, r1, r2, r3, r4⟩, _⟩ := five (J1.out.heap BXd.out (by simp))
  go_wp2_with (fail)
  clear p0 p1 p2 p3 p4 r0 r1 r2 r3 r4
  refine (C26.out _ _ _ _ _ (FY.out.keep J1.out).pl (PD.out.keep J1.out)).mono ?_
  rintro e y2 ⟨rfl, hk⟩
  have J2 := Hid.mk (J1.out.trans hk)
  clear hk
  obtain ⟨⟨p0, p1, p2, p3, p4⟩, _⟩ := five (J2.out.heap BO.out (by simp))
  have HPO := Hid.mk (FO.out.pl.keep J2.out)
  have C26o := Hid.mk (fun (u : World) (qo : Option Addr) (c k : Nat) (h1 : Pl u po 3 (fun _ => 1) (fun i _ => tnF i)) (h2 : Pl u qo 3 (fun _ => 1) (fun i _ => tnF i)) => same_true 1 1 10 false po qo 3 c k (fun _ => 1) (fun i _ => tnF i) u h1 h2 (by omega) (fun _ _ => by omega))
  go_wp2_with (fail)
  go_region_held_law (fun u => u.cell? ⟨bo', 0, none⟩ = some (.int .i64 1) ∧ u.cell? ⟨bo', 1, none⟩ = some (.int .i64 1) ∧ u.cell? ⟨bo', 2, none⟩ = some (.int .i64 10) ∧ u.cell? ⟨bo', 3, none⟩ = some (.bool false) ∧ u.cell? ⟨bo', 4, none⟩ = some (.slice po 3 3)) (first | exact ⟨p0, p1, p2, p3, p4⟩ | exact s5 | go_keep) ((first | (go_at_call 17; refine (tiny_any _).mono ?_; rintro e y3 ⟨tg, rfl, htg, hk3⟩; have s5 := And.intro (cell_keep hk3 p0 (by simp)) (And.intro (cell_keep hk3 p1 (by simp)) (And.intro (cell_keep hk3 p2 (by simp)) (And.intro (cell_keep hk3 p3 (by simp)) (cell_keep hk3 p4 (by simp)))))) | (go_at_call 26; refine (C26o.out _ _ _ _ (HPO.out.keep hk3.undrew) (tiny_pl htg)).mono ?_; rintro e y4 ⟨rfl, hk4⟩; have s5 := And.intro (cell_keep hk4 s5.1 (by simp)) (And.intro (cell_keep hk4 s5.2.1 (by simp)) (And.intro (cell_keep hk4 s5.2.2.1 (by simp)) (And.intro (cell_keep hk4 s5.2.2.2.1 (by simp)) (cell_keep hk4 s5.2.2.2.2 (by simp))))))))
  have J3 := Hid.mk ((J2.out.trans hk3.undrew).trans hk4)
  clear htg hk3 hk4 s5 p0 p1 p2 p3 p4 HPO C26o
  obtain ⟨⟨p0, p1, p2, p3, p4⟩, _⟩ := five (J3.out.heap BW.out (by simp))
  obtain ⟨⟨r0, r1, r2, r3, r4⟩, _⟩ := five (J3.out.heap BXd.out (by simp))
  go_wp2_with (fail)
  clear p0 p1 p2 p3 p4 r0 r1 r2 r3 r4
  refine (C26.out _ _ _ _ _ (FW.out.keep J3.out).pl (PD.out.keep J3.out)).mono ?_
  rintro e y5 ⟨rfl, hk⟩
  have J5 := Hid.mk (J3.out.trans hk)
  clear hk
  have K14 := Hid.mk (K5.out.trans J5.out)
  have AA := Hid.mk (A5.out.keep J5.out)
  obtain ⟨V, eV⟩ : ∃ V, vF (vF (vF (vF (fun _ => .slice none 0 0) 0 bsx ln) (0 + n) bsw ln) (0 + n + n) bso (fun _ => 1)) (0 + n + n + 3) bst ln = V := ⟨_, rfl⟩
  have hln : ∀ i, (lF (lF (lF (lF (fun _ => []) 0 ln F) (0 + n) ln F) (0 + n + n) (fun _ => 1) (fun i _ => tnF i)) (0 + n + n + 3) ln F i).length ≤ 1000000000 := by
    have hl9 : ∀ i, ln i ≤ 1000000000 := fun i => Nat.le_trans (HXL.out i) (by omega)
    exact lF_len (lF_len (lF_len (lF_len (fun _ => by simp) hl9) hl9) (fun _ => by omega)) hl9
  obtain ⟨ls, els⟩ : ∃ ls, lF (lF (lF (lF (fun _ => []) 0 ln F) (0 + n) ln F) (0 + n + n) (fun _ => 1) (fun i _ => tnF i)) (0 + n + n + 3) ln F = ls := ⟨_, rfl⟩
  rw [els] at hln
  rw [eV, els] at AA
  have hB14 := K14.out.heap HBC.out (by simp)
  have hB14s : Bk < y5.heap.size := lt_of_block hB14
  have CK := Hid.mk (accs_book (Bk := Bk) AA.out K14.out (lt_of_block HBC.out) (by omega) (by omega) hln)
  have HPx := Hid.mk ((FX.out.keep J5.out).held (k := 0) (V := V) hB14 (fun i hi => by rw [← eV, vF_lo (by omega), vF_lo (by omega), vF_lo (by omega), vF_hi]))
  have HPw := Hid.mk ((FW.out.keep J5.out).held (k := 0 + n) (V := V) hB14 (fun i hi => by rw [← eV, vF_lo (by omega), vF_lo (by omega), vF_hi]))
  have HPo := Hid.mk ((FO.out.keep J5.out).held (k := 0 + n + n) (V := V) hB14 (fun i hi => by rw [← eV, vF_lo (by omega), vF_hi]))
  have HPt := Hid.mk ((FY.out.keep J5.out).held (k := 0 + n + n + 3) (V := V) hB14 (fun i hi => by rw [← eV, vF_hi]))
  have NB : ∀ {g : Nat} {cs : Array Value} {t : TypeId}, t ≠ 46 → y5.heap[g]? = some (.cells cs t (0, 0)) → g ≠ Bk := fun ht hg e => by
    rw [e, hB14] at hg
    simp at hg
    exact ht hg.2.symm
  have B14x := Hid.mk (J5.out.heap BX.out (by simp))
  have B14w := Hid.mk (J5.out.heap BW.out (by simp))
  have B14o := Hid.mk (J5.out.heap BO.out (by simp))
  have B14t := Hid.mk (J5.out.heap BY.out (by simp))
  have B14c := Hid.mk (K14.out.heap HC.out (by simp))
  have B14s := Hid.mk (K14.out.heap HSC.out (by simp))
  have O14x := Hid.mk (FX.out.keep J5.out).own
  have O14w := Hid.mk (FW.out.keep J5.out).own
  have O14t := Hid.mk (FY.out.keep J5.out).own
  have NE : Hid (bx ≠ Bk ∧ bw ≠ Bk ∧ bo' ≠ Bk ∧ bt ≠ Bk ∧ cg ≠ Bk ∧ sb ≠ Bk) := Hid.mk ⟨NB (by decide) B14x.out, NB (by decide) B14w.out, NB (by decide) B14o.out, NB (by decide) B14t.out, NB (by decide) B14c.out, NB (by decide) B14s.out⟩
  have HB14 := Hid.mk (And.intro hB14 hB14s)
  have S0 := Hid.mk (bks_new hB14 V ls)
  obtain ⟨⟨p0, p1, p2, p3, p4⟩, _⟩ := five B14x.out
  clear hB14 hB14s NB hln eV els AA BX BW BO BY BXd PD FX FW FO FY A5 J1 J2 J3 J5
  go_wp2_with (fail)
  clear p0 p1 p2 p3 p4
  refine (held_any y5 Bk 0 n (0 + n + n + 3 + n) n a1 a2 a3 a4 px V ls HB14.out.2 (by omega) (by omega) CK.out.1 HPx.out _ S0.out).mono ?_
  rintro e z1 ⟨rfl, hs⟩
  have S1 := Hid.mk hs
  obtain ⟨⟨p0, p1, p2, p3, p4⟩, _⟩ := five (hs.kept.heap B14w.out (by simpa using NE.out.2.1))
  clear hs
  go_wp2_with (fail)
  clear p0 p1 p2 p3 p4
  refine (held_any y5 Bk (0 + n) n (0 + n + n + 3 + n) n a1 a2 a3 a4 pw V ls HB14.out.2 (by omega) (by omega) CK.out.1 HPw.out _ S1.out).mono ?_
  rintro e z2 ⟨rfl, hs⟩
  have S2 := Hid.mk hs
  obtain ⟨⟨p0, p1, p2, p3, p4⟩, _⟩ := five (hs.kept.heap B14o.out (by simpa using NE.out.2.2.1))
  clear hs
  go_wp2_with (fail)
  clear p0 p1 p2 p3 p4
  refine (held_any y5 Bk (0 + n + n) 3 (0 + n + n + 3 + n) 3 1 1 10 false po V ls HB14.out.2 (by omega) (by omega) CK.out.1 HPo.out _ S2.out).mono ?_
  rintro e z3 ⟨rfl, hs⟩
  have S3 := Hid.mk hs
  obtain ⟨⟨p0, p1, p2, p3, p4⟩, _⟩ := five (hs.kept.heap B14t.out (by simpa using NE.out.2.2.2.1))
  clear hs
  go_wp2_with (fail)
  clear p0 p1 p2 p3 p4
  refine (held_any y5 Bk (0 + n + n + 3) n (0 + n + n + 3 + n) n a1 a2 a3 a4 pt V ls HB14.out.2 (by omega) (by omega) CK.out.1 HPt.out _ S3.out).mono ?_
  rintro e z4 ⟨rfl, hs⟩
  have S4 := Hid.mk hs
  clear hs
  go_wp2_with (fail)
  refine (CK.out.2 _ S4.out).mono ?_
  rintro e z5 ⟨rfl, hkw, hkt⟩
  obtain ⟨ba, bb, hbk⟩ := S4.out.box
  have up : ∀ {g : Nat} {cs : Array Value} {t : TypeId}, t ≠ 70 → g ≠ Bk → y5.heap[g]? = some (.cells cs t (0, 0)) → z5.heap[g]? = some (.cells cs t (0, 0)) := fun ht hg hc => hkt _ _ _ ht hg (S4.out.kept.heap hc (by simpa using hg))
  have B5x := Hid.mk (up (by decide) NE.out.1 B14x.out)
  have B5w := Hid.mk (up (by decide) NE.out.2.1 B14w.out)
  have B5t := Hid.mk (up (by decide) NE.out.2.2.2.1 B14t.out)
  have B5c := Hid.mk (up (by decide) NE.out.2.2.2.2.1 B14c.out)
  have B5s := Hid.mk (up (by decide) NE.out.2.2.2.2.2 B14s.out)
  have upO : ∀ {po : Option Addr} {l : List Value}, OwL y5 po l → OwL z5 po l := fun h => (h.kept S4.out.kept (fun b hb hm => by
    obtain ⟨G, rfl, hg⟩ := h.2 b hb
    simp at hm
    subst hm
    have := HB14.out.1
    rw [hg] at this
    simp at this)).kpt hkt hbk
  have O5x := Hid.mk (upO O14x.out)
  have O5w := Hid.mk (upO O14w.out)
  have O5t := Hid.mk (upO O14t.out)
  have KW5 := Hid.mk (HKC.out.step hkw (fun x hx => by simp at hx; subst hx; exact .inr HBk.out.2))
  clear hkw hkt hbk up upO S0 S1 S2 S3 S4 CK HPx HPw HPo HPt B14x B14w B14o B14t B14c B14s O14x O14w O14t
  obtain ⟨⟨p0, p1, p2, p3, p4⟩, _⟩ := five B5x.out
  obtain ⟨⟨r0, r1, r2, r3, r4⟩, _⟩ := five B5t.out
  go_wp2_with (fail)
  clear p0 p1 p2 p3 p4 r0 r1 r2 r3 r4
  refine (outer_any px pt n n _ _ z5 (outC_length _ _ _ _) (outC_length _ _ _ _) (by omega) (by omega) O5x.out O5t.out (fun b b' hb hb' => by have h1 := GX.out b hb; have h2 := GY.out b' hb'; have h3 := SZ.out; omega)).mono ?_
  rintro e z6 ⟨rfl, hk6, ⟨lx6, hlx6, ho6x⟩, lt6, hlt6, ho6t⟩
  have far6 : ∀ {g : Nat} {cs : Array Value} {t : TypeId}, t ≠ 68 → z5.heap[g]? = some (.cells cs t (0, 0)) → z6.heap[g]? = some (.cells cs t (0, 0)) := fun ht hg => hk6.heap hg (by simp only [List.mem_append, not_or]; exact ⟨O5x.out.far hg ht, O5t.out.far hg ht⟩)
  have B6w := Hid.mk (far6 (by decide) B5w.out)
  have B6t := Hid.mk (far6 (by decide) B5t.out)
  have B6c := Hid.mk (far6 (by decide) B5c.out)
  have B6s := Hid.mk (far6 (by decide) B5s.out)
  have O6w := Hid.mk (O5w.out.kept hk6 (fun b hb hm => by
    have h2 := GW.out b hb
    have h3 := SZ.out
    simp only [oB, List.mem_append, List.mem_map, Option.mem_toList] at hm
    rcases hm with ⟨b', hb', e⟩ | ⟨b', hb', e⟩
    · have h1 := GX.out b' hb'
      omega
    · have h1 := GY.out b' hb'
      omega))
  have O6t := Hid.mk ho6t
  have HL6 := Hid.mk hlt6
  have KW6 := Hid.mk (KW5.out.step hk6 (fun x hx => .inr (by
    have h0 := LOx.out
    have h1 := LOt.out
    have h2 := HKC.out.size
    simp only [oB, List.mem_append, List.mem_map, Option.mem_toList] at hx
    rcases hx with ⟨b', hb', rfl⟩ | ⟨b', hb', rfl⟩
    · exact Nat.le_trans h2 (GX0.out b' hb')
    · have h1 := GY.out b' hb'
      have h3 := KA.out
      omega)))
  obtain ⟨⟨p0, p1, p2, p3, p4⟩, _⟩ := five B6w.out
  obtain ⟨⟨r0, r1, r2, r3, r4⟩, _⟩ := five B6t.out
  clear hk6 ho6x ho6t far6 B5x B5w B5t B5c B5s O5x O5w O5t hlx6 hlt6
  go_wp2_with (fail)
  clear p0 p1 p2 p3 p4 r0 r1 r2 r3 r4
  refine (outer_any pw pt n n _ _ z6 (outC_length _ _ _ _) HL6.out (by omega) (by omega) O6w.out O6t.out (fun b b' hb hb' => by have h1 := GW.out b hb; have h2 := GY.out b' hb'; have h3 := SZ.out; omega)).mono ?_
  rintro e z7 ⟨rfl, hk7, -, -⟩
  have far7 : ∀ {g : Nat} {cs : Array Value} {t : TypeId}, t ≠ 68 → z6.heap[g]? = some (.cells cs t (0, 0)) → z7.heap[g]? = some (.cells cs t (0, 0)) := fun ht hg => hk7.heap hg (by simp only [List.mem_append, not_or]; exact ⟨O6w.out.far hg ht, O6t.out.far hg ht⟩)
  have B7c := Hid.mk (far7 (by decide) B6c.out)
  have B7s := Hid.mk (far7 (by decide) B6s.out)
  have KW7 := Hid.mk (KW6.out.step hk7 (fun x hx => .inr (by
    have h2 := HKC.out.size
    have h3 := KA.out
    simp only [oB, List.mem_append, List.mem_map, Option.mem_toList] at hx
    rcases hx with ⟨b', hb', rfl⟩ | ⟨b', hb', rfl⟩
    · have h1 := GW.out b' hb'
      omega
    · have h1 := GY.out b' hb'
      omega)))
  clear hk7 far7 B6w B6t B6c B6s O6w O6t HL6
  go_wp2_with (fail)
  refine (Bt.back_call cg bo cb M l z7 (HBR.out.keep (kept_to KW7.out)) HL.out HM.out (by omega) B7c.out (fun h0 b off e => ?_)).mono ?_
  · rcases HBR.out with h | ⟨b', off', e', hc⟩
    · have := HM.out; rw [h] at this; simp at this; omega
    · rw [e'] at e
      simp at e
      obtain ⟨rfl, rfl⟩ := e
      have h1 := World.block_lt_of_cell? w _ (hc 0 (by have := HM.out; omega))
      have h2 := HCG.out.1
      have h3 : b' < w.heap.size := h1
      omega
  rintro e z8 ⟨rfl, hc8, hk8⟩
  have hk8 := kept_of hk8
  have KW8 := Hid.mk (KW7.out.step hk8 (fun x hx => by simp at hx; subst hx; exact .inr HCG.out.1))
  have B8s := Hid.mk (hk8.heap B7s.out (by simpa using fun e => NCS.out e))
  obtain ⟨l9, el9⟩ : ∃ l9, (l ++ List.replicate 70 167).map (· ^^^ 90) = l9 := ⟨_, rfl⟩
  have hl9 : (∀ b ∈ l9, b < 256) ∧ M ≤ l9.length := by
    rw [← el9]
    refine ⟨fun b hb => ?_, by have := HM.out; simp; omega⟩
    simp only [List.mem_map] at hb
    obtain ⟨x, hx, rfl⟩ := hb
    have hx2 : x < 256 := Bt.lentL_byts HL.out x hx
    exact Nat.xor_lt_two_pow (n := 8) hx2 (by decide)
  rw [el9] at hc8
  have HC8 := Hid.mk hc8
  have hfb : ∀ i, i < M → gb l9 i < 256 := fun i hi => gb_lt hl9.1 i (by omega)
  have CR : Hid (∀ u : World, u.heap[cg]? = some (.cells (l9.map Bt.byt).toArray 5 (0, 0)) → RB u (some ⟨cg, 0, none⟩) M (gb l9)) := Hid.mk (fun u hg => .inr ⟨cg, 0, rfl, fun i hi => by
    rw [Nat.zero_add, cell_of_row _ _ _ _ _ _ hg, List.getElem?_toArray, List.getElem?_map, List.getElem?_eq_getElem (show i < l9.length by omega)]
    unfold gb Bt.byt
    simp [List.getElem?_eq_getElem (show i < l9.length by omega)]⟩)
  have C25' := Hid.mk (fun (u : World) (hg : u.heap[cg]? = some (.cells (l9.map Bt.byt).toArray 5 (0, 0))) => ask_form v W H D A (some ⟨cg, 0, none⟩) M (M + 70) (gb l9) u (CR.out u hg) hfb (by omega))
  have C24' := Hid.mk (fun (u : World) (hTu : Tab u) (hg : u.heap[cg]? = some (.cells (l9.map Bt.byt).toArray 5 (0, 0))) => un_form v W H D A (some ⟨cg, 0, none⟩) M (M + 70) (gb l9) u hTu (CR.out u hg) hfb (by omega))
  have hxl := xL_le v W H D A M (gb l9)
  have hxn := xN_le (unE v W H D A M (gb l9)) A
  obtain ⟨E', eE⟩ : ∃ E', unE v W H D A M (gb l9) = E' := ⟨_, rfl⟩
  rw [eE] at C24' C25' hxl hxn
  obtain ⟨c1, e1⟩ : ∃ c1, xI E' W = c1 := ⟨_, rfl⟩
  obtain ⟨c2, e2⟩ : ∃ c2, xI E' H = c2 := ⟨_, rfl⟩
  obtain ⟨c3, e3⟩ : ∃ c3, xI E' D = c3 := ⟨_, rfl⟩
  obtain ⟨c4, e4⟩ : ∃ c4, xB E' A = c4 := ⟨_, rfl⟩
  obtain ⟨n', e5⟩ : ∃ n', xN E' A = n' := ⟨_, rfl⟩
  obtain ⟨ln', e6⟩ : ∃ ln', xL E' W H = ln' := ⟨_, rfl⟩
  obtain ⟨F', e7⟩ : ∃ F', unF v W H (gb l9) = F' := ⟨_, rfl⟩
  rw [e1, e2, e3, e4, e5, e6, e7] at C24' C25'
  rw [e6] at hxl
  rw [e5] at hxn
  have C26' := Hid.mk (fun (u : World) (po qo : Option Addr) (c k : Nat) (h1 : Pl u po n' ln' F') (h2 : Pl u qo n' ln' F') => same_true c1 c2 c3 c4 po qo n' c k ln' F' u h1 h2 (by omega) (fun i _ => by have := hxl i; omega))
  clear hfb hl9 el9 hc8 hk8 eE e1 e2 e3 e4 e5 e6 e7 hxl CR C24 C25 C26
  obtain ⟨q0, q1, q2, q3⟩ := shape4 B8s.out
  go_wp2_with (fail)
  refine (C25'.out _ HC8.out).mono ?_
  rintro e v9 ⟨pe, ke, rfl, hf, hk⟩
  have hbx := heap_alloc_new v9 (.cells #[.int .i64 c1, .int .i64 c2, .int .i64 c3, .bool c4, .slice pe n' ke] 31)
  have hkx := alloc_kept v9 (.cells #[.int .i64 c1, .int .i64 c2, .int .i64 c3, .bool c4, .slice pe n' ke] 31)
  have PE := Hid.mk (hf.keep hkx)
  have K9 := Hid.mk (hk.trans hkx)
  obtain ⟨x9, ex9⟩ : ∃ x9, x9 = v9.alloc (.cells #[.int .i64 c1, .int .i64 c2, .int .i64 c3, .bool c4, .slice pe n' ke] 31) := ⟨_, rfl⟩
  obtain ⟨be, ebe⟩ : ∃ be, be = v9.heap.size := ⟨_, rfl⟩
  rw [← ex9] at hbx PE K9
  rw [← ebe] at hbx
  have BXe := Hid.mk hbx
  have EXX := Hid.mk (And.intro ex9 ebe)
  clear q0 q1 q2 q3
  obtain ⟨q0, q1, q2, q3⟩ := shape4 (K9.out.heap B8s.out (by simp))
  rw [ex9] at q0 q1 q2 q3
  clear hf hk hbx hkx ex9 ebe
  go_wp2_with (fail)
  rw [← EXX.out.1, ← EXX.out.2]
  clear EXX
  refine (C24'.out _ (HT.out.keep (KW8.out.trans K9.out) (by simp)) (K9.out.heap HC8.out (by simp))).mono ?_
  rintro e v10 ⟨pz', bsz, rfl, hf, hk⟩
  have hbx := heap_alloc_new v10 (.cells #[.int .i64 c1, .int .i64 c2, .int .i64 c3, .bool c4, .slice pz' n' n'] 31)
  have hkx := alloc_kept v10 (.cells #[.int .i64 c1, .int .i64 c2, .int .i64 c3, .bool c4, .slice pz' n' n'] 31)
  have PZ := Hid.mk (hf.keep hkx).pl
  have K10 := Hid.mk (hk.trans hkx)
  obtain ⟨x10, ex10⟩ : ∃ x10, x10 = v10.alloc (.cells #[.int .i64 c1, .int .i64 c2, .int .i64 c3, .bool c4, .slice pz' n' n'] 31) := ⟨_, rfl⟩
  obtain ⟨bz, ebz⟩ : ∃ bz, bz = v10.heap.size := ⟨_, rfl⟩
  rw [← ex10] at hbx PZ K10
  rw [← ebz] at hbx
  have EXX := Hid.mk (And.intro ex10 ebz)
  clear q0 q1 q2 q3
  obtain ⟨⟨p0, p1, p2, p3, p4⟩, _⟩ := five hbx
  obtain ⟨⟨r0, r1, r2, r3, r4⟩, _⟩ := five (K10.out.heap BXe.out (by simp))
  rw [ex10] at p0 p1 p2 p3 p4 r0 r1 r2 r3 r4
  rw [ebz] at p0 p1 p2 p3 p4
  clear hf hk hbx hkx ex10 ebz
  go_wp2_with (fail)
  rw [← EXX.out.1]
  clear EXX p0 p1 p2 p3 p4 r0 r1 r2 r3 r4
  refine (C26'.out _ _ _ _ _ PZ.out (PE.out.keep K10.out)).mono ?_
  rintro e v11 ⟨rfl, hk⟩
  have KE := Hid.mk (((KW8.out.trans K9.out).trans K10.out).trans hk)
  clear hk
  go_wp2_with (fail)
  go_ret
  exact ⟨by simp, KE.out⟩
end Go.Proofs.YtodlkpcbkilglaaDoor
