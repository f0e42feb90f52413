import Derived.Test.YtjnmnkheichflabBU
namespace Go.Proofs.Ytjnmnkheichflab
open Go.RowKit

theorem Bks.congr {w : World} {Bk n : Nat} {vl vw : Value} {V V2 U : Nat → Value} {ls ls2 : Nat → List Nat} (h : Bks w Bk n vl vw V U ls) (h1 : ∀ i, i < n → V2 i = V i) (h2 : ∀ i, i < n → ls2 i = ls i) : Bks w Bk n vl vw V2 U ls2 := by
  have e : (List.range n).map V2 = (List.range n).map V := List.map_congr_left (fun i hi => h1 i (by simpa using hi))
  exact ⟨h.box, by rw [e]; exact h.l, h.was, h.sep, fun i hi => by rw [h1 i hi, h2 i hi]; exact h.v i hi, fun i hi => by rw [h2 i hi]; exact h.u i hi, fun i j hi hj hij g hg => by rw [h1 j hj]; exact h.apart i j hi hj hij g (by rw [← h1 i hi]; exact hg)⟩

/-- The lists of a book, and a matrix' rows behind them. -/
def vc (V : Nat → Value) (cnt : Nat) (bs : Nat → Nat) (wd : Nat) : Nat → Value := fun i => if i < cnt then V i else .slice (some ⟨bs (i - cnt), 0, none⟩) wd wd
def lc (ls : Nat → List Nat) (cnt : Nat) (F : Nat → Nat → Nat) (wd : Nat) : Nat → List Nat := fun i => if i < cnt then ls i else rg (F (i - cnt)) wd

/-- What a matrix that is held must be. -/
structure Hl (wD : World) (Bk : Nat) (ao : Option Addr) (n : Nat) (bs : Nat → Nat) (wd : Nat) (F : Nat → Nat → Nat) : Prop where
  mt : n = 0 ∨ ∃ g, ao = some ⟨g, 0, none⟩ ∧ Mt wD g n bs wd F ∧ g ≠ Bk
  ne : ∀ i, i < n → bs i ≠ Bk

set_option maxHeartbeats 4000000 in
set_option maxRecDepth 1000000 in
theorem held_any (wD : World) (Bk cnt : Nat) (vl vw : Value) (V U : Nat → Value) (ls : Nat → List Nat) (ao : Option Addr) (ca n wd : Nat) (bs : Nat → Nat) (F : Nat → Nat → Nat) (w : World) (h : Bks w Bk cnt vl vw V U ls) (h1 : ∀ x, vl.ownBlock = some x → wD.heap.size ≤ x) (h2 : ∀ x, vw.ownBlock = some x → wD.heap.size ≤ x) (hk : Kept [Bk] wD w)
    (hm : Hl wD Bk ao n bs wd F) (hap : ∀ i, i < cnt → ∀ x, (V i).ownBlock = some x → ∀ j, j < n → x ≠ bs j) (hn : n ≤ 256) (hc : cnt ≤ 100000) (hw : wd ≤ 140737488355328) :
    Calls Try.prog 12 #[.pointer (some ⟨Bk, 0, none⟩), .slice ao n ca] w fun e w' => e = .returned (.tuple #[]) ∧ ∃ vl' vw' U', Bks w' Bk (cnt + n) vl' vw' (vc V cnt bs wd) U' (lc ls cnt F wd) ∧ (∀ x, vl'.ownBlock = some x → wD.heap.size ≤ x) ∧ (∀ x, vw'.ownBlock = some x → wD.heap.size ≤ x) ∧ Kept [Bk] wD w' := by
  have H := Hid.mk (h.congr (V2 := vc V cnt bs wd) (ls2 := lc ls cnt F wd) (fun i hi => if_pos hi) (fun i hi => if_pos hi))
  have H1 := Hid.mk h1
  have H2 := Hid.mk h2
  have HK := Hid.mk hk
  have HM := Hid.mk hm
  have HA := Hid.mk hap
  clear h h1 h2 hk hm hap
  go_enter Try.func12, Try.ntmps12
  go_wp2
  go_loopw [4] (fun s wr => ∃ (k : Nat) (vl vw : Value) (U : Nat → Value), k ≤ n ∧ s = .int .i64 (k : Int) ∧ Bks wr Bk (cnt + k) vl vw (vc V cnt bs wd) U (lc ls cnt F wd) ∧ (∀ x, vl.ownBlock = some x → wD.heap.size ≤ x) ∧ (∀ x, vw.ownBlock = some x → wD.heap.size ≤ x) ∧ Kept [Bk] wD wr) (fun s _ => n - (intOf s).toNat)
  case atStart => exact ⟨0, vl, vw, U, by omega, rfl, H.out, H1.out, H2.out, HK.out⟩
  case round =>
    obtain ⟨k, vl2, vw2, U2, hk, rfl, hb, h1, h2, hkr⟩ := hrel
    clear H H1 H2 HK
    have HB := Hid.mk hb
    have H1 := Hid.mk h1
    have H2 := Hid.mk h2
    have HK := Hid.mk hkr
    clear hb h1 h2 hkr
    by_cases hlt : k < n
    · obtain ⟨g, hg, mt, hgB⟩ := HM.out.mt.resolve_left (by omega)
      have mt2 := mt.keep HK.out (fun _ => by simpa using hgB) (fun i hi => by simpa using HM.out.ne i hi)
      have e1 := mt2.out k hlt
      have hlst : Lst wr (.slice (some ⟨bs k, 0, none⟩) wd wd) (rg (F k) wd) := .inr ⟨bs k, by rw [rg_length], mt2.row k hlt⟩
      have hsz : wD.heap.size ≤ wr.heap.size := HK.out.size
      have KP := Hid.mk (keep_bks Bk (cnt + k) vl2 vw2 (.slice (some ⟨bs k, 0, none⟩) wd wd) (vc V cnt bs wd) U2 (lc ls cnt F wd) (rg (F k) wd) wr HB.out hlst (fun i hi x hx e => by
        simp [Value.ownBlock] at e
        subst e
        unfold vc at hx
        by_cases h : i < cnt
        · rw [if_pos h] at hx
          exact HA.out i h _ hx k hlt rfl
        · rw [if_neg h] at hx
          simp [Value.ownBlock] at hx
          have := mt.inj (i - cnt) k (by omega) hlt hx
          omega) (by omega) (by rw [rg_length]; omega))
      have ix : (k : Int) < (n : Int) := by omega
      have HS := Hid.mk hsz
      clear mt mt2 hlst hsz
      subst hg
      go_wp2_with (fail)
      refine KP.out.mono ?_
      rintro e w5 ⟨rfl, vl5, vw5, u5, hb5, l1, l2, k5⟩
      have HB5 := Hid.mk (hb5.congr (V2 := vc V cnt bs wd) (ls2 := lc ls cnt F wd) (fun i hi => by
        by_cases e : i = cnt + k
        · subst e; rw [upd_at]; unfold vc; rw [if_neg (by omega), show cnt + k - cnt = k from by omega]
        · rw [upd_far _ _ _ _ e]) (fun i hi => by
        by_cases e : i = cnt + k
        · subst e; rw [upd_at]; unfold lc; rw [if_neg (by omega), show cnt + k - cnt = k from by omega]
        · rw [upd_far _ _ _ _ e]))
      have H15 : Hid (∀ x, vl5.ownBlock = some x → wD.heap.size ≤ x) := Hid.mk (fun x hx => by
        rcases l1 with h | ⟨g2, h, hl⟩
        · exact H1.out x (h ▸ hx)
        · rw [h] at hx; cases hx; exact Nat.le_trans HS.out hl)
      have H25 : Hid (∀ x, vw5.ownBlock = some x → wD.heap.size ≤ x) := Hid.mk (fun x hx => by
        rcases l2 with h | ⟨g2, h, hl⟩
        · exact H2.out x (h ▸ hx)
        · rw [h] at hx; cases hx; exact Nat.le_trans HS.out hl)
      have HK5 := Hid.mk (HK.out.step k5 (fun x hx => by
        simp only [List.mem_cons, List.mem_append, mem_own] at hx
        rcases hx with h | h | h
        · exact .inl (by simp [h])
        · exact .inr (H1.out x h)
        · exact .inr (H2.out x h)))
      clear hb5 l1 l2 k5 KP HB H1 H2 HK
      go_wp2
      go_roundw
      case rel => exact ⟨k + 1, vl5, vw5, _, by omega, by go_num, HB5.out, H15.out, H25.out, HK5.out⟩
      case measure => simp [intOf]; omega
    · obtain rfl : k = n := by omega
      go_wp2
      go_end0
      exact ⟨rfl, vl2, vw2, U2, HB.out, H1.out, H2.out, HK.out⟩
end Go.Proofs.Ytjnmnkheichflab
