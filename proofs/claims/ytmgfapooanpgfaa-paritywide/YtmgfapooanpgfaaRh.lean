import Derived.Test.YtmgfapooanpgfaaRg
namespace Go.Proofs.Ytmgfapooanpgfaa
open Go.RowKit

theorem fn_out {L : List (List Nat)} {j x : Nat} (h : (L.getD j []).length ≤ x) : fn L j x = 0 := by
  unfold fn
  rw [List.getD_eq_getElem?_getD, List.getElem?_eq_none h]; rfl
theorem mk_out {L : List (List Nat)} {i x : Nat} (h : wdt L ≤ x) : mk L i x = 0 := by
  unfold mk
  apply sm_none
  intro j hj
  rw [fn_out (Nat.le_trans (wx_ge (fun j => (L.getD j []).length) hj) h), mu_zero]

/-- Lists of rows by a function. -/
def cl (X : Nat → Nat → Nat) (ln : Nat → Nat) (N : Nat) : List (List Nat) := (List.range N).map fun k => rg (X k) (ln k)
theorem cl_length (X : Nat → Nat → Nat) (ln : Nat → Nat) (N : Nat) : (cl X ln N).length = N := by simp [cl]
theorem cl_getD (X : Nat → Nat → Nat) (ln : Nat → Nat) (N k : Nat) (h : k < N) : (cl X ln N).getD k [] = rg (X k) (ln k) := by simp [cl, h]
theorem Ct.at {w : World} {g B N : Nat} {ln Z : Nat → Nat} {X : Nat → Nat → Nat} (h : Ct w g B N ln Z) (hc : Cn Z ln N X) {k : Nat} (hk : k < N) : w.cell? ⟨g, k, none⟩ = some (.slice (some ⟨B, po ln k, none⟩) (ln k) (ln k)) ∧ Reads w (some ⟨B, po ln k, none⟩) (rg (X k) (ln k)) :=
  ⟨h.out.at hk, ct_reads (N := N) h.row rfl (fun x hx => hc k hk x hx) hk⟩
theorem Ct.mc {w : World} {g B N : Nat} {ln Z : Nat → Nat} {X : Nat → Nat → Nat} (h : Ct w g B N ln Z) (hc : Cn Z ln N X) : MC w (some ⟨g, 0, none⟩) (cl X ln N) := by
  refine .inr ⟨g, 0, rfl, fun i hi => ?_⟩
  rw [cl_length] at hi
  obtain ⟨h1, h2⟩ := h.at hc hi
  rw [cl_getD _ _ _ _ hi, rg_length, Nat.zero_add]
  exact ⟨_, _, h1, Nat.le_refl _, h2⟩

/-- All comes back. -/
theorem restore_back (ao so mo lo : Option Addr) (n ca cs p cm m cl_ : Nat) (L Lr Lm : List (List Nat)) (sz lf : Nat → Nat) (w : World) (hLr : MC w ao Lr) (hLm : MC w mo Lm) (bLr : Bm Lr) (bLm : Bm Lm) (hn : Lr.length = n) (hp : Lm.length = p) (h1 : n ≤ 200) (h2 : p ≤ 16)
    (na : ao = none → n = 0 ∧ ca = 0) (nm_ : mo = none → p = 0 ∧ cm = 0) (ns : so = none → n = 0 ∧ cs = 0) (hs : RdI w so (fun i => (sz i : Int)) n) (hsz : ∀ i, sz i ≤ 16777216) (hl : RdI w lo (fun i => (lf i : Int)) m) (hlf : ∀ i, i < m → lf i < n + p) (hm : m ≤ 140737488355328)
    (hL : L.length = n) (bL : Bm L) (hz : ∀ j, j < n → sz j = (L.getD j []).length) (hgr : ∀ j, j < n → gon lf m j = false → Lr.getD j [] = L.getD j []) (hgm : ∀ i, i < p → gon lf m (n + i) = false → Lm.getD i [] = rg (mk L i) (wdt L)) (hc : cnt (gon lf m) (n + p) ≤ p) :
    Calls Try.prog 14 #[.slice ao n ca, .slice so n cs, .slice mo p cm, .slice lo m cl_] w fun e w' => ∃ g B Z, e = .returned (.tuple #[.slice (some ⟨g, 0, none⟩) (n + p) (n + p), .int .i64 0]) ∧ Ct w' g B (n + p) (fun k => if k < n then (L.getD k []).length else wdt L) Z ∧ Cn Z (fun k => if k < n then (L.getD k []).length else wdt L) (n + p) (fun k x => if k < n then fn L k x else mk L (k - n) x) ∧ (∀ q, Z q < 256) ∧ w.heap.size ≤ g ∧ w.heap.size ≤ B ∧ Kept [] w w' := by
  have hW : wx sz n = wdt L := by
    unfold wdt
    rw [hL]
    exact wx_congr hz
  refine (restore_any ao so mo lo n ca cs p cm m cl_ Lr Lm sz lf w hLr hLm bLr bLm hn hp h1 h2 na nm_ ns hs hsz hl hlf hm).mono ?_
  intro e w' hP
  generalize gon lf m = go at hP hgr hgm hc
  unfold RsPost at hP
  have hgv : ∀ k, k < n + p → go k = false → gvn Lr Lm n k = if k < n then L.getD k [] else rg (mk L (k - n)) (wdt L) := by
    intro k hk hg
    unfold gvn
    by_cases h : k < n
    · rw [if_pos h, if_pos h, hgr k h hg]
    · rw [if_neg h, if_neg h, hgm (k - n) (by omega) (by rw [show n + (k - n) = k by omega]; exact hg)]
  have hal : alg (fun k => (gvn Lr Lm n k).length) (lnf sz n) go (n + p) = true := alg_true.2 (fun k hk hg => by
    show (gvn Lr Lm n k).length = _
    rw [hgv k hk hg]
    unfold lnf
    by_cases h : k < n
    · rw [if_pos h, if_pos h, hz k h]
    · rw [if_neg h, if_neg h, rg_length, hW])
  rw [hal, if_neg (by simp), if_neg (by omega)] at hP
  obtain ⟨g, B, Z, E, he, hS, hE, hct, hcn, hZ, hg, hB, hk⟩ := hP
  have hA : ∀ k, k < n + p → go k = false → ∀ x, aF go Lr Lm n k x = if k < n then fn L k x else mk L (k - n) x := by
    intro k hk hg x
    unfold aF
    rw [hg, if_neg (by simp), hgv k hk hg]
    by_cases h : k < n
    · rw [if_pos h, if_pos h]; rfl
    · rw [if_neg h, if_neg h, rg_getD0 _ _ _ (fun hx => mk_out hx)]
  have hF : Slv go n p (aF go Lr Lm n) (fn L) := by
    intro k hk x
    have hu := lU_at (p := p) (by rw [lU_len hc]; exact hk : k < (lU go n p).length)
    rw [hA _ (by omega) hu.2, if_neg (by omega), Nat.add_sub_cancel_left]
    unfold mk
    rw [hL]
    refine sm_congr _ (fun j hj => ?_)
    by_cases hg : go j = true
    · rw [if_pos hg]
    · rw [if_neg hg, hA j (by omega) (by simpa using hg), if_pos hj]
  have hEF : ∀ x j, j < n → go j = true → E j x = fn L j x := fun x => slv_one h1 h2 hc hS hF x (fun j => hE j x) (fun j _ => fn_lt bL j x)
  have hln : lnf sz n = fun k => if k < n then (if k < n then (L.getD k []).length else 0) else wdt L := by
    funext k
    unfold lnf
    by_cases h : k < n
    · rw [if_pos h, if_pos h, if_pos h, hz k h]
    · rw [if_neg h, if_neg h, hW]
  have hln2 : lnf sz n = fun k => if k < n then (L.getD k []).length else wdt L := by
    rw [hln]
    funext k
    by_cases h : k < n
    · simp only [if_pos h]
    · simp only [if_neg h]
  rw [hln2] at hct hcn
  refine ⟨g, B, Z, he, hct, hcn.congr (fun k hk x hx => ?_), hZ, hg, hB, hk⟩
  have hrow : ∀ j, j < n → ∀ x, (if go j then E j x else aF go Lr Lm n j x) = fn L j x := by
    intro j hj x
    cases hgj : go j
    · rw [if_neg (by simp), hA j (by omega) hgj, if_pos hj]
    · rw [if_pos rfl, hEF x j hj hgj]
  unfold oF
  by_cases h : k < n
  · rw [if_pos h, if_pos h, hrow k h]
  · rw [if_neg h, if_neg h]
    cases hgk : go k
    · rw [if_neg (by simp), hA k hk hgk, if_neg h]
    · rw [if_pos rfl]
      unfold mk
      rw [hL]
      refine sm_congr _ (fun j hj => ?_)
      congr 1
      unfold rF
      by_cases hxl : x < (if j < n then (L.getD j []).length else wdt L)
      · rw [if_pos hxl, hrow j hj]
      · rw [if_neg hxl, fn_out (by rw [if_pos hj] at hxl; omega)]
end Go.Proofs.Ytmgfapooanpgfaa
