import Derived.Test.YthihennifigchaaYd
import Derived.Test.YthihennifigchaaYe
import Derived.Test.YthihennifigchaaYf
import Derived.Test.YthihennifigchaaXkZ
import Derived.Test.YthihennifigchaaFr
namespace Go.Proofs.Ythihennifigchaa
open Go.RowKit

theorem Ln.pc {w0 w : World} {LB : Nat} {V : Value} {n : Nat} {bs ln : Nat → Nat} {LF FT : Nat → Nat → Nat} (h : Ln w0 w LB V n bs ln LF) (hE : ∀ i, i < n → ∀ j, j < ln i → LF i j = FT i j) : Pc w (some ⟨LB, 0, none⟩) n ln FT := by
  refine .inr ⟨LB, 0, rfl, fun i hi => ⟨some ⟨bs i, 0, none⟩, ln i + 7, ?_, by omega, .inr ⟨bs i, 0, rfl, fun j hj => ?_⟩⟩⟩
  · rw [Nat.zero_add, cell_of_row _ _ _ _ _ _ h.lst, List.getElem?_toArray, fl_at _ _ _ (by omega)]
    unfold lsC
    rw [if_pos hi]
  · rw [Nat.zero_add, ← hE i hi j hj]
    exact (h.all.row i hi).at (by omega)
/-- A lent frame in a world that keeps its blocks; told of an older world. -/
theorem Ln.move {w0 w1 w u : World} {LB : Nat} {V : Value} {n : Nat} {bs ln : Nat → Nat} {F : Nat → Nat → Nat} {ks : List Nat} (h : Ln w0 w LB V n bs ln F) (h01 : w1.heap.size ≤ w0.heap.size) (hk : Kept ks w u) (h1 : Kept [] w1 u) (hL : LB ∉ ks) (hV : ∀ g, V.ownBlock = some g → g ∉ ks) (hb : ∀ i, i < n → bs i ∉ ks) : Ln w1 u LB V n bs ln F :=
  ⟨hk.heap h.lst hL, ⟨Bk.own_base (hk.row h.all.own hV) h01, fun i hi => (h.all.row i hi).keep hk (hb i hi), h.all.mon, fun i hi => Nat.le_trans h01 (h.all.lo i hi)⟩, Nat.le_trans h01 h.new, h.oth, h1⟩

/-- What lies in memory beside the Book: the lent frame, its box, the other frame's box and planes. -/
structure Fct (w1 u : World) (XB GB LB : Nat) (V : Value) (n c gc : Nat) (bs ln : Nat → Nat) (W H D : Int) (A : Bool) (go : Option Addr) (LF FT : Nat → Nat → Nat) : Prop where
  xb : u.heap[XB]? = some (.cells #[.int .i64 W, .int .i64 H, .int .i64 D, .bool A, slv LB n (n + 2), V, slv LB (n + 2) (n + 2)] 45 (0, 0))
  gb : u.heap[GB]? = some (.cells #[.int .i64 W, .int .i64 H, .int .i64 D, .bool A, .slice go n gc] 38 (0, 0))
  ln_ : Ln w1 u LB V n bs ln LF
  pg : Pc u go n ln FT
/-- The state of a law's loop: all that is beside the Book. -/
structure Lp (w1 : World) (E : Bk.Rsc) (XB GB LB : Nat) (V : Value) (n c gc : Nat) (bs ln : Nat → Nat) (W H D : Int) (A : Bool) (go : Option Addr) (LF FT : Nat → Nat → Nat) (p : Nat → Bool) (wS : World) : Prop where
  e : E = Bx.snap p wS
  fc : ∀ u, Kept [] w1 u → Kept (Bx.cpl p wS.heap.size) wS u → Fct w1 u XB GB LB V n c gc bs ln W H D A go LF FT
  px : p XB = true ∧ XB < wS.heap.size
  pg : p GB = true ∧ GB < wS.heap.size
  pl : p LB = true ∧ LB < wS.heap.size
  pv : ∀ g, V.ownBlock = some g → p g = true ∧ g < wS.heap.size
  pb : ∀ i, i < n → p (bs i) = true ∧ bs i < wS.heap.size
  lf : ∀ i j, LF i j < 65536
  ft : ∀ i, i < n → ∀ j, j < ln i → LF i j = FT i j
  xg : XB ≠ GB ∧ (∀ i, i < n → bs i ≠ XB) ∧ (∀ i, i < n → bs i ≠ GB) ∧ LB ≠ GB ∧ V.ownBlock ≠ some GB
section
variable {w1 u u9 u10 wS : World} {E : Bk.Rsc} {XB GB LB : Nat} {V : Value} {n c gc gc' : Nat} {bs ln : Nat → Nat} {W H D : Int} {A : Bool} {go go' : Option Addr} {LF FT G : Nat → Nat → Nat} {p : Nat → Bool} {B : Nat} {s : Bx.Bo}
theorem Lp.at (h : Lp w1 s.E XB GB LB V n c gc bs ln W H D A go LF FT p wS) (hB : Bx.BAt w1 u B s) : Fct w1 u XB GB LB V n c gc bs ln W H D A go LF FT := by
  have hE := hB.extra
  rw [h.e] at hE
  exact h.fc u hB.old hE
theorem Fct.keep (h : Fct w1 u XB GB LB V n c gc bs ln W H D A go LF FT) {u' : World} (hk : Kept [] u u') : Fct w1 u' XB GB LB V n c gc bs ln W H D A go LF FT :=
  ⟨hk.heap h.xb (by simp), hk.heap h.gb (by simp), h.ln_.keep0 hk, h.pg.keep hk⟩
/-- The lent frame was turned, and the other frame is what it is now. -/
theorem Lp.turn (h : Lp w1 s.E XB GB LB V n c gc bs ln W H D A go LF FT p wS) (hB : Bx.BAt w1 u B s) (hG : ∀ i j, G i j < 65536) (hL : Ln w1 u9 LB V n bs ln G) (hP : ∀ (w2 : World) (ks : List Nat), Kept ks u9 w2 → (∀ x ∈ ks, x < u.heap.size) → Pc w2 go' n ln G) (hk : Kept (rbs bs n) u u9) (hk2 : Kept [GB] u9 u10)
    (hg : u10.heap[GB]? = some (.cells #[.int .i64 W, .int .i64 H, .int .i64 D, .bool A, .slice go' n gc'] 38 (0, 0))) :
    ∃ E' p', Bx.BAt w1 u10 B { s with E := E' } ∧ Lp w1 E' XB GB LB V n c gc' bs ln W H D A go' G G p' u10 := by
  have hF := h.at hB
  have hE := hB.extra
  rw [h.e] at hE
  have su : wS.heap.size ≤ u.heap.size := hE.size
  have s9 := hk.size
  have s10 := hk2.size
  have F0 : s.E.F = Bx.inn p wS.heap.size := by rw [h.e]; rfl
  have hkk : Kept (rbs bs n ++ [GB]) u u10 := (hk.mono (fun x hx => .inl (List.mem_append.2 (.inl hx)))).step hk2 (fun x hx => .inl (List.mem_append.2 (.inr hx)))
  obtain ⟨p', ep'⟩ : ∃ p' : Nat → Bool, ∀ x, p' x = ((decide (x < wS.heap.size) && p x) || decide (u.heap.size ≤ x)) := ⟨_, fun _ => rfl⟩
  have yes : ∀ x, p x = true ∧ x < wS.heap.size → p' x = true ∧ x < u10.heap.size := fun x hx => ⟨by rw [ep']; simp [hx.1, hx.2], by omega⟩
  have no : ∀ x ∈ Bx.cpl p' u10.heap.size, x < u.heap.size ∧ ¬ (p x = true ∧ x < wS.heap.size) := fun x hx => by
    have h1 := (Bx.mem_cpl.1 hx).2
    rw [ep'] at h1
    simp at h1
    refine ⟨by omega, fun h2 => ?_⟩
    have := h1.1 h2.2
    rw [h2.1] at this
    cases this
  refine ⟨Bx.snap p' u10, p', hB.sete hkk (fun x hx => ?_) (Kept.refl _ _) (fun x hx => ?_), ⟨rfl, fun v hv1 hv2 => ?_, yes _ h.px, yes _ h.pg, yes _ h.pl, fun g hg => yes g (h.pv g hg), fun i hi => yes _ (h.pb i hi), hG, fun _ _ _ _ => rfl, h.xg⟩⟩
  · rw [F0, Bx.mem_inn]
    rcases List.mem_append.1 hx with q | q
    · obtain ⟨i, hi, e⟩ := mem_rbs.1 q
      rw [← e]; exact ⟨(h.pb i hi).2, (h.pb i hi).1⟩
    · simp at q; rw [q]; exact ⟨h.pg.2, h.pg.1⟩
  · have hx : x ∈ Bx.inn p' u10.heap.size := hx
    have h1 := (Bx.mem_inn.1 hx).2
    rw [ep'] at h1
    simp at h1
    rcases h1 with h1 | h1
    · left; rw [F0, Bx.mem_inn]; exact ⟨h1.1, h1.2⟩
    · exact .inr h1
  · have nX : XB ∉ rbs bs n ++ [GB] := fun hm => by
      rcases List.mem_append.1 hm with q | q
      · obtain ⟨i, hi, e⟩ := mem_rbs.1 q; exact h.xg.2.1 i hi e
      · simp at q; exact h.xg.1 q
    have nc : ∀ x, p x = true ∧ x < wS.heap.size → x ∉ Bx.cpl p' u10.heap.size := fun x hx hm => (no x hm).2 hx
    refine ⟨hv2.heap (hkk.heap hF.xb nX) (nc _ h.px), hv2.heap hg (nc _ h.pg), ?_, ?_⟩
    · have k9 : Kept (GB :: Bx.cpl p' u10.heap.size) u9 v := (hk2.mono (fun x hx => .inl (by simp at hx; simp [hx]))).step hv2 (fun x hx => .inl (List.mem_cons_of_mem _ hx))
      refine hL.move (Nat.le_refl _) k9 hv1 (fun hm => ?_) (fun g hg hm => ?_) (fun i hi hm => ?_)
      · rcases List.mem_cons.1 hm with q | q
        · exact h.xg.2.2.2.1 q
        · exact nc _ h.pl q
      · rcases List.mem_cons.1 hm with q | q
        · exact h.xg.2.2.2.2 (by rw [hg, q])
        · exact nc _ (h.pv g hg) q
      · rcases List.mem_cons.1 hm with q | q
        · exact h.xg.2.2.1 i hi q
        · exact nc _ (h.pb i hi) q
    · have k9 : Kept (GB :: Bx.cpl p' u10.heap.size) u9 v := (hk2.mono (fun x hx => .inl (by simp at hx; simp [hx]))).step hv2 (fun x hx => .inl (List.mem_cons_of_mem _ hx))
      refine hP v _ k9 (fun x hx => ?_)
      rcases List.mem_cons.1 hx with q | q
      · rw [q]; have := h.pg.2; omega
      · exact (no x q).1
end
/-- The loop's beginning. -/
theorem Lp.start {w1 w3 w4 w5 w6 : World} {LB : Nat} {V : Value} {n c : Nat} {bs ln : Nat → Nat} {W H D : Int} {A : Bool} {po : Option Addr} {F : Nat → Nat → Nat} {B : Nat} (hB : Bx.BAt w1 w3 B Bx.bo0) (hP : Pc w1 po n ln F) (hF : ∀ i j, F i j < 65536) (hL : Ln w3 w4 LB V n bs ln (fun i => ltF (F i) (ln i)))
    (k5 : Kept [] w4 w5) (x5 : w5.heap[w4.heap.size]? = some (.cells #[.int .i64 W, .int .i64 H, .int .i64 D, .bool A, slv LB n (n + 2), V, slv LB (n + 2) (n + 2)] 45 (0, 0))) (k6 : Kept [] w5 w6) (g6 : w6.heap[w5.heap.size]? = some (.cells #[.int .i64 W, .int .i64 H, .int .i64 D, .bool A, .slice po n c] 38 (0, 0))) :
    ∃ E p, Bx.BAt w1 w6 B { Bx.bo0 with E := E } ∧ Lp w1 E w4.heap.size w5.heap.size LB V n c c bs ln W H D A po (fun i => ltF (F i) (ln i)) F p w6 := by
  have k36 : Kept [] w3 w6 := hL.kept.trans (k5.trans k6)
  have s13 := hB.old.size
  have s34 := hL.kept.size
  have s45 := k5.size
  have s56 := k6.size
  have lX : w4.heap.size < w5.heap.size := lt_of_block x5
  have lG : w5.heap.size < w6.heap.size := lt_of_block g6
  have lL : LB < w4.heap.size := lt_of_block hL.lst
  have lb : ∀ i, i < n → bs i < w4.heap.size := fun i hi => (hL.all.row i hi).lt
  have lv : ∀ g, V.ownBlock = some g → w3.heap.size ≤ g ∧ g < w4.heap.size := fun g hg => own_lt hL.all.own g hg
  obtain ⟨p, ep⟩ : ∃ p : Nat → Bool, ∀ x, p x = decide (w3.heap.size ≤ x) := ⟨_, fun _ => rfl⟩
  have yes : ∀ x, w3.heap.size ≤ x → x < w6.heap.size → p x = true ∧ x < w6.heap.size := fun x h1 h2 => ⟨by rw [ep]; simp [h1], h2⟩
  have nc : ∀ x, w3.heap.size ≤ x → x ∉ Bx.cpl p w6.heap.size := fun x h1 hm => by
    have := (Bx.mem_cpl.1 hm).2
    rw [ep] at this
    simp at this
    omega
  refine ⟨Bx.snap p w6, p, hB.sete k36 (by simp) (Kept.refl _ _) (fun x hx => .inr ?_), ⟨rfl, fun u hu1 hu2 => ⟨hu2.heap (k6.heap x5 (by simp)) (nc _ (by omega)), hu2.heap g6 (nc _ (by omega)), ?_, hP.keep hu1⟩, yes _ (by omega) (by omega), yes _ (by omega) (by omega), yes _ hL.new (by omega), fun g hg => yes g (lv g hg).1 (by have := (lv g hg).2; omega), fun i hi => yes _ (hL.all.lo i hi) (by have := lb i hi; omega), fun i j => ?_, fun i hi j hj => if_pos hj, ⟨by omega, fun i hi => by have := lb i hi; omega, fun i hi => by have := lb i hi; omega, by omega, fun e => by have := (lv _ e).2; omega⟩⟩⟩
  · have h1 := (Bx.mem_inn.1 (show x ∈ Bx.inn p w6.heap.size from hx)).2
    rw [ep] at h1
    simpa using h1
  · exact (hL.keep0 (k5.trans k6)).move s13 hu2 hu1 (nc _ hL.new) (fun g hg => nc g (lv g hg).1) (fun i hi => nc _ (hL.all.lo i hi))
  · show ltF (F i) (ln i) j < 65536
    unfold ltF
    split
    · exact hF i j
    · decide

/-- Cut, both sides, in one form; the program's planes are an answer of the Book's. -/
theorem cut_u (W H D X Y rw rh : Int) (A : Bool) (n : Nat) (ln : Nat → Nat) (F : Nat → Nat → Nat) (hF : ∀ i, i < n → ∀ j, j < ln i → F i j < 65536) (hn : n ≤ 9223372036854775807) (hln : ∀ i, i < n → ln i ≤ 9223372036854775807) (hX : -9223372036854775808 ≤ X ∧ X ≤ 9223372036854775807) (hY : -9223372036854775808 ≤ Y ∧ Y ≤ 9223372036854775807) :
    ∃ (fW fH fD : Int) (fA : Bool) (fn : Nat) (fE : Int) (lm : Nat → Nat) (G : Nat → Nat → Nat), fn ≤ 4 ∧ (∀ i, i < fn → lm i ≤ 100000000) ∧
    (∀ (po : Option Addr) (c : Nat) (w0 w : World) (B d K : Nat) (s : Bx.Bo), Pc w po n ln F → Bx.BAt w0 w B s → Bx.Rq s d K → 4 ≤ K → Calls Try.prog 36 #[frv W H D A po n c, rcv X Y rw rh] w fun e w' => ∃ qo qc s', e = .returned (.tuple #[frv fW fH fD fA qo fn qc, .int .i64 fE]) ∧ Bx.BAt w0 w' B s' ∧ Bx.Rq s' (d + 1) K ∧ (s'.E = s.E ∧ s'.n = s.n + 1 ∧ s'.r = s.r ∧ s'.h = s.h ∧ s'.RV s.n = .slice qo fn qc ∧ ∀ i, i < s.n → s'.RV i = s.RV i) ∧ Pl w' qo fn lm G ∧ Kept [] w w') ∧
    (∀ (po : Option Addr) (c : Nat) (w : World), Pc w po n ln F → Calls Try.prog 37 #[frv W H D A po n c, rcv X Y rw rh] w fun e w' => ∃ qo qc, e = .returned (.tuple #[frv fW fH fD fA qo fn qc, .int .i64 fE]) ∧ Pl w' qo fn lm G ∧ Kept [] w w') := by
  by_cases h : ctE W H D X Y rw rh A n ln F = 0
  · have hv : Vld W H D A n ln F := by
      apply vE_zero.1
      by_cases h0 : vE W H D A n ln F = 0
      · exact h0
      · unfold ctE at h; rw [if_neg h0] at h; exact h
    have hw : whl W H X Y rw rh = true := by
      unfold ctE at h
      rw [if_pos (vE_zero.2 hv)] at h
      by_cases h1 : whl W H X Y rw rh = true
      · exact h1
      · rw [if_neg h1] at h; cases h
    have hd := of_decide_eq_true hw
    have hs1 := hv.shp.1
    have hs2 := hv.shp.2.1
    have hp : ∀ i, pz rw rh i ≤ 100000000 := fun i => by
      have := wpH (W := rw) (H := rh) (i : Int) (by omega) (by omega) (by omega) (by omega)
      unfold pz; omega
    have hn4 : n ≤ 4 := by rw [hv.num]; exact np_hi A
    refine ⟨rw, rh, D, A, n, 0, pz rw rh, cutF F W X Y rw, hn4, fun i _ => hp i, fun po c w0 w B d K s hr hB hR hK => ?_, fun po c w hr => ?_⟩
    · refine (cut_any W H D X Y rw rh A po n c ln F w hr hv hw).mono ?_
      rintro e w' ⟨g, bs, rfl, hM⟩
      refine ⟨_, _, _, rfl, hB.mk hM (by omega), hR.ans (by omega) (fun k hk => ⟨_, _, _, rfl, rfl, hp k⟩), ⟨rfl, rfl, rfl, rfl, ?_, fun i hi => ?_⟩, hM.pl, hM.kept⟩
      · show (if s.n = s.n then _ else _) = _
        rw [if_pos rfl]
      · show (if i = s.n then _ else s.RV i) = _
        rw [if_neg (by omega)]
    · refine (rcut_yes W H D X Y rw rh A po n c ln F w hr hF hv hw).mono ?_
      rintro e w' ⟨qo, qc, rfl, h2, h3⟩
      exact ⟨qo, qc, rfl, h2, h3⟩
  · refine ⟨0, 0, 0, false, 0, ctE W H D X Y rw rh A n ln F, fun _ => 0, fun _ _ => 0, by omega, fun i hi => by omega, fun po c w0 w B d K s hr hB hR hK => ?_, fun po c w hr => ?_⟩
    · refine (cut_no W H D X Y rw rh A po n c ln F w hr hn hln hX hY h).mono ?_
      rintro e w' ⟨rfl, hk⟩
      refine ⟨_, _, _, rfl, hB.nil hk, hR.ans (by omega) (fun k hk => by omega), ⟨rfl, rfl, rfl, rfl, ?_, fun i hi => ?_⟩, .inl rfl, hk⟩
      · show (if s.n = s.n then _ else _) = _
        rw [if_pos rfl]
      · show (if i = s.n then _ else s.RV i) = _
        rw [if_neg (by omega)]
    · refine (rcut_no W H D X Y rw rh A po n c ln F w hr hn hln hF hX hY h).mono ?_
      rintro e w' ⟨rfl, hk⟩
      exact ⟨_, _, rfl, .inl rfl, hk⟩
end Go.Proofs.Ythihennifigchaa
