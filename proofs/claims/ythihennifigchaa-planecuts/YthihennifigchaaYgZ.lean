import Derived.Test.YthihennifigchaaYd
import Derived.Test.YthihennifigchaaYe
import Derived.Test.YthihennifigchaaYf
import Derived.Test.YthihennifigchaaXkZ
import Derived.Test.YthihennifigchaaFr
import Derived.Test.YthihennifigchaaXl
import Derived.Test.YthihennifigchaaQg
namespace Go.Proofs.Ythihennifigchaa
open Go.RowKit

theorem Ln.pc {w0 w : World} {LB : Nat} {V : Value} {n : Nat} {bs ln : Nat → Nat} {LF FT : Nat → Nat → Nat} (h : Ln w0 w LB V n bs ln LF) (hE : ∀ i, i < n → ∀ j, j < ln i → LF i j = FT i j) : Pc w (some ⟨LB, 0, none⟩) n ln FT := by
  refine .inr ⟨LB, 0, rfl, fun i hi => ⟨some ⟨bs i, 0, none⟩, ln i + 7, ?_, by omega, .inr ⟨bs i, 0, rfl, fun j hj => ?_⟩⟩⟩
  · rw [Nat.zero_add, cell_of_row _ _ _ _ _ _ h.lst, List.getElem?_toArray, fl_at _ _ _ (by omega)]
    unfold lsC
    rw [if_pos hi]
  · rw [Nat.zero_add, ← hE i hi j hj]
    exact (h.all.row i hi).at (by omega)
/-- A lent frame in a world that keeps its blocks; told of an older world. -/
theorem Ln.move {w0 w1 w u : World} {LB : Nat} {V : Value} {n : Nat} {bs ln : Nat → Nat} {F : Nat → Nat → Nat} {ks : List Nat} (h : Ln w0 w LB V n bs ln F) (h01 : w1.heap.size ≤ w0.heap.size) (hk : Kept ks w u) (h1 : Kept [] w1 u) (hL : LB ∉ ks) (hV : ∀ g, V.ownBlock = some g → g ∉ ks) (hb : ∀ i, i < n → bs i ∉ ks) : Ln w1 u LB V n bs ln F :=
  ⟨hk.heap h.lst hL, ⟨Bk.own_base (hk.row h.all.own hV) h01, fun i hi => (h.all.row i hi).keep hk (hb i hi), h.all.mon, fun i hi => Nat.le_trans h01 (h.all.lo i hi)⟩, Nat.le_trans h01 h.new, h.oth, h1⟩

/-- What lies in memory beside the Book: the lent frame, its box, the other frame's box and planes. -/
structure Fct (w1 u : World) (XB GB LB : Nat) (V : Value) (n c gc : Nat) (bs ln : Nat → Nat) (W H D : Int) (A : Bool) (go : Option Addr) (LF FT : Nat → Nat → Nat) : Prop where
  xb : u.heap[XB]? = some (.cells #[.int .i64 W, .int .i64 H, .int .i64 D, .bool A, slv LB n (n + 2), V, slv LB (n + 2) (n + 2)] 45 (0, 0))
  gb : u.heap[GB]? = some (.cells #[.int .i64 W, .int .i64 H, .int .i64 D, .bool A, .slice go n gc] 38 (0, 0))
  ln_ : Ln w1 u LB V n bs ln LF
  pg : Pc u go n ln FT
/-- The state of a law's loop: all that is beside the Book. -/
structure Lp (w1 : World) (E : Bk.Rsc) (XB GB LB : Nat) (V : Value) (n c gc : Nat) (bs ln : Nat → Nat) (W H D : Int) (A : Bool) (go : Option Addr) (LF FT : Nat → Nat → Nat) (p : Nat → Bool) (wS : World) : Prop where
  e : E = Bx.snap p wS
  fc : ∀ u, Kept [] w1 u → Kept (Bx.cpl p wS.heap.size) wS u → Fct w1 u XB GB LB V n c gc bs ln W H D A go LF FT
  px : p XB = true ∧ XB < wS.heap.size
  pg : p GB = true ∧ GB < wS.heap.size
  pl : p LB = true ∧ LB < wS.heap.size
  pv : ∀ g, V.ownBlock = some g → p g = true ∧ g < wS.heap.size
  pb : ∀ i, i < n → p (bs i) = true ∧ bs i < wS.heap.size
  lf : ∀ i j, LF i j < 65536
  ft : ∀ i, i < n → ∀ j, j < ln i → LF i j = FT i j
  xg : XB ≠ GB ∧ (∀ i, i < n → bs i ≠ XB) ∧ (∀ i, i < n → bs i ≠ GB) ∧ LB ≠ GB ∧ V.ownBlock ≠ some GB
section
variable {w1 u u9 u10 wS : World} {E : Bk.Rsc} {XB GB LB : Nat} {V : Value} {n c gc gc' : Nat} {bs ln : Nat → Nat} {W H D : Int} {A : Bool} {go go' : Option Addr} {LF FT G : Nat → Nat → Nat} {p : Nat → Bool} {B : Nat} {s : Bx.Bo}
theorem Lp.at (h : Lp w1 s.E XB GB LB V n c gc bs ln W H D A go LF FT p wS) (hB : Bx.BAt w1 u B s) : Fct w1 u XB GB LB V n c gc bs ln W H D A go LF FT := by
  have hE := hB.extra
  rw [h.e] at hE
  exact h.fc u hB.old hE
theorem Fct.keep (h : Fct w1 u XB GB LB V n c gc bs ln W H D A go LF FT) {u' : World} (hk : Kept [] u u') : Fct w1 u' XB GB LB V n c gc bs ln W H D A go LF FT :=
  ⟨hk.heap h.xb (by simp), hk.heap h.gb (by simp), h.ln_.keep0 hk, h.pg.keep hk⟩
/-- The lent frame was turned, and the other frame is what it is now. -/
theorem Lp.turn (h : Lp w1 s.E XB GB LB V n c gc bs ln W H D A go LF FT p wS) (hB : Bx.BAt w1 u B s) (hG : ∀ i j, G i j < 65536) (hL : Ln w1 u9 LB V n bs ln G) (hP : ∀ (w2 : World) (ks : List Nat), Kept ks u9 w2 → (∀ x ∈ ks, x < u.heap.size) → Pc w2 go' n ln G) (hk : Kept (rbs bs n) u u9) (hk2 : Kept [GB] u9 u10)
    (hg : u10.heap[GB]? = some (.cells #[.int .i64 W, .int .i64 H, .int .i64 D, .bool A, .slice go' n gc'] 38 (0, 0))) :
    ∃ E' p', Bx.BAt w1 u10 B { s with E := E' } ∧ Lp w1 E' XB GB LB V n c gc' bs ln W H D A go' G G p' u10 := by
  have hF := h.at hB
  have hE := hB.extra
  rw [h.e] at hE
  have su : wS.heap.size ≤ u.heap.size := hE.size
  have s9 := hk.size
  have s10 := hk2.size
  have F0 : s.E.F = Bx.inn p wS.heap.size := by rw [h.e]; rfl
  have hkk : Kept (rbs bs n ++ [GB]) u u10 := (hk.mono (fun x hx => .inl (List.mem_append.2 (.inl hx)))).step hk2 (fun x hx => .inl (List.mem_append.2 (.inr hx)))
  obtain ⟨p', ep'⟩ : ∃ p' : Nat → Bool, ∀ x, p' x = ((decide (x < wS.heap.size) && p x) || decide (u.heap.size ≤ x)) := ⟨_, fun _ => rfl⟩
  have yes : ∀ x, p x = true ∧ x < wS.heap.size → p' x = true ∧ x < u10.heap.size := fun x hx => ⟨by rw [ep']; simp [hx.1, hx.2], by omega⟩
  have no : ∀ x ∈ Bx.cpl p' u10.heap.size, x < u.heap.size ∧ ¬ (p x = true ∧ x < wS.heap.size) := fun x hx => by
    have h1 := (Bx.mem_cpl.1 hx).2
    rw [ep'] at h1
    simp at h1
    refine ⟨by omega, fun h2 => ?_⟩
    have := h1.1 h2.2
    rw [h2.1] at this
    cases this
  refine ⟨Bx.snap p' u10, p', hB.sete hkk (fun x hx => ?_) (Kept.refl _ _) (fun x hx => ?_), ⟨rfl, fun v hv1 hv2 => ?_, yes _ h.px, yes _ h.pg, yes _ h.pl, fun g hg => yes g (h.pv g hg), fun i hi => yes _ (h.pb i hi), hG, fun _ _ _ _ => rfl, h.xg⟩⟩
  · rw [F0, Bx.mem_inn]
    rcases List.mem_append.1 hx with q | q
    · obtain ⟨i, hi, e⟩ := mem_rbs.1 q
      rw [← e]; exact ⟨(h.pb i hi).2, (h.pb i hi).1⟩
    · simp at q; rw [q]; exact ⟨h.pg.2, h.pg.1⟩
  · have hx : x ∈ Bx.inn p' u10.heap.size := hx
    have h1 := (Bx.mem_inn.1 hx).2
    rw [ep'] at h1
    simp at h1
    rcases h1 with h1 | h1
    · left; rw [F0, Bx.mem_inn]; exact ⟨h1.1, h1.2⟩
    · exact .inr h1
  · have nX : XB ∉ rbs bs n ++ [GB] := fun hm => by
      rcases List.mem_append.1 hm with q | q
      · obtain ⟨i, hi, e⟩ := mem_rbs.1 q; exact h.xg.2.1 i hi e
      · simp at q; exact h.xg.1 q
    have nc : ∀ x, p x = true ∧ x < wS.heap.size → x ∉ Bx.cpl p' u10.heap.size := fun x hx hm => (no x hm).2 hx
    refine ⟨hv2.heap (hkk.heap hF.xb nX) (nc _ h.px), hv2.heap hg (nc _ h.pg), ?_, ?_⟩
    · have k9 : Kept (GB :: Bx.cpl p' u10.heap.size) u9 v := (hk2.mono (fun x hx => .inl (by simp at hx; simp [hx]))).step hv2 (fun x hx => .inl (List.mem_cons_of_mem _ hx))
      refine hL.move (Nat.le_refl _) k9 hv1 (fun hm => ?_) (fun g hg hm => ?_) (fun i hi hm => ?_)
      · rcases List.mem_cons.1 hm with q | q
        · exact h.xg.2.2.2.1 q
        · exact nc _ h.pl q
      · rcases List.mem_cons.1 hm with q | q
        · exact h.xg.2.2.2.2 (by rw [hg, q])
        · exact nc _ (h.pv g hg) q
      · rcases List.mem_cons.1 hm with q | q
        · exact h.xg.2.2.1 i hi q
        · exact nc _ (h.pb i hi) q
    · have k9 : Kept (GB :: Bx.cpl p' u10.heap.size) u9 v := (hk2.mono (fun x hx => .inl (by simp at hx; simp [hx]))).step hv2 (fun x hx => .inl (List.mem_cons_of_mem _ hx))
      refine hP v _ k9 (fun x hx => ?_)
      rcases List.mem_cons.1 hx with q | q
      · rw [q]; have := h.pg.2; omega
      · exact (no x q).1
end
/-- The loop's beginning. -/
theorem Lp.start {w1 w3 w4 w5 w6 : World} {LB : Nat} {V : Value} {n c : Nat} {bs ln : Nat → Nat} {W H D : Int} {A : Bool} {po : Option Addr} {F : Nat → Nat → Nat} {B : Nat} (hB : Bx.BAt w1 w3 B Bx.bo0) (hP : Pc w1 po n ln F) (hF : ∀ i j, F i j < 65536) (hL : Ln w3 w4 LB V n bs ln (fun i => ltF (F i) (ln i)))
    (k5 : Kept [] w4 w5) (x5 : w5.heap[w4.heap.size]? = some (.cells #[.int .i64 W, .int .i64 H, .int .i64 D, .bool A, slv LB n (n + 2), V, slv LB (n + 2) (n + 2)] 45 (0, 0))) (k6 : Kept [] w5 w6) (g6 : w6.heap[w5.heap.size]? = some (.cells #[.int .i64 W, .int .i64 H, .int .i64 D, .bool A, .slice po n c] 38 (0, 0))) :
    ∃ E p, Bx.BAt w1 w6 B { Bx.bo0 with E := E } ∧ Lp w1 E w4.heap.size w5.heap.size LB V n c c bs ln W H D A po (fun i => ltF (F i) (ln i)) F p w6 := by
  have k36 : Kept [] w3 w6 := hL.kept.trans (k5.trans k6)
  have s13 := hB.old.size
  have s34 := hL.kept.size
  have s45 := k5.size
  have s56 := k6.size
  have lX : w4.heap.size < w5.heap.size := lt_of_block x5
  have lG : w5.heap.size < w6.heap.size := lt_of_block g6
  have lL : LB < w4.heap.size := lt_of_block hL.lst
  have lb : ∀ i, i < n → bs i < w4.heap.size := fun i hi => (hL.all.row i hi).lt
  have lv : ∀ g, V.ownBlock = some g → w3.heap.size ≤ g ∧ g < w4.heap.size := fun g hg => own_lt hL.all.own g hg
  obtain ⟨p, ep⟩ : ∃ p : Nat → Bool, ∀ x, p x = decide (w3.heap.size ≤ x) := ⟨_, fun _ => rfl⟩
  have yes : ∀ x, w3.heap.size ≤ x → x < w6.heap.size → p x = true ∧ x < w6.heap.size := fun x h1 h2 => ⟨by rw [ep]; simp [h1], h2⟩
  have nc : ∀ x, w3.heap.size ≤ x → x ∉ Bx.cpl p w6.heap.size := fun x h1 hm => by
    have := (Bx.mem_cpl.1 hm).2
    rw [ep] at this
    simp at this
    omega
  refine ⟨Bx.snap p w6, p, hB.sete k36 (by simp) (Kept.refl _ _) (fun x hx => .inr ?_), ⟨rfl, fun u hu1 hu2 => ⟨hu2.heap (k6.heap x5 (by simp)) (nc _ (by omega)), hu2.heap g6 (nc _ (by omega)), ?_, hP.keep hu1⟩, yes _ (by omega) (by omega), yes _ (by omega) (by omega), yes _ hL.new (by omega), fun g hg => yes g (lv g hg).1 (by have := (lv g hg).2; omega), fun i hi => yes _ (hL.all.lo i hi) (by have := lb i hi; omega), fun i j => ?_, fun i hi j hj => if_pos hj, ⟨by omega, fun i hi => by have := lb i hi; omega, fun i hi => by have := lb i hi; omega, by omega, fun e => by have := (lv _ e).2; omega⟩⟩⟩
  · have h1 := (Bx.mem_inn.1 (show x ∈ Bx.inn p w6.heap.size from hx)).2
    rw [ep] at h1
    simpa using h1
  · exact (hL.keep0 (k5.trans k6)).move s13 hu2 hu1 (nc _ hL.new) (fun g hg => nc g (lv g hg).1) (fun i hi => nc _ (hL.all.lo i hi))
  · show ltF (F i) (ln i) j < 65536
    unfold ltF
    split
    · exact hF i j
    · decide

/-- Cut, both sides, in one form; the program's planes are an answer of the Book's. -/
theorem cut_u (W H D X Y rw rh : Int) (A : Bool) (n : Nat) (ln : Nat → Nat) (F : Nat → Nat → Nat) (hF : ∀ i, i < n → ∀ j, j < ln i → F i j < 65536) (hn : n ≤ 9223372036854775807) (hln : ∀ i, i < n → ln i ≤ 9223372036854775807) (hX : -9223372036854775808 ≤ X ∧ X ≤ 9223372036854775807) (hY : -9223372036854775808 ≤ Y ∧ Y ≤ 9223372036854775807) :
    ∃ (fW fH fD : Int) (fA : Bool) (fn : Nat) (fE : Int) (lm : Nat → Nat) (G : Nat → Nat → Nat), fn ≤ 4 ∧ (∀ i, i < fn → lm i ≤ 100000000) ∧
    (∀ (po : Option Addr) (c : Nat) (w0 w : World) (B d K : Nat) (s : Bx.Bo), Pc w po n ln F → Bx.BAt w0 w B s → Bx.Rq s d K → 4 ≤ K → Calls Try.prog 36 #[frv W H D A po n c, rcv X Y rw rh] w fun e w' => ∃ qo qc s', e = .returned (.tuple #[frv fW fH fD fA qo fn qc, .int .i64 fE]) ∧ Bx.BAt w0 w' B s' ∧ Bx.Rq s' (d + 1) K ∧ (s'.E = s.E ∧ s'.n = s.n + 1 ∧ s'.r = s.r ∧ s'.h = s.h ∧ s'.RV s.n = .slice qo fn qc ∧ ∀ i, i < s.n → s'.RV i = s.RV i) ∧ Pl w' qo fn lm G ∧ Kept [] w w') ∧
    (∀ (po : Option Addr) (c : Nat) (w : World), Pc w po n ln F → Calls Try.prog 37 #[frv W H D A po n c, rcv X Y rw rh] w fun e w' => ∃ qo qc, e = .returned (.tuple #[frv fW fH fD fA qo fn qc, .int .i64 fE]) ∧ Pl w' qo fn lm G ∧ Kept [] w w') := by
  by_cases h : ctE W H D X Y rw rh A n ln F = 0
  · have hv : Vld W H D A n ln F := by
      apply vE_zero.1
      by_cases h0 : vE W H D A n ln F = 0
      · exact h0
      · unfold ctE at h; rw [if_neg h0] at h; exact h
    have hw : whl W H X Y rw rh = true := by
      unfold ctE at h
      rw [if_pos (vE_zero.2 hv)] at h
      by_cases h1 : whl W H X Y rw rh = true
      · exact h1
      · rw [if_neg h1] at h; cases h
    have hd := of_decide_eq_true hw
    have hs1 := hv.shp.1
    have hs2 := hv.shp.2.1
    have hp : ∀ i, pz rw rh i ≤ 100000000 := fun i => by
      have := wpH (W := rw) (H := rh) (i : Int) (by omega) (by omega) (by omega) (by omega)
      unfold pz; omega
    have hn4 : n ≤ 4 := by rw [hv.num]; exact np_hi A
    refine ⟨rw, rh, D, A, n, 0, pz rw rh, cutF F W X Y rw, hn4, fun i _ => hp i, fun po c w0 w B d K s hr hB hR hK => ?_, fun po c w hr => ?_⟩
    · refine (cut_any W H D X Y rw rh A po n c ln F w hr hv hw).mono ?_
      rintro e w' ⟨g, bs, rfl, hM⟩
      refine ⟨_, _, _, rfl, hB.mk hM (by omega), hR.ans (by omega) (fun k hk => ⟨_, _, _, rfl, rfl, hp k⟩), ⟨rfl, rfl, rfl, rfl, ?_, fun i hi => ?_⟩, hM.pl, hM.kept⟩
      · show (if s.n = s.n then _ else _) = _
        rw [if_pos rfl]
      · show (if i = s.n then _ else s.RV i) = _
        rw [if_neg (by omega)]
    · refine (rcut_yes W H D X Y rw rh A po n c ln F w hr hF hv hw).mono ?_
      rintro e w' ⟨qo, qc, rfl, h2, h3⟩
      exact ⟨qo, qc, rfl, h2, h3⟩
  · refine ⟨0, 0, 0, false, 0, ctE W H D X Y rw rh A n ln F, fun _ => 0, fun _ _ => 0, by omega, fun i hi => by omega, fun po c w0 w B d K s hr hB hR hK => ?_, fun po c w hr => ?_⟩
    · refine (cut_no W H D X Y rw rh A po n c ln F w hr hn hln hX hY h).mono ?_
      rintro e w' ⟨rfl, hk⟩
      refine ⟨_, _, _, rfl, hB.nil hk, hR.ans (by omega) (fun k hk => by omega), ⟨rfl, rfl, rfl, rfl, ?_, fun i hi => ?_⟩, .inl rfl, hk⟩
      · show (if s.n = s.n then _ else _) = _
        rw [if_pos rfl]
      · show (if i = s.n then _ else s.RV i) = _
        rw [if_neg (by omega)]
    · refine (rcut_no W H D X Y rw rh A po n c ln F w hr hn hln hF hX hY h).mono ?_
      rintro e w' ⟨rfl, hk⟩
      exact ⟨_, _, rfl, .inl rfl, hk⟩
end Go.Proofs.Ythihennifigchaa

namespace Go.Proofs.Ythihennifigchaa
open Go.RowKit

theorem alloc_newY (w : World) (o : Obj) : ∃ w', w.alloc o = w' ∧ Kept [] w w' ∧ w'.heap[w.heap.size]? = some o := ⟨_, rfl, alloc_kept w o, heap_alloc_new w o⟩

set_option maxHeartbeats 16000000 in
set_option maxRecDepth 1000000 in
theorem cuts_any (W H D X Y rw rh : Int) (A : Bool) (po : Option Addr) (n c : Nat) (ln : Nat → Nat) (F0 : Nat → Nat → Nat) (w : World) (hr0 : Pc w po n ln F0) (hn : n ≤ 5864062014634) (hln : ∀ i, i < n → ln i ≤ 70368744175616) (hF0 : ∀ i, i < n → ∀ j, j < ln i → F0 i j < 65536) (hX : -9223372036854775808 ≤ X ∧ X ≤ 9223372036854775807) (hY : -9223372036854775808 ≤ Y ∧ Y ≤ 9223372036854775807) :
    Calls Try.prog 8 #[frv W H D A po n c, rcv X Y rw rh] w fun e w' => e = .returned (.bool true) ∧ Kept [] w w' := by
  obtain ⟨F, hr, hF⟩ := hr0.nice hF0
  have CU := Hid.mk (fun (FT : Nat → Nat → Nat) (hT : ∀ i j, FT i j < 65536) => cut_u W H D X Y rw rh A n ln FT (fun i _ j _ => hT i j) (by omega) (fun i hi => by have := hln i hi; omega) hX hY)
  have HF := Hid.mk hF
  have Hln := Hid.mk hln
  obtain ⟨wa, ewa, kwa, hba⟩ := alloc_newY w (.cells #[.int .i64 W, .int .i64 H, .int .i64 D, .bool A, .slice po n c] 38)
  obtain ⟨w1, ew1, kw1, hb1⟩ := alloc_newY wa (.cells #[.int .i64 X, .int .i64 Y, .int .i64 rw, .int .i64 rh] 51)
  obtain ⟨b0, eb0⟩ : ∃ b, w.heap.size = b := ⟨_, rfl⟩
  obtain ⟨b1, eb1⟩ : ∃ b, wa.heap.size = b := ⟨_, rfl⟩
  rw [eb0] at hba
  rw [eb1] at hb1
  have hf1 := kw1.heap hba (by simp)
  have P1 := Hid.mk (hr.keep (kwa.trans kw1))
  have Q1 : Hid (∀ u, Kept [] w1 u → u.heap[b0]? = some (.cells #[.int .i64 W, .int .i64 H, .int .i64 D, .bool A, .slice po n c] 38 (0, 0)) ∧ u.heap[b1]? = some (.cells #[.int .i64 X, .int .i64 Y, .int .i64 rw, .int .i64 rh] 51 (0, 0))) := Hid.mk (fun u hu => ⟨hu.heap hf1 (by simp), hu.heap hb1 (by simp)⟩)
  have K0 := Hid.mk (kwa.trans kw1)
  clear hr0 hF0 hF hr hln hX hY kwa kw1 hba hb1 hf1
  go_enter Try.func8, Try.ntmps8
  go_wp2_with (fail)
  refine (shown_any w1).mono ?_
  rintro e w2 ⟨rfl, k2⟩
  obtain ⟨w3, ew3, k3, hb3⟩ := alloc_newY w2 (.cells #[.slice none 0 0, .int .i64 0, .slice none 0 0] 35)
  obtain ⟨B, eB⟩ : ∃ B, w2.heap.size = B := ⟨_, rfl⟩
  have sB : w1.heap.size ≤ B := by rw [← eB]; exact k2.size
  rw [eB] at hb3
  have K3 := Hid.mk (k2.trans k3)
  have B3 := Hid.mk (Bx.bo0_at K3.out sB hb3)
  obtain ⟨⟨f0, f1, f2, f3, f4⟩, -⟩ := five (Q1.out w3 K3.out).1
  have LE := Hid.mk (lend_any W H D A po n c ln F w3 (P1.out.keep K3.out).pl hn Hln.out)
  clear k2 k3 hb3 sB ewa ew1
  go_wp2_with (fail)
  with_reducible refine LE.out.mono ?_
  rintro e w4 ⟨LB, V, bs, rfl, hL⟩
  obtain ⟨vo, vc, rfl⟩ : ∃ vo vc, V = .slice vo n vc := by
    rcases hL.all.own.2 with ⟨e2, h0⟩ | ⟨g2, cap, cur, e2, _⟩
    · exact ⟨none, 0, by rw [e2, h0]⟩
    · exact ⟨_, _, e2⟩
  have HL := Hid.mk hL
  clear f0 f1 f2 f3 f4 hL LE ew3 eB
  have hx5 := heap_alloc_new w4 (.cells #[.int .i64 W, .int .i64 H, .int .i64 D, .bool A, slv LB n (n + 2), .slice vo n vc, slv LB (n + 2) (n + 2)] 45)
  have k5 := alloc_kept w4 (.cells #[.int .i64 W, .int .i64 H, .int .i64 D, .bool A, slv LB n (n + 2), .slice vo n vc, slv LB (n + 2) (n + 2)] 45)
  obtain ⟨⟨f0, f1, f2, f3, f4⟩, -⟩ := five (Q1.out _ ((K3.out.trans HL.out.kept).trans k5)).1
  go_upto_region 5 with (fail)
  obtain ⟨w5, ew5⟩ : ∃ w5, w4.alloc (.cells #[.int .i64 W, .int .i64 H, .int .i64 D, .bool A, slv LB n (n + 2), .slice vo n vc, slv LB (n + 2) (n + 2)] 45) = w5 := ⟨_, rfl⟩
  rw [ew5] at hx5 k5
  rw [ew5]
  have hg6 := heap_alloc_new w5 (.cells #[.int .i64 W, .int .i64 H, .int .i64 D, .bool A, .slice po n c] 38)
  have k6 := alloc_kept w5 (.cells #[.int .i64 W, .int .i64 H, .int .i64 D, .bool A, .slice po n c] 38)
  obtain ⟨w6, ew6⟩ : ∃ w6, w5.alloc (.cells #[.int .i64 W, .int .i64 H, .int .i64 D, .bool A, .slice po n c] 38) = w6 := ⟨_, rfl⟩
  rw [ew6] at hg6 k6
  rw [ew6]
  obtain ⟨E0, p0, hB6, hLp⟩ := Lp.start B3.out (P1.out) HF.out HL.out k5 hx5 k6 hg6
  obtain ⟨XB, eXB⟩ : ∃ XB, w4.heap.size = XB := ⟨_, rfl⟩
  obtain ⟨GB, eGB⟩ : ∃ GB, w5.heap.size = GB := ⟨_, rfl⟩
  rw [eXB, eGB] at hLp
  have ST : Hid (∃ s p wS go gc LF FT, Bx.BAt w1 w6 B s ∧ Bx.Rq s 0 (4 + 2 * 0) ∧ s.n = 2 * 0 ∧ s.h ≤ 1000 * 0 ∧ Lp w1 s.E XB GB LB (.slice vo n vc) n c gc bs ln W H D A go LF FT p wS ∧ (∀ i j, FT i j < 65536) ∧ ((0 : Nat) = 0 → LF = (fun i => ltF (F i) (ln i)))) := Hid.mk ⟨_, p0, w6, po, c, _, F, hB6, ⟨rfl, fun _ h => absurd h (by show ¬ _ < 0; omega), fun _ h => absurd h (by show ¬ _ < 0; omega), fun _ => Nat.zero_le _, fun j => ⟨fun h => h.elim, fun h => absurd h (by show ¬ j < 0; omega)⟩, fun _ _ h => absurd h (by show ¬ _ < 0; omega)⟩, rfl, Nat.zero_le _, hLp, HF.out, fun _ => rfl⟩
  have eG' : XB + 1 = GB := by rw [← eXB, ← eGB, ← ew5, World.size_alloc]
  rw [eXB, eG']
  clear f0 f1 f2 f3 f4 ew5 ew6 hx5 k5 hg6 k6 hB6 hLp B3 HL eXB eGB eG' K3
  go_wp2
  go_loopw [9] (fun t wr => ∃ k : Nat, k ≤ 2 ∧ t = .int .i64 (k : Int) ∧ ∃ s p wS go gc LF FT, Bx.BAt w1 wr B s ∧ Bx.Rq s 0 (4 + 2 * k) ∧ s.n = 2 * k ∧ s.h ≤ 1000 * k ∧ Lp w1 s.E XB GB LB (.slice vo n vc) n c gc bs ln W H D A go LF FT p wS ∧ (∀ i j, FT i j < 65536) ∧ (k = 0 → LF = (fun i => ltF (F i) (ln i)))) (fun t _ => 2 - (intOf t).toNat)
  case atStart =>
    obtain ⟨s, p, wS, go, gc, LF, FT, q1, q2, q3, q4, q5, q6, q7⟩ := ST.out
    exact ⟨0, by omega, rfl, s, p, wS, go, gc, LF, FT, q1, q2, q3, q4, q5, q6, fun _ => q7 (by trivial)⟩
  case round =>
    obtain ⟨k, hk, rfl, s, p, wS, go, gc, LF, FT, hB, hR, hsn, hsh, hLp, hFT, hk0⟩ := hrel
    by_cases hlt : k < 2
    · have ix : (k : Int) < 2 := by omega
      obtain ⟨fW, fH, fD, fA, fn, fE, lm, G, hfn, hlm, NW, RN⟩ := CU.out FT hFT
      have NW := Hid.mk NW
      have RN := Hid.mk RN
      have HLM := Hid.mk hlm
      have HB := Hid.mk hB
      have HLP := Hid.mk hLp
      have HK0 := Hid.mk hk0
      have HFC := Hid.mk (hLp.at hB)
      have HFT := Hid.mk hFT
      have C1 := Hid.mk (NW.out (some ⟨LB, 0, none⟩) (n + 2) w1 wr B 0 (4 + 2 * k) s (HFC.out.ln_.pc hLp.ft) hB hR (by omega))
      obtain ⟨⟨x0, x1, x2, x3, x4, x5, x6⟩, -⟩ := seven HFC.out.xb
      obtain ⟨⟨r0, r1, r2, r3⟩, -⟩ := four (Q1.out wr hB.old).2
      clear hB hR hLp hlm hk0 hFT
      go_wp2_with (fail)
      with_reducible refine C1.out.mono ?_
      rintro e v1 ⟨po1, c1, s1, rfl, hB1, hR1, hX1, hP1, hk1⟩
      have HB1 := Hid.mk (And.intro hB1 (And.intro hR1 (And.intro hX1 (And.intro hP1 hk1))))
      have ka1 := alloc_kept v1 (.cells #[.int .i64 fW, .int .i64 fH, .int .i64 fD, .bool fA, .slice po1 fn c1] 38)
      obtain ⟨⟨x0', x1', x2', x3', x4', x5', x6'⟩, -⟩ := seven ((hk1.trans ka1).heap HFC.out.xb (by simp))
      obtain ⟨⟨r0', r1', r2', r3'⟩, -⟩ := four (Q1.out _ (hB1.old.trans ka1)).2
      clear x0 x1 x2 x3 x4 x5 x6 r0 r1 r2 r3 C1 hB1 hR1 hX1 hP1 hk1
      go_wp2_with (fail)
      obtain ⟨u1, eu1⟩ : ∃ u1, v1.alloc (.cells #[.int .i64 fW, .int .i64 fH, .int .i64 fD, .bool fA, .slice po1 fn c1] 38) = u1 := ⟨_, rfl⟩
      have hu1 : u1.heap[v1.heap.size]? = some (.cells #[.int .i64 fW, .int .i64 fH, .int .i64 fD, .bool fA, .slice po1 fn c1] 38) := by rw [← eu1]; exact heap_alloc_new _ _
      rw [eu1] at ka1
      rw [eu1]
      obtain ⟨G1, eG1⟩ : ∃ G1, v1.heap.size = G1 := ⟨_, rfl⟩
      rw [eG1] at hu1 ⊢
      have F1 := HFC.out.keep (HB1.out.2.2.2.2.trans ka1)
      have C2 := Hid.mk (NW.out (some ⟨LB, 0, none⟩) (n + 2) w1 u1 B (0 + 1) (4 + 2 * k) s1 (F1.ln_.pc HLP.out.ft) (HB1.out.1.keep ka1) HB1.out.2.1 (by omega))
      have HU1 := Hid.mk (And.intro hu1 (And.intro (HB1.out.2.2.2.1.keep ka1) F1))
      have HX1 := Hid.mk HB1.out.2.2.1
      clear eu1 eG1 x0' x1' x2' x3' x4' x5' x6' r0' r1' r2' r3' ka1 HB1 hu1 F1
      with_reducible refine C2.out.mono ?_
      rintro e v2 ⟨po2, c2, s2, rfl, hB2, hR2, hX2, hP2, hk2⟩
      have HB2 := Hid.mk (And.intro hB2 (And.intro hR2 (And.intro hX2 hP2)))
      have HU1' := Hid.mk (And.intro (hk2.heap HU1.out.1 (by simp)) (And.intro (HU1.out.2.1.keep hk2) (HU1.out.2.2.keep hk2)))
      have ka2 := alloc_kept v2 (.cells #[.int .i64 fW, .int .i64 fH, .int .i64 fD, .bool fA, .slice po2 fn c2] 38)
      obtain ⟨⟨g0, g1, g2, g3, g4⟩, -⟩ := five (ka2.heap HU1'.out.2.2.gb (by simp))
      obtain ⟨⟨r0, r1, r2, r3⟩, -⟩ := four (Q1.out _ (hB2.old.trans ka2)).2
      clear C2 hB2 hR2 hX2 hP2 hk2 HU1
      go_wp2_with (fail)
      obtain ⟨u2, eu2⟩ : ∃ u2, v2.alloc (.cells #[.int .i64 fW, .int .i64 fH, .int .i64 fD, .bool fA, .slice po2 fn c2] 38) = u2 := ⟨_, rfl⟩
      have hu2 : u2.heap[v2.heap.size]? = some (.cells #[.int .i64 fW, .int .i64 fH, .int .i64 fD, .bool fA, .slice po2 fn c2] 38) := by rw [← eu2]; exact heap_alloc_new _ _
      rw [eu2] at ka2
      rw [eu2]
      obtain ⟨G2, eG2⟩ : ∃ G2, v2.heap.size = G2 := ⟨_, rfl⟩
      rw [eG2] at hu2 ⊢
      have HU2 := Hid.mk (And.intro hu2 (HB2.out.2.2.2.keep ka2))
      have HU3 := Hid.mk (And.intro (ka2.heap HU1'.out.1 (by simp)) (And.intro (HU1'.out.2.1.keep ka2) (HU1'.out.2.2.keep ka2)))
      have HS2 := Hid.mk (And.intro (HB2.out.1.keep ka2) (And.intro HB2.out.2.1 HB2.out.2.2.1))
      have C3 := Hid.mk (RN.out go gc u2 HU3.out.2.2.pg)
      clear eu2 eG2 g0 g1 g2 g3 g4 r0 r1 r2 r3 ka2 HB2 hu2 HU1'
      with_reducible refine C3.out.mono ?_
      rintro e v3 ⟨po3, c3, rfl, hP3, hk3⟩
      have HP3 := Hid.mk (And.intro hP3 hk3)
      clear hP3 hk3 C3
      go_upto_region 11 with (fail)
      obtain ⟨u3, eu3⟩ : ∃ u3, v3.alloc (.cells #[.int .i64 fW, .int .i64 fH, .int .i64 fD, .bool fA, .slice po3 fn c3] 38) = u3 := ⟨_, rfl⟩
      have hu3 : u3.heap[v3.heap.size]? = some (.cells #[.int .i64 fW, .int .i64 fH, .int .i64 fD, .bool fA, .slice po3 fn c3] 38) := by rw [← eu3]; exact heap_alloc_new _ _
      have ka3 : Kept [] u2 u3 := by rw [← eu3]; exact HP3.out.2.trans (alloc_kept _ _)
      have kb3 : Kept [] v3 u3 := by rw [← eu3]; exact alloc_kept _ _
      rw [eu3]
      obtain ⟨G3, eG3⟩ : ∃ G3, v3.heap.size = G3 := ⟨_, rfl⟩
      rw [eG3] at hu3 ⊢
      have h1u := ka3.heap HU3.out.1 (by simp)
      have h2u := ka3.heap HU2.out.1 (by simp)
      obtain ⟨⟨a0, a1, a2, a3, a4⟩, -⟩ := five h1u
      obtain ⟨⟨b0', b1', b2', b3', b4'⟩, -⟩ := five h2u
      obtain ⟨⟨d0, d1, d2, d3, d4⟩, -⟩ := five hu3
      have all0 : alF G G fn lm lm = true := alF_yes (fun i _ => eqL_yes (fun _ _ => rfl))
      have C4 := Hid.mk (rsame_eq fW fH fD fA po1 po3 fn c1 c3 lm lm G G u3 (HU3.out.2.1.keep ka3) (HP3.out.1.keep kb3) (by omega) (fun i hi => by have := HLM.out i hi; omega) (fun i hi => by have := HLM.out i hi; omega))
      have C5 : Hid (∀ u, Kept [] u3 u → Calls Try.prog 18 #[frv fW fH fD fA po2 fn c2, frv fW fH fD fA po3 fn c3] u fun e w' => e = .returned (.bool true) ∧ Kept [] u w') := Hid.mk (fun u hu => by
        have := rsame_eq fW fH fD fA po2 po3 fn c2 c3 lm lm G G u (HU2.out.2.keep (ka3.trans hu)) (HP3.out.1.keep (kb3.trans hu)) (by omega) (fun i hi => by have := HLM.out i hi; omega) (fun i hi => by have := HLM.out i hi; omega)
        rw [all0] at this
        exact this)
      rw [all0] at C4
      have HS3 := Hid.mk (And.intro (HS2.out.1.keep ka3) HS2.out.2)
      have HF3 := Hid.mk (HU3.out.2.2.keep ka3)
      have HFF := Hid.mk (And.intro h1u (And.intro h2u hu3))
      clear all0 ka3 kb3 eu3 eG3 HP3 HU2 HU3 HS2 h1u h2u hu3
      go_wp2_with (fail)
      with_reducible refine C4.out.mono ?_
      rintro e u4 ⟨rfl, k4⟩
      obtain ⟨⟨a0', a1', a2', a3', a4'⟩, -⟩ := five (k4.heap HFF.out.1 (by simp))
      obtain ⟨⟨b0, b1', b2', b3', b4'⟩, -⟩ := five (k4.heap HFF.out.2.1 (by simp))
      obtain ⟨⟨d0', d1', d2', d3', d4'⟩, -⟩ := five (k4.heap HFF.out.2.2 (by simp))
      have C6 := Hid.mk (C5.out u4 k4)
      have K4 := Hid.mk k4
      clear a0 a1 a2 a3 a4 d0 d1 d2 d3 d4 C4 C5 k4
      go_wp2_with (fail)
      with_reducible refine C6.out.mono ?_
      rintro e u5 ⟨rfl, k5⟩
      have K5 := Hid.mk (K4.out.trans k5)
      clear a0' a1' a2' a3' a4' d0' d1' d2' d3' d4' C6 k5 K4
      have F5 := HF3.out.keep K5.out
      have HF5 := Hid.mk F5
      have PO := Hid.mk (P1.out.keep (HS3.out.1.old.trans K5.out)).pl
      obtain ⟨⟨x0, x1, x2, x3, x4, x5, x6⟩, -⟩ := seven F5.xb
      obtain ⟨⟨f0, f1, f2, f3, f4⟩, -⟩ := five (Q1.out u5 (HS3.out.1.old.trans K5.out)).1
      clear F5
      go_upto_region 13 with (fail)
      go_cut [18] (fun v wc => v = .bool true ∧ Kept [] u5 wc)
      case first =>
        by_cases hz : k = 0
        · have e0 := HK0.out hz
          subst hz
          have hS := still_yes W H D A LB n c (.slice vo n vc) bs ln po F w1 u5 (by rw [← e0]; exact HF5.out.ln_) PO.out hn Hln.out
          have SS := Hid.mk hS
          clear hS e0
          go_wp2_with (fail)
          with_reducible refine SS.out.mono ?_
          rintro e u6 ⟨rfl, k6⟩
          go_wp2
          go_meet
          exact ⟨rfl, k6⟩
        · have hz' : (0 : Int) < (k : Int) := by omega
          go_wp2
          go_meet
          exact ⟨rfl, Kept.refl _ _⟩
      case rest =>
        obtain ⟨rfl, k6⟩ := hcut
        have K6 := Hid.mk (K5.out.trans k6)
        obtain ⟨⟨-, -, -, -, e4⟩, -⟩ := five (K6.out.heap HFF.out.1 (by simp))
        have HS5 := Hid.mk (HS3.out.1.keep K6.out)
        have T1 := Hid.mk (Bx.take_k w1 wc B s2 (.slice po1 fn c1) po1 fn c1 rfl HS5.out (by have := HS3.out.2.1.r; have := HS3.out.2.2.2.1; have := HX1.out.2.1; omega))
        clear x0 x1 x2 x3 x4 x5 x6 f0 f1 f2 f3 f4 k6 PO HF5 K5
        go_wp2_with (fail)
        with_reducible refine T1.out.mono ?_
        rintro e u6 ⟨rfl, Sn1, hB6, hk6⟩
        have h2q := K6.out.heap HFF.out.2.1 (by simp)
        obtain ⟨⟨-, -, -, -, g4⟩, -⟩ := five (hk6.heap h2q (HS5.out.not_mine h2q (by decide) (by decide)))
        have eR1 : s2.RV s2.r = .slice po1 fn c1 := by
          have x1 := HX1.out
          have x2 := HS3.out.2.2
          have x3 := HS3.out.2.1.r
          rw [show s2.r = s.n by omega, x2.2.2.2.2.2 s.n (by omega)]
          exact x1.2.2.2.2.1
        have eR2 : (s2.appo (.slice po1 fn c1) Sn1).RV (s2.appo (.slice po1 fn c1) Sn1).r = .slice po2 fn c2 := by
          have x1 := HX1.out
          have x2 := HS3.out.2.2
          have x3 := HS3.out.2.1.r
          show s2.RV (s2.r + 1) = _
          rw [show s2.r + 1 = s1.n by omega]
          exact x2.2.2.2.2.1
        have R6 := HS3.out.2.1.take Sn1 eR1
        have T2 := Hid.mk (Bx.take_k w1 u6 B _ (.slice po2 fn c2) po2 fn c2 rfl hB6 (by have := HS3.out.2.1.r; have := HS3.out.2.2.2.1; have := HX1.out.2.1; show s2.r + 1 ≤ 1000000; omega))
        have HR6 := Hid.mk (And.intro R6 eR2)
        clear T1 e4 hB6 hk6 h2q eR1 eR2 R6 HS5
        go_wp2_with (fail)
        with_reducible refine T2.out.mono ?_
        rintro e u7 ⟨rfl, Sn2, hB7, -⟩
        have R7 := HR6.out.1.take Sn2 HR6.out.2
        have n7 : ((s2.appo (.slice po1 fn c1) Sn1).appo (.slice po2 fn c2) Sn2).n = 2 * k + 2 := by
          have x1 := HX1.out.2.1
          have x2 := HS3.out.2.2.2.1
          show s2.n = _
          omega
        have h7 : ((s2.appo (.slice po1 fn c1) Sn1).appo (.slice po2 fn c2) Sn2).h ≤ 1000 * k := by
          have x1 := HX1.out.2.2.2.1
          have x2 := HS3.out.2.2.2.2.2.1
          show s2.h ≤ _
          omega
        have E7 : ((s2.appo (.slice po1 fn c1) Sn1).appo (.slice po2 fn c2) Sn2).E = s.E := by
          show s2.E = _
          exact HS3.out.2.2.1.trans HX1.out.1
        obtain ⟨s7, es7⟩ : ∃ s7, (s2.appo (.slice po1 fn c1) Sn1).appo (.slice po2 fn c2) Sn2 = s7 := ⟨_, rfl⟩
        rw [es7] at hB7 R7 n7 h7 E7
        have OW := Hid.mk (Bx.own_any w1 u7 B s7 hB7 (R7.rk (by omega) (by omega)) (by omega))
        have HR7 := Hid.mk (And.intro R7 (And.intro n7 (And.intro h7 E7)))
        clear T2 g4 hB7 R7 n7 h7 E7 es7 HR6 HS3 HFF HX1 HF3
        go_wp2_with (fail)
        with_reducible refine OW.out.mono ?_
        rintro e u8 ⟨rfl, s8, hB8, hD8⟩
        have R8 := HR7.out.1.of_dn hD8
        have n8 : s8.n = 2 * (k + 1) := by have := hD8.n; have := HR7.out.2.1; omega
        have h8 : s8.h ≤ 1000 * (k + 1) := by have := hD8.h; have := HR7.out.2.2.1; omega
        have L8 : Lp w1 s8.E XB GB LB (.slice vo n vc) n c gc bs ln W H D A go LF FT p wS := by rw [hD8.E, HR7.out.2.2.2]; exact HLP.out
        have F8 := L8.at hB8
        have H8 := Hid.mk (And.intro hB8 (And.intro R8 (And.intro n8 (And.intro h8 L8))))
        have HF8 := Hid.mk F8
        have TU := Hid.mk (turn2_any W H D A LB n (.slice vo n vc) bs ln LF w1 u8 F8.ln_ L8.lf hn Hln.out)
        obtain ⟨⟨x0, x1, x2, x3, x4, x5, x6⟩, -⟩ := seven F8.xb
        clear OW hB8 hD8 R8 n8 h8 HR7 L8 F8 HLP HFC
        go_wp2_with (fail)
        with_reducible refine TU.out.mono ?_
        rintro e u9 ⟨go', gc', G', rfl, hG', hL9, hP9, hk9⟩
        have nG : GB ∉ rbs bs n := fun hm => by
          obtain ⟨i, hi, e⟩ := mem_rbs.1 hm
          exact H8.out.2.2.2.2.xg.2.2.1 i hi e
        have gb9 := hk9.heap HF8.out.gb nG
        obtain ⟨⟨z0, z1, z2, z3, z4⟩, v0, v1', v2', v3', v4'⟩ := five gb9
        have s5 := set5 (.int .i64 W) (.int .i64 H) (.int .i64 D) (.bool A) (.slice go' n gc') gb9
        have H9 := Hid.mk (And.intro hG' (And.intro hL9 (And.intro hP9 (And.intro hk9 s5))))
        clear x0 x1 x2 x3 x4 x5 x6 TU hG' hL9 hP9 hk9 nG gb9 s5
        go_wp2
        go_roundw
        case rel =>
          obtain ⟨E', p', hB', hL'⟩ := H8.out.2.2.2.2.turn H8.out.1 H9.out.1 H9.out.2.1 H9.out.2.2.1 H9.out.2.2.2.1 H9.out.2.2.2.2.2 H9.out.2.2.2.2.1
          exact ⟨k + 1, by omega, by go_num, _, p', _, go', gc', G', G', hB', ⟨H8.out.2.1.r, H8.out.2.1.rl, H8.out.2.1.ov, fun i => by have := H8.out.2.1.k8 i; show s8.kn i ≤ _; omega, H8.out.2.1.J, H8.out.2.1.ls⟩, H8.out.2.2.1, H8.out.2.2.2.1, hL', H9.out.1, fun h => by omega⟩
        case measure => simp [intOf]; omega
    · go_wp2
      go_ret
      exact ⟨rfl, K0.out.trans hB.old⟩
end Go.Proofs.Ythihennifigchaa
