import Derived.Test.YthihennifigchaaYd
import Derived.Test.YthihennifigchaaYe
import Derived.Test.YthihennifigchaaYf
import Derived.Test.YthihennifigchaaXkZ
import Derived.Test.YthihennifigchaaFr
import Derived.Test.YthihennifigchaaYi
import Derived.Test.YthihennifigchaaXl
import Derived.Deep.RegionHeldLaw
namespace Go.Proofs.Ythihennifigchaa
open Go.RowKit

theorem Ln.pc {w0 w : World} {LB : Nat} {V : Value} {n : Nat} {bs ln : Nat → Nat} {LF FT : Nat → Nat → Nat} (h : Ln w0 w LB V n bs ln LF) (hE : ∀ i, i < n → ∀ j, j < ln i → LF i j = FT i j) : Pc w (some ⟨LB, 0, none⟩) n ln FT := by
  refine .inr ⟨LB, 0, rfl, fun i hi => ⟨some ⟨bs i, 0, none⟩, ln i + 7, ?_, by omega, .inr ⟨bs i, 0, rfl, fun j hj => ?_⟩⟩⟩
  · rw [Nat.zero_add, cell_of_row _ _ _ _ _ _ h.lst, List.getElem?_toArray, fl_at _ _ _ (by omega)]
    unfold lsC
    rw [if_pos hi]
  · rw [Nat.zero_add, ← hE i hi j hj]
    exact (h.all.row i hi).at (by omega)
/-- A lent frame in a world that keeps its blocks; told of an older world. -/
theorem Ln.move {w0 w1 w u : World} {LB : Nat} {V : Value} {n : Nat} {bs ln : Nat → Nat} {F : Nat → Nat → Nat} {ks : List Nat} (h : Ln w0 w LB V n bs ln F) (h01 : w1.heap.size ≤ w0.heap.size) (hk : Kept ks w u) (h1 : Kept [] w1 u) (hL : LB ∉ ks) (hV : ∀ g, V.ownBlock = some g → g ∉ ks) (hb : ∀ i, i < n → bs i ∉ ks) : Ln w1 u LB V n bs ln F :=
  ⟨hk.heap h.lst hL, ⟨Bk.own_base (hk.row h.all.own hV) h01, fun i hi => (h.all.row i hi).keep hk (hb i hi), h.all.mon, fun i hi => Nat.le_trans h01 (h.all.lo i hi)⟩, Nat.le_trans h01 h.new, h.oth, h1⟩

/-- What lies in memory beside the Book: the lent frame, its box, the other frame's box and planes. -/
structure Fct (w1 u : World) (XB GB LB : Nat) (V : Value) (n c gc : Nat) (bs ln : Nat → Nat) (W H D : Int) (A : Bool) (go : Option Addr) (LF FT : Nat → Nat → Nat) : Prop where
  xb : u.heap[XB]? = some (.cells #[.int .i64 W, .int .i64 H, .int .i64 D, .bool A, slv LB n (n + 2), V, slv LB (n + 2) (n + 2)] 45 (0, 0))
  gb : u.heap[GB]? = some (.cells #[.int .i64 W, .int .i64 H, .int .i64 D, .bool A, .slice go n gc] 38 (0, 0))
  ln_ : Ln w1 u LB V n bs ln LF
  pg : Pc u go n ln FT
/-- The state of a law's loop: all that is beside the Book. -/
structure Lp (w1 : World) (E : Bk.Rsc) (XB GB LB : Nat) (V : Value) (n c gc : Nat) (bs ln : Nat → Nat) (W H D : Int) (A : Bool) (go : Option Addr) (LF FT : Nat → Nat → Nat) (p : Nat → Bool) (wS : World) : Prop where
  e : E = Bx.snap p wS
  fc : ∀ u, Kept [] w1 u → Kept (Bx.cpl p wS.heap.size) wS u → Fct w1 u XB GB LB V n c gc bs ln W H D A go LF FT
  px : p XB = true ∧ XB < wS.heap.size
  pg : p GB = true ∧ GB < wS.heap.size
  pl : p LB = true ∧ LB < wS.heap.size
  pv : ∀ g, V.ownBlock = some g → p g = true ∧ g < wS.heap.size
  pb : ∀ i, i < n → p (bs i) = true ∧ bs i < wS.heap.size
  lf : ∀ i j, LF i j < 65536
  ft : ∀ i, i < n → ∀ j, j < ln i → LF i j = FT i j
  xg : XB ≠ GB ∧ (∀ i, i < n → bs i ≠ XB) ∧ (∀ i, i < n → bs i ≠ GB) ∧ LB ≠ GB ∧ V.ownBlock ≠ some GB
section
variable {w1 u u9 u10 wS : World} {E : Bk.Rsc} {XB GB LB : Nat} {V : Value} {n c gc gc' : Nat} {bs ln : Nat → Nat} {W H D : Int} {A : Bool} {go go' : Option Addr} {LF FT G : Nat → Nat → Nat} {p : Nat → Bool} {B : Nat} {s : Bx.Bo}
theorem Lp.at (h : Lp w1 s.E XB GB LB V n c gc bs ln W H D A go LF FT p wS) (hB : Bx.BAt w1 u B s) : Fct w1 u XB GB LB V n c gc bs ln W H D A go LF FT := by
  have hE := hB.extra
  rw [h.e] at hE
  exact h.fc u hB.old hE
theorem Fct.keep (h : Fct w1 u XB GB LB V n c gc bs ln W H D A go LF FT) {u' : World} (hk : Kept [] u u') : Fct w1 u' XB GB LB V n c gc bs ln W H D A go LF FT :=
  ⟨hk.heap h.xb (by simp), hk.heap h.gb (by simp), h.ln_.keep0 hk, h.pg.keep hk⟩
/-- The lent frame was turned, and the other frame is what it is now. -/
theorem Lp.turn (h : Lp w1 s.E XB GB LB V n c gc bs ln W H D A go LF FT p wS) (hB : Bx.BAt w1 u B s) (hG : ∀ i j, G i j < 65536) (hL : Ln w1 u9 LB V n bs ln G) (hP : ∀ (w2 : World) (ks : List Nat), Kept ks u9 w2 → (∀ x ∈ ks, x < u.heap.size) → Pc w2 go' n ln G) (hk : Kept (rbs bs n) u u9) (hk2 : Kept [GB] u9 u10)
    (hg : u10.heap[GB]? = some (.cells #[.int .i64 W, .int .i64 H, .int .i64 D, .bool A, .slice go' n gc'] 38 (0, 0))) :
    ∃ E' p', Bx.BAt w1 u10 B { s with E := E' } ∧ Lp w1 E' XB GB LB V n c gc' bs ln W H D A go' G G p' u10 := by
  have hF := h.at hB
  have hE := hB.extra
  rw [h.e] at hE
  have su : wS.heap.size ≤ u.heap.size := hE.size
  have s9 := hk.size
  have s10 := hk2.size
  have F0 : s.E.F = Bx.inn p wS.heap.size := by rw [h.e]; rfl
  have hkk : Kept (rbs bs n ++ [GB]) u u10 := (hk.mono (fun x hx => .inl (List.mem_append.2 (.inl hx)))).step hk2 (fun x hx => .inl (List.mem_append.2 (.inr hx)))
  obtain ⟨p', ep'⟩ : ∃ p' : Nat → Bool, ∀ x, p' x = ((decide (x < wS.heap.size) && p x) || decide (u.heap.size ≤ x)) := ⟨_, fun _ => rfl⟩
  have yes : ∀ x, p x = true ∧ x < wS.heap.size → p' x = true ∧ x < u10.heap.size := fun x hx => ⟨by rw [ep']; simp [hx.1, hx.2], by omega⟩
  have no : ∀ x ∈ Bx.cpl p' u10.heap.size, x < u.heap.size ∧ ¬ (p x = true ∧ x < wS.heap.size) := fun x hx => by
    have h1 := (Bx.mem_cpl.1 hx).2
    rw [ep'] at h1
    simp at h1
    refine ⟨by omega, fun h2 => ?_⟩
    have := h1.1 h2.2
    rw [h2.1] at this
    cases this
  refine ⟨Bx.snap p' u10, p', hB.sete hkk (fun x hx => ?_) (Kept.refl _ _) (fun x hx => ?_), ⟨rfl, fun v hv1 hv2 => ?_, yes _ h.px, yes _ h.pg, yes _ h.pl, fun g hg => yes g (h.pv g hg), fun i hi => yes _ (h.pb i hi), hG, fun _ _ _ _ => rfl, h.xg⟩⟩
  · rw [F0, Bx.mem_inn]
    rcases List.mem_append.1 hx with q | q
    · obtain ⟨i, hi, e⟩ := mem_rbs.1 q
      rw [← e]; exact ⟨(h.pb i hi).2, (h.pb i hi).1⟩
    · simp at q; rw [q]; exact ⟨h.pg.2, h.pg.1⟩
  · have hx : x ∈ Bx.inn p' u10.heap.size := hx
    have h1 := (Bx.mem_inn.1 hx).2
    rw [ep'] at h1
    simp at h1
    rcases h1 with h1 | h1
    · left; rw [F0, Bx.mem_inn]; exact ⟨h1.1, h1.2⟩
    · exact .inr h1
  · have nX : XB ∉ rbs bs n ++ [GB] := fun hm => by
      rcases List.mem_append.1 hm with q | q
      · obtain ⟨i, hi, e⟩ := mem_rbs.1 q; exact h.xg.2.1 i hi e
      · simp at q; exact h.xg.1 q
    have nc : ∀ x, p x = true ∧ x < wS.heap.size → x ∉ Bx.cpl p' u10.heap.size := fun x hx hm => (no x hm).2 hx
    refine ⟨hv2.heap (hkk.heap hF.xb nX) (nc _ h.px), hv2.heap hg (nc _ h.pg), ?_, ?_⟩
    · have k9 : Kept (GB :: Bx.cpl p' u10.heap.size) u9 v := (hk2.mono (fun x hx => .inl (by simp at hx; simp [hx]))).step hv2 (fun x hx => .inl (List.mem_cons_of_mem _ hx))
      refine hL.move (Nat.le_refl _) k9 hv1 (fun hm => ?_) (fun g hg hm => ?_) (fun i hi hm => ?_)
      · rcases List.mem_cons.1 hm with q | q
        · exact h.xg.2.2.2.1 q
        · exact nc _ h.pl q
      · rcases List.mem_cons.1 hm with q | q
        · exact h.xg.2.2.2.2 (by rw [hg, q])
        · exact nc _ (h.pv g hg) q
      · rcases List.mem_cons.1 hm with q | q
        · exact h.xg.2.2.1 i hi q
        · exact nc _ (h.pb i hi) q
    · have k9 : Kept (GB :: Bx.cpl p' u10.heap.size) u9 v := (hk2.mono (fun x hx => .inl (by simp at hx; simp [hx]))).step hv2 (fun x hx => .inl (List.mem_cons_of_mem _ hx))
      refine hP v _ k9 (fun x hx => ?_)
      rcases List.mem_cons.1 hx with q | q
      · rw [q]; have := h.pg.2; omega
      · exact (no x q).1
end
/-- The loop's beginning. -/
theorem Lp.start {w1 w3 w4 w5 w6 : World} {LB : Nat} {V : Value} {n c : Nat} {bs ln : Nat → Nat} {W H D : Int} {A : Bool} {po : Option Addr} {F : Nat → Nat → Nat} {B : Nat} (hB : Bx.BAt w1 w3 B Bx.bo0) (hP : Pc w1 po n ln F) (hF : ∀ i j, F i j < 65536) (hL : Ln w3 w4 LB V n bs ln (fun i => ltF (F i) (ln i)))
    (k5 : Kept [] w4 w5) (x5 : w5.heap[w4.heap.size]? = some (.cells #[.int .i64 W, .int .i64 H, .int .i64 D, .bool A, slv LB n (n + 2), V, slv LB (n + 2) (n + 2)] 45 (0, 0))) (k6 : Kept [] w5 w6) (g6 : w6.heap[w5.heap.size]? = some (.cells #[.int .i64 W, .int .i64 H, .int .i64 D, .bool A, .slice po n c] 38 (0, 0))) :
    ∃ E p, Bx.BAt w1 w6 B { Bx.bo0 with E := E } ∧ Lp w1 E w4.heap.size w5.heap.size LB V n c c bs ln W H D A po (fun i => ltF (F i) (ln i)) F p w6 := by
  have k36 : Kept [] w3 w6 := hL.kept.trans (k5.trans k6)
  have s13 := hB.old.size
  have s34 := hL.kept.size
  have s45 := k5.size
  have s56 := k6.size
  have lX : w4.heap.size < w5.heap.size := lt_of_block x5
  have lG : w5.heap.size < w6.heap.size := lt_of_block g6
  have lL : LB < w4.heap.size := lt_of_block hL.lst
  have lb : ∀ i, i < n → bs i < w4.heap.size := fun i hi => (hL.all.row i hi).lt
  have lv : ∀ g, V.ownBlock = some g → w3.heap.size ≤ g ∧ g < w4.heap.size := fun g hg => own_lt hL.all.own g hg
  obtain ⟨p, ep⟩ : ∃ p : Nat → Bool, ∀ x, p x = decide (w3.heap.size ≤ x) := ⟨_, fun _ => rfl⟩
  have yes : ∀ x, w3.heap.size ≤ x → x < w6.heap.size → p x = true ∧ x < w6.heap.size := fun x h1 h2 => ⟨by rw [ep]; simp [h1], h2⟩
  have nc : ∀ x, w3.heap.size ≤ x → x ∉ Bx.cpl p w6.heap.size := fun x h1 hm => by
    have := (Bx.mem_cpl.1 hm).2
    rw [ep] at this
    simp at this
    omega
  refine ⟨Bx.snap p w6, p, hB.sete k36 (by simp) (Kept.refl _ _) (fun x hx => .inr ?_), ⟨rfl, fun u hu1 hu2 => ⟨hu2.heap (k6.heap x5 (by simp)) (nc _ (by omega)), hu2.heap g6 (nc _ (by omega)), ?_, hP.keep hu1⟩, yes _ (by omega) (by omega), yes _ (by omega) (by omega), yes _ hL.new (by omega), fun g hg => yes g (lv g hg).1 (by have := (lv g hg).2; omega), fun i hi => yes _ (hL.all.lo i hi) (by have := lb i hi; omega), fun i j => ?_, fun i hi j hj => if_pos hj, ⟨by omega, fun i hi => by have := lb i hi; omega, fun i hi => by have := lb i hi; omega, by omega, fun e => by have := (lv _ e).2; omega⟩⟩⟩
  · have h1 := (Bx.mem_inn.1 (show x ∈ Bx.inn p w6.heap.size from hx)).2
    rw [ep] at h1
    simpa using h1
  · exact (hL.keep0 (k5.trans k6)).move s13 hu2 hu1 (nc _ hL.new) (fun g hg => nc g (lv g hg).1) (fun i hi => nc _ (hL.all.lo i hi))
  · show ltF (F i) (ln i) j < 65536
    unfold ltF
    split
    · exact hF i j
    · decide

/-- Cut, both sides, in one form; the program's planes are an answer of the Book's. -/
theorem cut_u (W H D X Y rw rh : Int) (A : Bool) (n : Nat) (ln : Nat → Nat) (F : Nat → Nat → Nat) (hF : ∀ i, i < n → ∀ j, j < ln i → F i j < 65536) (hn : n ≤ 9223372036854775807) (hln : ∀ i, i < n → ln i ≤ 9223372036854775807) (hX : -9223372036854775808 ≤ X ∧ X ≤ 9223372036854775807) (hY : -9223372036854775808 ≤ Y ∧ Y ≤ 9223372036854775807) :
    ∃ (fW fH fD : Int) (fA : Bool) (fn : Nat) (fE : Int) (lm : Nat → Nat) (G : Nat → Nat → Nat), fn ≤ 4 ∧ (∀ i, i < fn → lm i ≤ 100000000) ∧
    (∀ (po : Option Addr) (c : Nat) (w0 w : World) (B d K : Nat) (s : Bx.Bo), Pc w po n ln F → Bx.BAt w0 w B s → Bx.Rq s d K → 4 ≤ K → Calls Try.prog 36 #[frv W H D A po n c, rcv X Y rw rh] w fun e w' => ∃ qo qc s', e = .returned (.tuple #[frv fW fH fD fA qo fn qc, .int .i64 fE]) ∧ Bx.BAt w0 w' B s' ∧ Bx.Rq s' (d + 1) K ∧ (s'.E = s.E ∧ s'.n = s.n + 1 ∧ s'.r = s.r ∧ s'.h = s.h ∧ s'.RV s.n = .slice qo fn qc ∧ ∀ i, i < s.n → s'.RV i = s.RV i) ∧ Pl w' qo fn lm G ∧ Kept [] w w') ∧
    (∀ (po : Option Addr) (c : Nat) (w : World), Pc w po n ln F → Calls Try.prog 37 #[frv W H D A po n c, rcv X Y rw rh] w fun e w' => ∃ qo qc, e = .returned (.tuple #[frv fW fH fD fA qo fn qc, .int .i64 fE]) ∧ Pl w' qo fn lm G ∧ Kept [] w w') := by
  by_cases h : ctE W H D X Y rw rh A n ln F = 0
  · have hv : Vld W H D A n ln F := by
      apply vE_zero.1
      by_cases h0 : vE W H D A n ln F = 0
      · exact h0
      · unfold ctE at h; rw [if_neg h0] at h; exact h
    have hw : whl W H X Y rw rh = true := by
      unfold ctE at h
      rw [if_pos (vE_zero.2 hv)] at h
      by_cases h1 : whl W H X Y rw rh = true
      · exact h1
      · rw [if_neg h1] at h; cases h
    have hd := of_decide_eq_true hw
    have hs1 := hv.shp.1
    have hs2 := hv.shp.2.1
    have hp : ∀ i, pz rw rh i ≤ 100000000 := fun i => by
      have := wpH (W := rw) (H := rh) (i : Int) (by omega) (by omega) (by omega) (by omega)
      unfold pz; omega
    have hn4 : n ≤ 4 := by rw [hv.num]; exact np_hi A
    refine ⟨rw, rh, D, A, n, 0, pz rw rh, cutF F W X Y rw, hn4, fun i _ => hp i, fun po c w0 w B d K s hr hB hR hK => ?_, fun po c w hr => ?_⟩
    · refine (cut_any W H D X Y rw rh A po n c ln F w hr hv hw).mono ?_
      rintro e w' ⟨g, bs, rfl, hM⟩
      refine ⟨_, _, _, rfl, hB.mk hM (by omega), hR.ans (by omega) (fun k hk => ⟨_, _, _, rfl, rfl, hp k⟩), ⟨rfl, rfl, rfl, rfl, ?_, fun i hi => ?_⟩, hM.pl, hM.kept⟩
      · show (if s.n = s.n then _ else _) = _
        rw [if_pos rfl]
      · show (if i = s.n then _ else s.RV i) = _
        rw [if_neg (by omega)]
    · refine (rcut_yes W H D X Y rw rh A po n c ln F w hr hF hv hw).mono ?_
      rintro e w' ⟨qo, qc, rfl, h2, h3⟩
      exact ⟨qo, qc, rfl, h2, h3⟩
  · refine ⟨0, 0, 0, false, 0, ctE W H D X Y rw rh A n ln F, fun _ => 0, fun _ _ => 0, by omega, fun i hi => by omega, fun po c w0 w B d K s hr hB hR hK => ?_, fun po c w hr => ?_⟩
    · refine (cut_no W H D X Y rw rh A po n c ln F w hr hn hln hX hY h).mono ?_
      rintro e w' ⟨rfl, hk⟩
      refine ⟨_, _, _, rfl, hB.nil hk, hR.ans (by omega) (fun k hk => by omega), ⟨rfl, rfl, rfl, rfl, ?_, fun i hi => ?_⟩, .inl rfl, hk⟩
      · show (if s.n = s.n then _ else _) = _
        rw [if_pos rfl]
      · show (if i = s.n then _ else s.RV i) = _
        rw [if_neg (by omega)]
    · refine (rcut_no W H D X Y rw rh A po n c ln F w hr hn hln hF hX hY h).mono ?_
      rintro e w' ⟨rfl, hk⟩
      exact ⟨_, _, rfl, .inl rfl, hk⟩
end Go.Proofs.Ythihennifigchaa

namespace Go.Proofs.Ythihennifigchaa
open Go.RowKit

theorem alloc_newY (w : World) (o : Obj) : ∃ w', w.alloc o = w' ∧ Kept [] w w' ∧ w'.heap[w.heap.size]? = some o := ⟨_, rfl, alloc_kept w o, heap_alloc_new w o⟩
theorem zlf_ne {w : World} {so : Option Addr} {m x : Nat} {f : Nat → Int} {cs : Array Value} (h : (Bk.zlf .u16 65 so m f).P w) (hx : w.heap[x]? = some (.cells cs 54 (0, 0))) (hm : x ∈ Bk.ablk so) : False := by
  rcases h with ⟨rfl, -⟩ | ⟨G, rfl, hT⟩
  · simp [Bk.ablk] at hm
  · simp [Bk.ablk] at hm
    subst hm
    rw [hT] at hx
    simp at hx

theorem Rd.t54 {w w' : World} {so : Option Addr} {m x : Nat} {f : Nat → Nat} {a b : Int} {s0 : Option Addr} {s1 s2 : Nat} (h : Rd w so m f) (hx : w.heap[x]? = some (.cells #[.int .i64 a, .int .i64 b, .slice s0 s1 s2] 54 (0, 0))) (hk : Kept [x] w w') : Rd w' so m f := by
  by_cases h0 : m = 0
  · exact .inl h0
  · refine h.kept hk (fun g off e hm => ?_)
    simp at hm
    subst hm
    rcases h with h | ⟨g', off', e', hc⟩
    · exact h0 h
    · rw [e] at e'
      cases e'
      have hc0 := hc 0 (by omega)
      rw [cell_of_row _ _ _ _ _ _ hx] at hc0
      rcases (by omega : off = 0 ∨ off = 1 ∨ off = 2 ∨ 3 ≤ off) with q | q | q | q
      · subst q; simp at hc0
      · subst q; simp at hc0
      · subst q; simp at hc0
      · have : (#[Value.int .i64 a, Value.int .i64 b, Value.slice s0 s1 s2] : Array Value)[off + 0]? = none := by simp; omega
        rw [this] at hc0
        cases hc0
theorem zlf_rd {w : World} {so : Option Addr} {m : Nat} {f : Nat → Nat} (h : (Bk.zlf .u16 65 so m (fun j => (f j : Int))).P w) : Rd w so m f := by
  rcases h with ⟨-, h⟩ | ⟨G, rfl, hT⟩
  · exact .inl h
  · exact Row.rd hT

set_option maxHeartbeats 16000000 in
set_option maxRecDepth 1000000 in
theorem crops_any (W H D X Y rw rh m0 : Int) (A : Bool) (po : Option Addr) (n c : Nat) (ln : Nat → Nat) (F0 : Nat → Nat → Nat) (w : World) (hr0 : Pc w po n ln F0) (hn : n ≤ 5864062014634) (hln : ∀ i, i < n → ln i ≤ 70368744175616) (hF0 : ∀ i, i < n → ∀ j, j < ln i → F0 i j < 65536) (hX : -9223372036854775808 ≤ X ∧ X ≤ 9223372036854775807) (hY : -9223372036854775808 ≤ Y ∧ Y ≤ 9223372036854775807) (hm0 : -9223372036854775808 ≤ m0 ∧ m0 ≤ 9223372036854775807) :
    Calls Try.prog 5 #[frv W H D A po n c, .int .i64 m0, rcv X Y rw rh] w fun e w' => e = .returned (.bool true) ∧ Kept [] w w' := by
  obtain ⟨F, hr, hF⟩ := hr0.nice hF0
  have CU := Hid.mk (fun (FT : Nat → Nat → Nat) (hT : ∀ i j, FT i j < 65536) (q : Int) => crop_u W H D q X Y rw rh A n ln FT (fun i _ j _ => hT i j) (by omega) (fun i hi => by have := hln i hi; omega) hX hY)
  have CP := Hid.mk (fun u => place_any m0 2 u hm0 (by omega) (by omega))
  have hpl := plc_lo m0 (n := 2) (by omega)
  have hph := plc_hi m0 (n := 2) (by omega)
  obtain ⟨pl, epl⟩ : ∃ pl, plc m0 2 = pl := ⟨_, rfl⟩
  rw [epl] at CP hpl hph
  obtain ⟨qq, eqq⟩ : ∃ qq, 1 - pl = qq := ⟨_, rfl⟩
  have aq1 : IntKind.i64.wrap (1 - pl) = qq := by rw [wrap_i (by omega) (by omega)]; exact eqq
  have aq2 : wrap64 (1 - pl) = qq := by unfold wrap64; omega
  have AQ := Hid.mk (And.intro aq1 aq2)
  clear aq1 aq2 eqq epl hpl hph
  have HF := Hid.mk hF
  have Hln := Hid.mk hln
  obtain ⟨wa, ewa, kwa, hba⟩ := alloc_newY w (.cells #[.int .i64 W, .int .i64 H, .int .i64 D, .bool A, .slice po n c] 38)
  obtain ⟨w1, ew1, kw1, hb1⟩ := alloc_newY wa (.cells #[.int .i64 X, .int .i64 Y, .int .i64 rw, .int .i64 rh] 51)
  obtain ⟨b0, eb0⟩ : ∃ b, w.heap.size = b := ⟨_, rfl⟩
  obtain ⟨b1, eb1⟩ : ∃ b, wa.heap.size = b := ⟨_, rfl⟩
  rw [eb0] at hba
  rw [eb1] at hb1
  have hf1 := kw1.heap hba (by simp)
  have P1 := Hid.mk (hr.keep (kwa.trans kw1))
  have Q1 : Hid (∀ u, Kept [] w1 u → u.heap[b0]? = some (.cells #[.int .i64 W, .int .i64 H, .int .i64 D, .bool A, .slice po n c] 38 (0, 0)) ∧ u.heap[b1]? = some (.cells #[.int .i64 X, .int .i64 Y, .int .i64 rw, .int .i64 rh] 51 (0, 0))) := Hid.mk (fun u hu => ⟨hu.heap hf1 (by simp), hu.heap hb1 (by simp)⟩)
  have K0 := Hid.mk (kwa.trans kw1)
  clear hr0 hF0 hF hr hln hX hY hm0 kwa kw1 hba hb1 hf1
  go_enter Try.func5, Try.ntmps5
  go_wp2_with (fail)
  refine (shown_any w1).mono ?_
  rintro e w2 ⟨rfl, k2⟩
  obtain ⟨w3, ew3, k3, hb3⟩ := alloc_newY w2 (.cells #[.slice none 0 0, .int .i64 0, .slice none 0 0] 35)
  obtain ⟨B, eB⟩ : ∃ B, w2.heap.size = B := ⟨_, rfl⟩
  have sB : w1.heap.size ≤ B := by rw [← eB]; exact k2.size
  rw [eB] at hb3
  have K3 := Hid.mk (k2.trans k3)
  have B3 := Hid.mk (Bx.bo0_at K3.out sB hb3)
  obtain ⟨⟨f0, f1, f2, f3, f4⟩, -⟩ := five (Q1.out w3 K3.out).1
  have LE := Hid.mk (lend_any W H D A po n c ln F w3 (P1.out.keep K3.out).pl hn Hln.out)
  clear k2 k3 hb3 sB ewa ew1
  go_wp2_with (fail)
  with_reducible refine LE.out.mono ?_
  rintro e w4 ⟨LB, V, bs, rfl, hL⟩
  obtain ⟨vo, vc, rfl⟩ : ∃ vo vc, V = .slice vo n vc := by
    rcases hL.all.own.2 with ⟨e2, h0⟩ | ⟨g2, cap, cur, e2, _⟩
    · exact ⟨none, 0, by rw [e2, h0]⟩
    · exact ⟨_, _, e2⟩
  have HL := Hid.mk hL
  clear f0 f1 f2 f3 f4 hL LE ew3 eB
  have hx5 := heap_alloc_new w4 (.cells #[.int .i64 W, .int .i64 H, .int .i64 D, .bool A, slv LB n (n + 2), .slice vo n vc, slv LB (n + 2) (n + 2)] 45)
  have k5 := alloc_kept w4 (.cells #[.int .i64 W, .int .i64 H, .int .i64 D, .bool A, slv LB n (n + 2), .slice vo n vc, slv LB (n + 2) (n + 2)] 45)
  obtain ⟨⟨f0, f1, f2, f3, f4⟩, -⟩ := five (Q1.out _ ((K3.out.trans HL.out.kept).trans k5)).1
  go_upto_region 5 with (fail)
  obtain ⟨w5, ew5⟩ : ∃ w5, w4.alloc (.cells #[.int .i64 W, .int .i64 H, .int .i64 D, .bool A, slv LB n (n + 2), .slice vo n vc, slv LB (n + 2) (n + 2)] 45) = w5 := ⟨_, rfl⟩
  rw [ew5] at hx5 k5
  rw [ew5]
  have hg6 := heap_alloc_new w5 (.cells #[.int .i64 W, .int .i64 H, .int .i64 D, .bool A, .slice po n c] 38)
  have k6 := alloc_kept w5 (.cells #[.int .i64 W, .int .i64 H, .int .i64 D, .bool A, .slice po n c] 38)
  obtain ⟨w6, ew6⟩ : ∃ w6, w5.alloc (.cells #[.int .i64 W, .int .i64 H, .int .i64 D, .bool A, .slice po n c] 38) = w6 := ⟨_, rfl⟩
  rw [ew6] at hg6 k6
  rw [ew6]
  obtain ⟨E0, p0, hB6, hLp⟩ := Lp.start B3.out (P1.out) HF.out HL.out k5 hx5 k6 hg6
  obtain ⟨XB, eXB⟩ : ∃ XB, w4.heap.size = XB := ⟨_, rfl⟩
  obtain ⟨GB, eGB⟩ : ∃ GB, w5.heap.size = GB := ⟨_, rfl⟩
  rw [eXB, eGB] at hLp
  have ST : Hid (∃ s p wS go gc LF FT, Bx.BAt w1 w6 B s ∧ Bx.Rq s 0 (4 + 2 * 0) ∧ s.n = 0 ∧ s.h ≤ 1000 * 0 ∧ Lp w1 s.E XB GB LB (.slice vo n vc) n c gc bs ln W H D A go LF FT p wS ∧ (∀ i j, FT i j < 65536) ∧ ((0 : Nat) = 0 → LF = (fun i => ltF (F i) (ln i)))) := Hid.mk ⟨_, p0, w6, po, c, _, F, hB6, ⟨rfl, fun _ h => absurd h (by show ¬ _ < 0; omega), fun _ h => absurd h (by show ¬ _ < 0; omega), fun _ => Nat.zero_le _, fun j => ⟨fun h => h.elim, fun h => absurd h (by show ¬ j < 0; omega)⟩, fun _ _ h => absurd h (by show ¬ _ < 0; omega)⟩, rfl, Nat.zero_le _, hLp, HF.out, fun _ => rfl⟩
  have eG' : XB + 1 = GB := by rw [← eXB, ← eGB, ← ew5, World.size_alloc]
  rw [eXB, eG']
  clear f0 f1 f2 f3 f4 ew5 ew6 hx5 k5 hg6 k6 hB6 hLp B3 HL eXB eGB eG' K3
  go_wp2
  go_loopw [11] (fun t wr => ∃ k : Nat, k ≤ 2 ∧ t = .int .i64 (k : Int) ∧ ∃ s p wS go gc LF FT, Bx.BAt w1 wr B s ∧ Bx.Rq s 0 (4 + 2 * k) ∧ s.n = k ∧ s.h ≤ 1000 * k ∧ Lp w1 s.E XB GB LB (.slice vo n vc) n c gc bs ln W H D A go LF FT p wS ∧ (∀ i j, FT i j < 65536) ∧ (k = 0 → LF = (fun i => ltF (F i) (ln i)))) (fun t _ => 2 - (intOf t).toNat)
  case atStart =>
    obtain ⟨s, p, wS, go, gc, LF, FT, q1, q2, q3, q4, q5, q6, q7⟩ := ST.out
    exact ⟨0, by omega, rfl, s, p, wS, go, gc, LF, FT, q1, q2, q3, q4, q5, q6, fun _ => q7 (by trivial)⟩
  case round =>
    obtain ⟨k, hk, rfl, s, p, wS, go, gc, LF, FT, hB, hR, hsn, hsh, hLp, hFT, hk0⟩ := hrel
    by_cases hlt : k < 2
    · have ix : (k : Int) < 2 := by omega
      obtain ⟨bW1, bH1, M1, E1, fM1, hM1, NA, RA⟩ := CU.out FT hFT m0
      obtain ⟨bW2, bH2, M, E2, fM, hM2, NB, RB⟩ := CU.out FT hFT qq
      have NA := Hid.mk NA
      have RA := Hid.mk RA
      have NB := Hid.mk NB
      have RB := Hid.mk RB
      have HB := Hid.mk (And.intro hB hR)
      have HLP := Hid.mk hLp
      have HK0 := Hid.mk hk0
      have HFC := Hid.mk (hLp.at hB)
      have HFT := Hid.mk hFT
      have C1 := Hid.mk (NA.out (some ⟨LB, 0, none⟩) (n + 2) wr (HFC.out.ln_.pc hLp.ft))
      obtain ⟨⟨x0, x1, x2, x3, x4, x5, x6⟩, -⟩ := seven HFC.out.xb
      obtain ⟨⟨r0, r1, r2, r3⟩, -⟩ := four (Q1.out wr hB.old).2
      clear hB hR hLp hk0 hFT
      go_wp2_with (fail)
      with_reducible refine C1.out.mono ?_
      rintro e v1 ⟨so1, rfl, hz1, hzl1, hk1⟩
      have H1 := Hid.mk (And.intro hz1 (And.intro hzl1 hk1))
      clear x0 x1 x2 x3 x4 x5 x6 r0 r1 r2 r3 C1 hz1 hzl1 hk1
      go_upto_region 9 with (fail)
      obtain ⟨wv, ewv⟩ : ∃ wv, v1.alloc (.cells #[.int .i64 bW1, .int .i64 bH1, .slice so1 M1 M1] 54) = wv := ⟨_, rfl⟩
      have hg1 : wv.heap[v1.heap.size]? = some (.cells #[.int .i64 bW1, .int .i64 bH1, .slice so1 M1 M1] 54) := by rw [← ewv]; exact heap_alloc_new _ _
      have kv1 : Kept [] v1 wv := by rw [← ewv]; exact alloc_kept _ _
      rw [ewv]
      obtain ⟨G1, eG1⟩ : ∃ G1, v1.heap.size = G1 := ⟨_, rfl⟩
      rw [eG1] at hg1 ⊢
      have KV := Hid.mk (H1.out.2.2.trans kv1)
      have D1 := Hid.mk (And.intro hg1 (And.intro ((Bk.zlf .u16 65 so1 M1 (fun j => (fM1 j : Int))).keep H1.out.1 kv1 (by simp)) (fun x (hx : x ∈ Bk.ablk so1) => (⟨(H1.out.2.1 x hx).1, Nat.lt_of_lt_of_le (H1.out.2.1 x hx).2 kv1.size⟩ : wr.heap.size ≤ x ∧ x < wv.heap.size))))
      have FV := HFC.out.keep KV.out
      have HFV := Hid.mk FV
      have SX : Hid (∀ u, Kept [] wv u → u.cell? ⟨XB, 0, none⟩ = some (.int .i64 W) ∧ u.cell? ⟨XB, 1, none⟩ = some (.int .i64 H) ∧ u.cell? ⟨XB, 2, none⟩ = some (.int .i64 D) ∧ u.cell? ⟨XB, 3, none⟩ = some (.bool A) ∧ u.cell? ⟨XB, 4, none⟩ = some (slv LB n (n + 2)) ∧ u.cell? ⟨b1, 0, none⟩ = some (.int .i64 X) ∧ u.cell? ⟨b1, 1, none⟩ = some (.int .i64 Y) ∧ u.cell? ⟨b1, 2, none⟩ = some (.int .i64 rw) ∧ u.cell? ⟨b1, 3, none⟩ = some (.int .i64 rh)) := Hid.mk (fun u hu => by
        obtain ⟨⟨q0, q1, q2, q3, q4, -, -⟩, -⟩ := seven ((HFV.out.keep hu).xb)
        obtain ⟨⟨q5, q6, q7, q8⟩, -⟩ := four (Q1.out u ((HB.out.1.old.trans KV.out).trans hu)).2
        exact ⟨q0, q1, q2, q3, q4, q5, q6, q7, q8⟩)
      have C2 := Hid.mk (fun u (hu : Kept [] wv u) => NB.out (some ⟨LB, 0, none⟩) (n + 2) u ((HFV.out.keep hu).ln_.pc HLP.out.ft))
      have ED := Hid.mk (SX.out wv.drew ((Kept.refl [] wv).drew))
      obtain ⟨aq1, aq2⟩ := AQ.out
      clear FV hg1 kv1 eG1 ewv H1
      go_cut [14, 15] (fun s v wc => ∃ so G, s = .pointer (some ⟨G, 0, none⟩) ∧ v = .int .i64 E2 ∧ wc.heap[G]? = some (.cells #[.int .i64 bW2, .int .i64 bH2, .slice so M M] 54 (0, 0)) ∧ (Bk.zlf .u16 65 so M (fun j => (fM j : Int))).P wc ∧ (∀ x ∈ Bk.ablk so, wv.heap.size ≤ x ∧ x < wc.heap.size) ∧ Kept [] wv wc)
      case first =>
        refine wp_region_held_drew (S := fun u => u.cell? ⟨XB, 0, none⟩ = some (.int .i64 W) ∧ u.cell? ⟨XB, 1, none⟩ = some (.int .i64 H) ∧ u.cell? ⟨XB, 2, none⟩ = some (.int .i64 D) ∧ u.cell? ⟨XB, 3, none⟩ = some (.bool A) ∧ u.cell? ⟨XB, 4, none⟩ = some (slv LB n (n + 2)) ∧ u.cell? ⟨b1, 0, none⟩ = some (.int .i64 X) ∧ u.cell? ⟨b1, 1, none⟩ = some (.int .i64 Y) ∧ u.cell? ⟨b1, 2, none⟩ = some (.int .i64 rw) ∧ u.cell? ⟨b1, 3, none⟩ = some (.int .i64 rh)) (by kernel_rfl) ED.out (fun hHeld => ?_)
        refine wpAnyH_take (i := 0) (v := ?_) rfl (by kernel_rfl) (by kernel_rfl) (by kernel_rfl) (fun _ _ _ h => h) (Or.inl ⟨by rfl, ?_⟩) (by assumption) ?_
        rotate_left
        · intro w hSw
          try dsimp only at hSw
          go_simp
          all_goals with_reducible rfl
        simp only [Act.put, List.getElem_toArray, List.getElem_cons_zero, List.setIfInBounds_toArray, List.set_cons_zero, List.set_cons_succ]
        refine wpAnyH_take (i := 1) (v := ?_) rfl (by kernel_rfl) (by kernel_rfl) (by kernel_rfl) (fun _ _ _ h => h) (Or.inl ⟨by rfl, ?_⟩) (by assumption) ?_
        rotate_left
        · intro w hSw
          try dsimp only at hSw
          go_simp
          all_goals with_reducible rfl
        simp only [Act.put, List.getElem_toArray, List.getElem_cons_zero, List.getElem_cons_succ, List.setIfInBounds_toArray, List.set_cons_zero, List.set_cons_succ]
        refine wpAnyH_take (i := 2) (v := ?_) rfl (by kernel_rfl) (by kernel_rfl) (by kernel_rfl) (fun _ _ _ h => h) (Or.inl ⟨by rfl, ?_⟩) (by assumption) ?_
        rotate_left
        · intro w hSw
          try dsimp only at hSw
          go_simp
          all_goals with_reducible rfl
        simp only [Act.put, List.getElem_toArray, List.getElem_cons_zero, List.getElem_cons_succ, List.setIfInBounds_toArray, List.set_cons_zero, List.set_cons_succ]
        refine wpAnyH_take (i := 5) (v := ?_) rfl (by kernel_rfl) (by kernel_rfl) (by kernel_rfl) (fun _ _ _ h => h) (Or.inl ⟨by rfl, ?_⟩) (by assumption) ?_
        rotate_left
        · intro w hSw
          try dsimp only at hSw
          go_simp
          all_goals with_reducible rfl
        simp only [Act.put, List.getElem_toArray, List.getElem_cons_zero, List.getElem_cons_succ, List.setIfInBounds_toArray, List.set_cons_zero, List.set_cons_succ]
        refine wpAnyH_ready (rs := [3, 10]) (by kernel_rfl) (by simp) ?_
        refine (AllReadyH.cons rfl (fun K9 hK9 => ?_) (AllReadyH.cons rfl (fun K9 hK9 => ?_) AllReadyH.nil))
        · go_simp
          go_at_call 27
          refine (CP.out _).mono ?_
          rintro e v ⟨rfl, hv⟩
          obtain rfl := hv.symm
          refine hK9.out _ _ ED.out (fun hHeld2 => ?_)
          clear hK9 K9
          refine wpAnyH_take (i := 4) (v := ?_) rfl (by kernel_rfl) (by kernel_rfl) (by kernel_rfl) (fun _ _ _ h => h) (Or.inl ⟨by rfl, ?_⟩) (by assumption) ?_
          rotate_left
          · intro w hSw
            try dsimp only at hSw
            go_simp
            all_goals with_reducible rfl
          simp only [Act.put, List.getElem_toArray, List.getElem_cons_zero, List.getElem_cons_succ, List.setIfInBounds_toArray, List.set_cons_zero, List.set_cons_succ]
          refine wpAnyH_ready (rs := [6, 10]) (by kernel_rfl) (by simp) ?_
          refine (AllReadyH.cons rfl (fun K9 hK9 => ?_) (AllReadyH.cons rfl (fun K9 hK9 => ?_) AllReadyH.nil))
          · go_simp
            go_at_call 26
            refine (C2.out _ (((Kept.refl [] wv).drew))).mono ?_
            rintro e v5 ⟨so, rfl, hz, hzl, hkk⟩
            have kv5 : Kept [] wv v5 := (((Kept.refl [] wv).drew)).trans hkk
            refine hK9.out _ _ (SX.out _ kv5) (fun hHeld2 => ?_)
            clear hK9 K9
            refine wpAnyH_take (i := 7) (v := ?_) rfl (by kernel_rfl) (by kernel_rfl) (by kernel_rfl) (fun _ _ _ h => h) (Or.inl ⟨by rfl, ?_⟩) (by assumption) ?_
            rotate_left
            · intro w hSw
              try dsimp only at hSw
              go_simp
              all_goals with_reducible rfl
            simp only [Act.put, List.getElem_toArray, List.getElem_cons_zero, List.getElem_cons_succ, List.setIfInBounds_toArray, List.set_cons_zero, List.set_cons_succ]
            refine wpAnyH_take (i := 8) (v := ?_) rfl (by kernel_rfl) (by kernel_rfl) (by kernel_rfl) (fun _ _ _ h => h) (Or.inl ⟨by rfl, ?_⟩) (by assumption) ?_
            rotate_left
            · intro w hSw
              try dsimp only at hSw
              go_simp
              all_goals with_reducible rfl
            simp only [Act.put, List.getElem_toArray, List.getElem_cons_zero, List.getElem_cons_succ, List.setIfInBounds_toArray, List.set_cons_zero, List.set_cons_succ]
            refine wpAnyH_take (i := 9) (v := ?_) rfl (by kernel_rfl) (by kernel_rfl) (by kernel_rfl) (fun _ _ _ h => h) (Or.inl ⟨by rfl, ?_⟩) (by assumption) ?_
            rotate_left
            · intro w hSw
              try dsimp only at hSw
              go_simp
              all_goals with_reducible rfl
            simp only [Act.put, List.getElem_toArray, List.getElem_cons_zero, List.getElem_cons_succ, List.setIfInBounds_toArray, List.set_cons_zero, List.set_cons_succ]
            refine wpAnyH_ready (rs := [10]) (by kernel_rfl) (by simp) ?_
            refine (AllReadyH.cons rfl (fun K9 hK9 => ?_) AllReadyH.nil)
            go_simp
            refine hK9.out _ _ (SX.out _ (kv5.alloc (.cells #[.int .i64 0, .int .i64 0, .slice none 0 0] 54))) (fun hHeld2 => ?_)
            clear hK9 K9
            have kS : Kept [] wv (v5.alloc (.cells #[.int .i64 bW2, .int .i64 bH2, .slice so M M] 54)) := kv5.alloc _
            refine wpAnyH_ready (rs := [11]) (by kernel_rfl) (by simp) ?_
            refine (AllReadyH.cons rfl (fun K9 hK9 => ?_) AllReadyH.nil)
            go_simp
            refine hK9.out _ _ (SX.out _ kS) (fun hHeld2 => ?_)
            clear hK9 K9
            refine wpAnyH_take (i := 12) (v := ?_) rfl (by kernel_rfl) (by kernel_rfl) (by kernel_rfl) (fun _ _ _ h => h) (Or.inl ⟨by rfl, ?_⟩) (by assumption) ?_
            rotate_left
            · intro w hSw
              try dsimp only at hSw
              go_simp
              all_goals with_reducible rfl
            simp only [Act.put, List.getElem_toArray, List.getElem_cons_zero, List.getElem_cons_succ, List.setIfInBounds_toArray, List.set_cons_zero, List.set_cons_succ]
            refine wpAnyH_done (by kernel_rfl) ?_ _
            clear hHeld hHeld2
            go_wp2_with (fail)
            go_meet
            exact ⟨so, v5.heap.size, rfl, rfl, heap_alloc_new _ _, (Bk.zlf .u16 65 so M (fun j => (fM j : Int))).keep hz ((Kept.refl [] v5).alloc _) (by simp), fun x hx => (by have h1 := hzl x hx; have h3 := ((Kept.refl [] v5).alloc (.cells #[.int .i64 bW2, .int .i64 bH2, .slice so M M] 54)).size; have h4 : wv.heap.size ≤ wv.drew.heap.size := (((Kept.refl [] wv).drew)).size; omega), kS⟩
          · go_simp
            refine hK9.out _ _ (SX.out _ (((Kept.refl [] wv).drew).alloc (.cells #[.int .i64 0, .int .i64 0, .slice none 0 0] 54))) (fun hHeld2 => ?_)
            clear hK9 K9
            refine wpAnyH_ready (rs := [6]) (by kernel_rfl) (by simp) ?_
            refine (AllReadyH.cons rfl (fun K9 hK9 => ?_) AllReadyH.nil)
            go_simp
            go_at_call 26
            refine (C2.out _ ((((Kept.refl [] wv).drew).alloc (.cells #[.int .i64 0, .int .i64 0, .slice none 0 0] 54)))).mono ?_
            rintro e v5 ⟨so, rfl, hz, hzl, hkk⟩
            have kv5 : Kept [] wv v5 := ((((Kept.refl [] wv).drew).alloc (.cells #[.int .i64 0, .int .i64 0, .slice none 0 0] 54))).trans hkk
            refine hK9.out _ _ (SX.out _ kv5) (fun hHeld2 => ?_)
            clear hK9 K9
            refine wpAnyH_take (i := 7) (v := ?_) rfl (by kernel_rfl) (by kernel_rfl) (by kernel_rfl) (fun _ _ _ h => h) (Or.inl ⟨by rfl, ?_⟩) (by assumption) ?_
            rotate_left
            · intro w hSw
              try dsimp only at hSw
              go_simp
              all_goals with_reducible rfl
            simp only [Act.put, List.getElem_toArray, List.getElem_cons_zero, List.getElem_cons_succ, List.setIfInBounds_toArray, List.set_cons_zero, List.set_cons_succ]
            refine wpAnyH_take (i := 8) (v := ?_) rfl (by kernel_rfl) (by kernel_rfl) (by kernel_rfl) (fun _ _ _ h => h) (Or.inl ⟨by rfl, ?_⟩) (by assumption) ?_
            rotate_left
            · intro w hSw
              try dsimp only at hSw
              go_simp
              all_goals with_reducible rfl
            simp only [Act.put, List.getElem_toArray, List.getElem_cons_zero, List.getElem_cons_succ, List.setIfInBounds_toArray, List.set_cons_zero, List.set_cons_succ]
            refine wpAnyH_take (i := 9) (v := ?_) rfl (by kernel_rfl) (by kernel_rfl) (by kernel_rfl) (fun _ _ _ h => h) (Or.inl ⟨by rfl, ?_⟩) (by assumption) ?_
            rotate_left
            · intro w hSw
              try dsimp only at hSw
              go_simp
              all_goals with_reducible rfl
            simp only [Act.put, List.getElem_toArray, List.getElem_cons_zero, List.getElem_cons_succ, List.setIfInBounds_toArray, List.set_cons_zero, List.set_cons_succ]
            have hG5 : v5.heap[wv.heap.size]? = some (.cells #[.int .i64 0, .int .i64 0, .slice none 0 0] 54) := hkk.heap (heap_alloc_new wv.drew (.cells #[.int .i64 0, .int .i64 0, .slice none 0 0] 54)) (by simp)
            obtain ⟨⟨z0, z1, z2⟩, q0, q1, q2⟩ := tri' hG5
            have s3' := set3 (.int .i64 bW2) (.int .i64 bH2) (.slice so M M) hG5
            have kS : Kept [] wv (((v5.setCell ⟨wv.heap.size, 0, none⟩ (.int .i64 bW2)).setCell ⟨wv.heap.size, 1, none⟩ (.int .i64 bH2)).setCell ⟨wv.heap.size, 2, none⟩ (.slice so M M)) := kv5.step s3'.2 (fun x hx => .inr (by simp at hx; omega))
            have kw5 : wv.heap.size ≤ v5.heap.size := kv5.size
            have hGt := hG5
            refine wpAnyH_ready (rs := [11]) (by kernel_rfl) (by simp) ?_
            refine (AllReadyH.cons rfl (fun K9 hK9 => ?_) AllReadyH.nil)
            go_simp
            refine hK9.out _ _ (SX.out _ kS) (fun hHeld2 => ?_)
            clear hK9 K9
            refine wpAnyH_take (i := 12) (v := ?_) rfl (by kernel_rfl) (by kernel_rfl) (by kernel_rfl) (fun _ _ _ h => h) (Or.inl ⟨by rfl, ?_⟩) (by assumption) ?_
            rotate_left
            · intro w hSw
              try dsimp only at hSw
              go_simp
              all_goals with_reducible rfl
            simp only [Act.put, List.getElem_toArray, List.getElem_cons_zero, List.getElem_cons_succ, List.setIfInBounds_toArray, List.set_cons_zero, List.set_cons_succ]
            refine wpAnyH_done (by kernel_rfl) ?_ _
            clear z0 z1 z2 q0 q1 q2 hHeld hHeld2
            go_wp2_with (fail)
            go_meet
            exact ⟨so, wv.heap.size, rfl, rfl, s3'.1, (Bk.zlf .u16 65 so M (fun j => (fM j : Int))).keep hz s3'.2 (fun x hx hm => by simp at hm; subst hm; exact zlf_ne hz hGt hx), fun x hx => (by have h1 := hzl x hx; have h2 := s3'.2.size; have h4 := ((((Kept.refl [] wv).drew).alloc (.cells #[.int .i64 0, .int .i64 0, .slice none 0 0] 54))).size; omega), kS⟩
        · go_simp
          refine hK9.out _ _ (SX.out _ (((Kept.refl [] wv).drew).alloc (.cells #[.int .i64 0, .int .i64 0, .slice none 0 0] 54))) (fun hHeld2 => ?_)
          clear hK9 K9
          refine wpAnyH_ready (rs := [3]) (by kernel_rfl) (by simp) ?_
          refine (AllReadyH.cons rfl (fun K9 hK9 => ?_) AllReadyH.nil)
          go_simp
          go_at_call 27
          refine (CP.out _).mono ?_
          rintro e v ⟨rfl, hv⟩
          obtain rfl := hv.symm
          refine hK9.out _ _ (SX.out _ (((Kept.refl [] wv).drew).alloc (.cells #[.int .i64 0, .int .i64 0, .slice none 0 0] 54))) (fun hHeld2 => ?_)
          clear hK9 K9
          refine wpAnyH_take (i := 4) (v := ?_) rfl (by kernel_rfl) (by kernel_rfl) (by kernel_rfl) (fun _ _ _ h => h) (Or.inl ⟨by rfl, ?_⟩) (by assumption) ?_
          rotate_left
          · intro w hSw
            try dsimp only at hSw
            go_simp
            all_goals with_reducible rfl
          simp only [Act.put, List.getElem_toArray, List.getElem_cons_zero, List.getElem_cons_succ, List.setIfInBounds_toArray, List.set_cons_zero, List.set_cons_succ]
          refine wpAnyH_ready (rs := [6]) (by kernel_rfl) (by simp) ?_
          refine (AllReadyH.cons rfl (fun K9 hK9 => ?_) AllReadyH.nil)
          go_simp
          go_at_call 26
          refine (C2.out _ ((((Kept.refl [] wv).drew).alloc (.cells #[.int .i64 0, .int .i64 0, .slice none 0 0] 54)))).mono ?_
          rintro e v5 ⟨so, rfl, hz, hzl, hkk⟩
          have kv5 : Kept [] wv v5 := ((((Kept.refl [] wv).drew).alloc (.cells #[.int .i64 0, .int .i64 0, .slice none 0 0] 54))).trans hkk
          refine hK9.out _ _ (SX.out _ kv5) (fun hHeld2 => ?_)
          clear hK9 K9
          refine wpAnyH_take (i := 7) (v := ?_) rfl (by kernel_rfl) (by kernel_rfl) (by kernel_rfl) (fun _ _ _ h => h) (Or.inl ⟨by rfl, ?_⟩) (by assumption) ?_
          rotate_left
          · intro w hSw
            try dsimp only at hSw
            go_simp
            all_goals with_reducible rfl
          simp only [Act.put, List.getElem_toArray, List.getElem_cons_zero, List.getElem_cons_succ, List.setIfInBounds_toArray, List.set_cons_zero, List.set_cons_succ]
          refine wpAnyH_take (i := 8) (v := ?_) rfl (by kernel_rfl) (by kernel_rfl) (by kernel_rfl) (fun _ _ _ h => h) (Or.inl ⟨by rfl, ?_⟩) (by assumption) ?_
          rotate_left
          · intro w hSw
            try dsimp only at hSw
            go_simp
            all_goals with_reducible rfl
          simp only [Act.put, List.getElem_toArray, List.getElem_cons_zero, List.getElem_cons_succ, List.setIfInBounds_toArray, List.set_cons_zero, List.set_cons_succ]
          refine wpAnyH_take (i := 9) (v := ?_) rfl (by kernel_rfl) (by kernel_rfl) (by kernel_rfl) (fun _ _ _ h => h) (Or.inl ⟨by rfl, ?_⟩) (by assumption) ?_
          rotate_left
          · intro w hSw
            try dsimp only at hSw
            go_simp
            all_goals with_reducible rfl
          simp only [Act.put, List.getElem_toArray, List.getElem_cons_zero, List.getElem_cons_succ, List.setIfInBounds_toArray, List.set_cons_zero, List.set_cons_succ]
          have hG5 : v5.heap[wv.heap.size]? = some (.cells #[.int .i64 0, .int .i64 0, .slice none 0 0] 54) := hkk.heap (heap_alloc_new wv.drew (.cells #[.int .i64 0, .int .i64 0, .slice none 0 0] 54)) (by simp)
          obtain ⟨⟨z0, z1, z2⟩, q0, q1, q2⟩ := tri' hG5
          have s3' := set3 (.int .i64 bW2) (.int .i64 bH2) (.slice so M M) hG5
          have kS : Kept [] wv (((v5.setCell ⟨wv.heap.size, 0, none⟩ (.int .i64 bW2)).setCell ⟨wv.heap.size, 1, none⟩ (.int .i64 bH2)).setCell ⟨wv.heap.size, 2, none⟩ (.slice so M M)) := kv5.step s3'.2 (fun x hx => .inr (by simp at hx; omega))
          have kw5 : wv.heap.size ≤ v5.heap.size := kv5.size
          have hGt := hG5
          refine wpAnyH_ready (rs := [11]) (by kernel_rfl) (by simp) ?_
          refine (AllReadyH.cons rfl (fun K9 hK9 => ?_) AllReadyH.nil)
          go_simp
          refine hK9.out _ _ (SX.out _ kS) (fun hHeld2 => ?_)
          clear hK9 K9
          refine wpAnyH_take (i := 12) (v := ?_) rfl (by kernel_rfl) (by kernel_rfl) (by kernel_rfl) (fun _ _ _ h => h) (Or.inl ⟨by rfl, ?_⟩) (by assumption) ?_
          rotate_left
          · intro w hSw
            try dsimp only at hSw
            go_simp
            all_goals with_reducible rfl
          simp only [Act.put, List.getElem_toArray, List.getElem_cons_zero, List.getElem_cons_succ, List.setIfInBounds_toArray, List.set_cons_zero, List.set_cons_succ]
          refine wpAnyH_done (by kernel_rfl) ?_ _
          clear z0 z1 z2 q0 q1 q2 hHeld hHeld2
          go_wp2_with (fail)
          go_meet
          exact ⟨so, wv.heap.size, rfl, rfl, s3'.1, (Bk.zlf .u16 65 so M (fun j => (fM j : Int))).keep hz s3'.2 (fun x hx hm => by simp at hm; subst hm; exact zlf_ne hz hGt hx), fun x hx => (by have h1 := hzl x hx; have h2 := s3'.2.size; have h4 := ((((Kept.refl [] wv).drew).alloc (.cells #[.int .i64 0, .int .i64 0, .slice none 0 0] 54))).size; omega), kS⟩
      case rest =>
        obtain ⟨so2, G2, rfl, rfl, hg2, hz2, hzl2, hk2⟩ := hcut
        obtain ⟨u2, eu2⟩ : ∃ u2, u2 = wc := ⟨_, rfl⟩
        subst eu2
        have D2 := Hid.mk (And.intro hg2 (And.intro hz2 hzl2))
        have K2 := Hid.mk (KV.out.trans hk2)
        have D1' := Hid.mk (And.intro (hk2.heap D1.out.1 (by simp)) ((Bk.zlf .u16 65 so1 M1 (fun j => (fM1 j : Int))).keep D1.out.2.1 hk2 (by simp)))
        have Z1 := Hid.mk D1.out.2.2
        have ZW := Hid.mk KV.out.size
        have HF2 := Hid.mk (HFC.out.keep K2.out)
        have S12 := Hid.mk hk2.size
        clear hg2 hz2 hzl2 hk2 D1 SX C2 ED KV HFV aq1 aq2
        have C3 := Hid.mk (NA.out (some ⟨LB, 0, none⟩) (n + 2) u2 (HF2.out.ln_.pc HLP.out.ft))
        obtain ⟨⟨x0, x1, x2, x3, x4, x5, x6⟩, -⟩ := seven HF2.out.xb
        obtain ⟨⟨r0, r1, r2, r3⟩, -⟩ := four (Q1.out u2 (HB.out.1.old.trans K2.out)).2
        go_wp2_with (fail)
        with_reducible refine C3.out.mono ?_
        rintro e v3 ⟨so3, rfl, hz3, hzl3, hk3⟩
        have H3 := Hid.mk (And.intro hz3 (And.intro hzl3 hk3))
        have ka3 := alloc_kept v3 (.cells #[.int .i64 bW1, .int .i64 bH1, .slice so3 M1 M1] 54)
        obtain ⟨⟨g0, g1, g2, g3, g4⟩, -⟩ := five ((HF2.out.keep (hk3.trans ka3)).gb)
        obtain ⟨⟨r0', r1', r2', r3'⟩, -⟩ := four (Q1.out _ (HB.out.1.old.trans (K2.out.trans (hk3.trans ka3)))).2
        clear x0 x1 x2 x3 x4 x5 x6 r0 r1 r2 r3 C3 hz3 hzl3 hk3
        go_wp2_with (fail)
        obtain ⟨u3, eu3⟩ : ∃ u3, v3.alloc (.cells #[.int .i64 bW1, .int .i64 bH1, .slice so3 M1 M1] 54) = u3 := ⟨_, rfl⟩
        have hg3 : u3.heap[v3.heap.size]? = some (.cells #[.int .i64 bW1, .int .i64 bH1, .slice so3 M1 M1] 54) := by rw [← eu3]; exact heap_alloc_new _ _
        rw [eu3] at ka3
        rw [eu3]
        obtain ⟨G3, eG3⟩ : ∃ G3, v3.heap.size = G3 := ⟨_, rfl⟩
        rw [eG3] at hg3 ⊢
        have K23 := Hid.mk (H3.out.2.2.trans ka3)
        have D3 := Hid.mk (And.intro hg3 (And.intro ((Bk.zlf .u16 65 so3 M1 (fun j => (fM1 j : Int))).keep H3.out.1 ka3 (by simp)) (fun x (hx : x ∈ Bk.ablk so3) => (⟨(H3.out.2.1 x hx).1, Nat.lt_of_lt_of_le (H3.out.2.1 x hx).2 ka3.size⟩ : u2.heap.size ≤ x ∧ x < u3.heap.size))))
        have C4 := Hid.mk (RA.out go gc u3 ((HF2.out.keep K23.out).pg))
        clear eu3 eG3 ka3 hg3 H3 g0 g1 g2 g3 g4 r0' r1' r2' r3'
        with_reducible refine C4.out.mono ?_
        rintro e v4 ⟨so4, c4, rfl, hrd4, hk4⟩
        have H4 := Hid.mk (And.intro hrd4 hk4)
        clear C4 hrd4 hk4
        go_upto_region 12 with (fail)
        obtain ⟨wv, ewv⟩ : ∃ wv, v4.alloc (.cells #[.int .i64 bW1, .int .i64 bH1, .slice so4 M1 c4] 54) = wv := ⟨_, rfl⟩
        have hg4 : wv.heap[v4.heap.size]? = some (.cells #[.int .i64 bW1, .int .i64 bH1, .slice so4 M1 c4] 54) := by rw [← ewv]; exact heap_alloc_new _ _
        have kv4 : Kept [] v4 wv := by rw [← ewv]; exact alloc_kept _ _
        rw [ewv]
        obtain ⟨G4, eG4⟩ : ∃ G4, v4.heap.size = G4 := ⟨_, rfl⟩
        rw [eG4] at hg4 ⊢
        have K24 := Hid.mk (K23.out.trans (H4.out.2.trans kv4))
        have K34 := Hid.mk (H4.out.2.trans kv4)
        have D4 := Hid.mk (And.intro hg4 (H4.out.1.keep kv4))
        have HFV := Hid.mk (HF2.out.keep K24.out)
        have SX : Hid (∀ u, Kept [] wv u → u.cell? ⟨GB, 0, none⟩ = some (.int .i64 W) ∧ u.cell? ⟨GB, 1, none⟩ = some (.int .i64 H) ∧ u.cell? ⟨GB, 2, none⟩ = some (.int .i64 D) ∧ u.cell? ⟨GB, 3, none⟩ = some (.bool A) ∧ u.cell? ⟨GB, 4, none⟩ = some (.slice go n gc) ∧ u.cell? ⟨b1, 0, none⟩ = some (.int .i64 X) ∧ u.cell? ⟨b1, 1, none⟩ = some (.int .i64 Y) ∧ u.cell? ⟨b1, 2, none⟩ = some (.int .i64 rw) ∧ u.cell? ⟨b1, 3, none⟩ = some (.int .i64 rh)) := Hid.mk (fun u hu => by
          obtain ⟨⟨q0, q1, q2, q3, q4⟩, -⟩ := five ((HFV.out.keep hu).gb)
          obtain ⟨⟨q5, q6, q7, q8⟩, -⟩ := four (Q1.out u ((HB.out.1.old.trans (K2.out.trans K24.out)).trans hu)).2
          exact ⟨q0, q1, q2, q3, q4, q5, q6, q7, q8⟩)
        have C5 := Hid.mk (fun u (hu : Kept [] wv u) => RB.out go gc u ((HFV.out.keep hu).pg))
        have ED := Hid.mk (SX.out wv.drew ((Kept.refl [] wv).drew))
        obtain ⟨aq1, aq2⟩ := AQ.out
        clear hg4 kv4 eG4 ewv H4
        go_cut [20, 21] (fun s v wc => ∃ so kk G, s = .pointer (some ⟨G, 0, none⟩) ∧ v = .int .i64 E2 ∧ wc.heap[G]? = some (.cells #[.int .i64 bW2, .int .i64 bH2, .slice so M kk] 54 (0, 0)) ∧ Rd wc so M fM ∧ Kept [] wv wc)
        case first =>
          refine wp_region_held_drew (S := fun u => u.cell? ⟨GB, 0, none⟩ = some (.int .i64 W) ∧ u.cell? ⟨GB, 1, none⟩ = some (.int .i64 H) ∧ u.cell? ⟨GB, 2, none⟩ = some (.int .i64 D) ∧ u.cell? ⟨GB, 3, none⟩ = some (.bool A) ∧ u.cell? ⟨GB, 4, none⟩ = some (.slice go n gc) ∧ u.cell? ⟨b1, 0, none⟩ = some (.int .i64 X) ∧ u.cell? ⟨b1, 1, none⟩ = some (.int .i64 Y) ∧ u.cell? ⟨b1, 2, none⟩ = some (.int .i64 rw) ∧ u.cell? ⟨b1, 3, none⟩ = some (.int .i64 rh)) (by kernel_rfl) ED.out (fun hHeld => ?_)
          refine wpAnyH_take (i := 0) (v := ?_) rfl (by kernel_rfl) (by kernel_rfl) (by kernel_rfl) (fun _ _ _ h => h) (Or.inl ⟨by rfl, ?_⟩) (by assumption) ?_
          rotate_left
          · intro w hSw
            try dsimp only at hSw
            go_simp
            all_goals with_reducible rfl
          simp only [Act.put, List.getElem_toArray, List.getElem_cons_zero, List.setIfInBounds_toArray, List.set_cons_zero, List.set_cons_succ]
          refine wpAnyH_take (i := 1) (v := ?_) rfl (by kernel_rfl) (by kernel_rfl) (by kernel_rfl) (fun _ _ _ h => h) (Or.inl ⟨by rfl, ?_⟩) (by assumption) ?_
          rotate_left
          · intro w hSw
            try dsimp only at hSw
            go_simp
            all_goals with_reducible rfl
          simp only [Act.put, List.getElem_toArray, List.getElem_cons_zero, List.getElem_cons_succ, List.setIfInBounds_toArray, List.set_cons_zero, List.set_cons_succ]
          refine wpAnyH_take (i := 4) (v := ?_) rfl (by kernel_rfl) (by kernel_rfl) (by kernel_rfl) (fun _ _ _ h => h) (Or.inl ⟨by rfl, ?_⟩) (by assumption) ?_
          rotate_left
          · intro w hSw
            try dsimp only at hSw
            go_simp
            all_goals with_reducible rfl
          simp only [Act.put, List.getElem_toArray, List.getElem_cons_zero, List.getElem_cons_succ, List.setIfInBounds_toArray, List.set_cons_zero, List.set_cons_succ]
          refine wpAnyH_ready (rs := [2, 9]) (by kernel_rfl) (by simp) ?_
          refine (AllReadyH.cons rfl (fun K9 hK9 => ?_) (AllReadyH.cons rfl (fun K9 hK9 => ?_) AllReadyH.nil))
          · go_simp
            go_at_call 27
            refine (CP.out _).mono ?_
            rintro e v ⟨rfl, hv⟩
            obtain rfl := hv.symm
            refine hK9.out _ _ ED.out (fun hHeld2 => ?_)
            clear hK9 K9
            refine wpAnyH_take (i := 3) (v := ?_) rfl (by kernel_rfl) (by kernel_rfl) (by kernel_rfl) (fun _ _ _ h => h) (Or.inl ⟨by rfl, ?_⟩) (by assumption) ?_
            rotate_left
            · intro w hSw
              try dsimp only at hSw
              go_simp
              all_goals with_reducible rfl
            simp only [Act.put, List.getElem_toArray, List.getElem_cons_zero, List.getElem_cons_succ, List.setIfInBounds_toArray, List.set_cons_zero, List.set_cons_succ]
            refine wpAnyH_ready (rs := [5, 9]) (by kernel_rfl) (by simp) ?_
            refine (AllReadyH.cons rfl (fun K9 hK9 => ?_) (AllReadyH.cons rfl (fun K9 hK9 => ?_) AllReadyH.nil))
            · go_simp
              go_at_call 28
              refine (C5.out _ (((Kept.refl [] wv).drew))).mono ?_
              rintro e v5 ⟨so, kk, rfl, hrd, hkk⟩
              have kv5 : Kept [] wv v5 := (((Kept.refl [] wv).drew)).trans hkk
              refine hK9.out _ _ (SX.out _ kv5) (fun hHeld2 => ?_)
              clear hK9 K9
              refine wpAnyH_take (i := 6) (v := ?_) rfl (by kernel_rfl) (by kernel_rfl) (by kernel_rfl) (fun _ _ _ h => h) (Or.inl ⟨by rfl, ?_⟩) (by assumption) ?_
              rotate_left
              · intro w hSw
                try dsimp only at hSw
                go_simp
                all_goals with_reducible rfl
              simp only [Act.put, List.getElem_toArray, List.getElem_cons_zero, List.getElem_cons_succ, List.setIfInBounds_toArray, List.set_cons_zero, List.set_cons_succ]
              refine wpAnyH_take (i := 7) (v := ?_) rfl (by kernel_rfl) (by kernel_rfl) (by kernel_rfl) (fun _ _ _ h => h) (Or.inl ⟨by rfl, ?_⟩) (by assumption) ?_
              rotate_left
              · intro w hSw
                try dsimp only at hSw
                go_simp
                all_goals with_reducible rfl
              simp only [Act.put, List.getElem_toArray, List.getElem_cons_zero, List.getElem_cons_succ, List.setIfInBounds_toArray, List.set_cons_zero, List.set_cons_succ]
              refine wpAnyH_take (i := 8) (v := ?_) rfl (by kernel_rfl) (by kernel_rfl) (by kernel_rfl) (fun _ _ _ h => h) (Or.inl ⟨by rfl, ?_⟩) (by assumption) ?_
              rotate_left
              · intro w hSw
                try dsimp only at hSw
                go_simp
                all_goals with_reducible rfl
              simp only [Act.put, List.getElem_toArray, List.getElem_cons_zero, List.getElem_cons_succ, List.setIfInBounds_toArray, List.set_cons_zero, List.set_cons_succ]
              refine wpAnyH_ready (rs := [9]) (by kernel_rfl) (by simp) ?_
              refine (AllReadyH.cons rfl (fun K9 hK9 => ?_) AllReadyH.nil)
              go_simp
              refine hK9.out _ _ (SX.out _ (kv5.alloc (.cells #[.int .i64 0, .int .i64 0, .slice none 0 0] 54))) (fun hHeld2 => ?_)
              clear hK9 K9
              have kS : Kept [] wv (v5.alloc (.cells #[.int .i64 bW2, .int .i64 bH2, .slice so M kk] 54)) := kv5.alloc _
              refine wpAnyH_ready (rs := [10]) (by kernel_rfl) (by simp) ?_
              refine (AllReadyH.cons rfl (fun K9 hK9 => ?_) AllReadyH.nil)
              go_simp
              refine hK9.out _ _ (SX.out _ kS) (fun hHeld2 => ?_)
              clear hK9 K9
              refine wpAnyH_take (i := 11) (v := ?_) rfl (by kernel_rfl) (by kernel_rfl) (by kernel_rfl) (fun _ _ _ h => h) (Or.inl ⟨by rfl, ?_⟩) (by assumption) ?_
              rotate_left
              · intro w hSw
                try dsimp only at hSw
                go_simp
                all_goals with_reducible rfl
              simp only [Act.put, List.getElem_toArray, List.getElem_cons_zero, List.getElem_cons_succ, List.setIfInBounds_toArray, List.set_cons_zero, List.set_cons_succ]
              refine wpAnyH_done (by kernel_rfl) ?_ _
              clear hHeld hHeld2
              go_wp2_with (fail)
              go_meet
              exact ⟨so, kk, v5.heap.size, rfl, rfl, heap_alloc_new _ _, hrd.keep ((Kept.refl [] v5).alloc _), kS⟩
            · go_simp
              refine hK9.out _ _ (SX.out _ (((Kept.refl [] wv).drew).alloc (.cells #[.int .i64 0, .int .i64 0, .slice none 0 0] 54))) (fun hHeld2 => ?_)
              clear hK9 K9
              refine wpAnyH_ready (rs := [5]) (by kernel_rfl) (by simp) ?_
              refine (AllReadyH.cons rfl (fun K9 hK9 => ?_) AllReadyH.nil)
              go_simp
              go_at_call 28
              refine (C5.out _ ((((Kept.refl [] wv).drew).alloc (.cells #[.int .i64 0, .int .i64 0, .slice none 0 0] 54)))).mono ?_
              rintro e v5 ⟨so, kk, rfl, hrd, hkk⟩
              have kv5 : Kept [] wv v5 := ((((Kept.refl [] wv).drew).alloc (.cells #[.int .i64 0, .int .i64 0, .slice none 0 0] 54))).trans hkk
              refine hK9.out _ _ (SX.out _ kv5) (fun hHeld2 => ?_)
              clear hK9 K9
              refine wpAnyH_take (i := 6) (v := ?_) rfl (by kernel_rfl) (by kernel_rfl) (by kernel_rfl) (fun _ _ _ h => h) (Or.inl ⟨by rfl, ?_⟩) (by assumption) ?_
              rotate_left
              · intro w hSw
                try dsimp only at hSw
                go_simp
                all_goals with_reducible rfl
              simp only [Act.put, List.getElem_toArray, List.getElem_cons_zero, List.getElem_cons_succ, List.setIfInBounds_toArray, List.set_cons_zero, List.set_cons_succ]
              refine wpAnyH_take (i := 7) (v := ?_) rfl (by kernel_rfl) (by kernel_rfl) (by kernel_rfl) (fun _ _ _ h => h) (Or.inl ⟨by rfl, ?_⟩) (by assumption) ?_
              rotate_left
              · intro w hSw
                try dsimp only at hSw
                go_simp
                all_goals with_reducible rfl
              simp only [Act.put, List.getElem_toArray, List.getElem_cons_zero, List.getElem_cons_succ, List.setIfInBounds_toArray, List.set_cons_zero, List.set_cons_succ]
              refine wpAnyH_take (i := 8) (v := ?_) rfl (by kernel_rfl) (by kernel_rfl) (by kernel_rfl) (fun _ _ _ h => h) (Or.inl ⟨by rfl, ?_⟩) (by assumption) ?_
              rotate_left
              · intro w hSw
                try dsimp only at hSw
                go_simp
                all_goals with_reducible rfl
              simp only [Act.put, List.getElem_toArray, List.getElem_cons_zero, List.getElem_cons_succ, List.setIfInBounds_toArray, List.set_cons_zero, List.set_cons_succ]
              have hG5 : v5.heap[wv.heap.size]? = some (.cells #[.int .i64 0, .int .i64 0, .slice none 0 0] 54) := hkk.heap (heap_alloc_new wv.drew (.cells #[.int .i64 0, .int .i64 0, .slice none 0 0] 54)) (by simp)
              obtain ⟨⟨z0, z1, z2⟩, q0, q1, q2⟩ := tri' hG5
              have s3' := set3 (.int .i64 bW2) (.int .i64 bH2) (.slice so M kk) hG5
              have kS : Kept [] wv (((v5.setCell ⟨wv.heap.size, 0, none⟩ (.int .i64 bW2)).setCell ⟨wv.heap.size, 1, none⟩ (.int .i64 bH2)).setCell ⟨wv.heap.size, 2, none⟩ (.slice so M kk)) := kv5.step s3'.2 (fun x hx => .inr (by simp at hx; omega))
              have kw5 : wv.heap.size ≤ v5.heap.size := kv5.size
              have hGt := hG5
              refine wpAnyH_ready (rs := [10]) (by kernel_rfl) (by simp) ?_
              refine (AllReadyH.cons rfl (fun K9 hK9 => ?_) AllReadyH.nil)
              go_simp
              refine hK9.out _ _ (SX.out _ kS) (fun hHeld2 => ?_)
              clear hK9 K9
              refine wpAnyH_take (i := 11) (v := ?_) rfl (by kernel_rfl) (by kernel_rfl) (by kernel_rfl) (fun _ _ _ h => h) (Or.inl ⟨by rfl, ?_⟩) (by assumption) ?_
              rotate_left
              · intro w hSw
                try dsimp only at hSw
                go_simp
                all_goals with_reducible rfl
              simp only [Act.put, List.getElem_toArray, List.getElem_cons_zero, List.getElem_cons_succ, List.setIfInBounds_toArray, List.set_cons_zero, List.set_cons_succ]
              refine wpAnyH_done (by kernel_rfl) ?_ _
              clear z0 z1 z2 q0 q1 q2 hHeld hHeld2
              go_wp2_with (fail)
              go_meet
              exact ⟨so, kk, wv.heap.size, rfl, rfl, s3'.1, hrd.t54 hG5 s3'.2, kS⟩
          · go_simp
            refine hK9.out _ _ (SX.out _ (((Kept.refl [] wv).drew).alloc (.cells #[.int .i64 0, .int .i64 0, .slice none 0 0] 54))) (fun hHeld2 => ?_)
            clear hK9 K9
            refine wpAnyH_ready (rs := [2]) (by kernel_rfl) (by simp) ?_
            refine (AllReadyH.cons rfl (fun K9 hK9 => ?_) AllReadyH.nil)
            go_simp
            go_at_call 27
            refine (CP.out _).mono ?_
            rintro e v ⟨rfl, hv⟩
            obtain rfl := hv.symm
            refine hK9.out _ _ (SX.out _ (((Kept.refl [] wv).drew).alloc (.cells #[.int .i64 0, .int .i64 0, .slice none 0 0] 54))) (fun hHeld2 => ?_)
            clear hK9 K9
            refine wpAnyH_take (i := 3) (v := ?_) rfl (by kernel_rfl) (by kernel_rfl) (by kernel_rfl) (fun _ _ _ h => h) (Or.inl ⟨by rfl, ?_⟩) (by assumption) ?_
            rotate_left
            · intro w hSw
              try dsimp only at hSw
              go_simp
              all_goals with_reducible rfl
            simp only [Act.put, List.getElem_toArray, List.getElem_cons_zero, List.getElem_cons_succ, List.setIfInBounds_toArray, List.set_cons_zero, List.set_cons_succ]
            refine wpAnyH_ready (rs := [5]) (by kernel_rfl) (by simp) ?_
            refine (AllReadyH.cons rfl (fun K9 hK9 => ?_) AllReadyH.nil)
            go_simp
            go_at_call 28
            refine (C5.out _ ((((Kept.refl [] wv).drew).alloc (.cells #[.int .i64 0, .int .i64 0, .slice none 0 0] 54)))).mono ?_
            rintro e v5 ⟨so, kk, rfl, hrd, hkk⟩
            have kv5 : Kept [] wv v5 := ((((Kept.refl [] wv).drew).alloc (.cells #[.int .i64 0, .int .i64 0, .slice none 0 0] 54))).trans hkk
            refine hK9.out _ _ (SX.out _ kv5) (fun hHeld2 => ?_)
            clear hK9 K9
            refine wpAnyH_take (i := 6) (v := ?_) rfl (by kernel_rfl) (by kernel_rfl) (by kernel_rfl) (fun _ _ _ h => h) (Or.inl ⟨by rfl, ?_⟩) (by assumption) ?_
            rotate_left
            · intro w hSw
              try dsimp only at hSw
              go_simp
              all_goals with_reducible rfl
            simp only [Act.put, List.getElem_toArray, List.getElem_cons_zero, List.getElem_cons_succ, List.setIfInBounds_toArray, List.set_cons_zero, List.set_cons_succ]
            refine wpAnyH_take (i := 7) (v := ?_) rfl (by kernel_rfl) (by kernel_rfl) (by kernel_rfl) (fun _ _ _ h => h) (Or.inl ⟨by rfl, ?_⟩) (by assumption) ?_
            rotate_left
            · intro w hSw
              try dsimp only at hSw
              go_simp
              all_goals with_reducible rfl
            simp only [Act.put, List.getElem_toArray, List.getElem_cons_zero, List.getElem_cons_succ, List.setIfInBounds_toArray, List.set_cons_zero, List.set_cons_succ]
            refine wpAnyH_take (i := 8) (v := ?_) rfl (by kernel_rfl) (by kernel_rfl) (by kernel_rfl) (fun _ _ _ h => h) (Or.inl ⟨by rfl, ?_⟩) (by assumption) ?_
            rotate_left
            · intro w hSw
              try dsimp only at hSw
              go_simp
              all_goals with_reducible rfl
            simp only [Act.put, List.getElem_toArray, List.getElem_cons_zero, List.getElem_cons_succ, List.setIfInBounds_toArray, List.set_cons_zero, List.set_cons_succ]
            have hG5 : v5.heap[wv.heap.size]? = some (.cells #[.int .i64 0, .int .i64 0, .slice none 0 0] 54) := hkk.heap (heap_alloc_new wv.drew (.cells #[.int .i64 0, .int .i64 0, .slice none 0 0] 54)) (by simp)
            obtain ⟨⟨z0, z1, z2⟩, q0, q1, q2⟩ := tri' hG5
            have s3' := set3 (.int .i64 bW2) (.int .i64 bH2) (.slice so M kk) hG5
            have kS : Kept [] wv (((v5.setCell ⟨wv.heap.size, 0, none⟩ (.int .i64 bW2)).setCell ⟨wv.heap.size, 1, none⟩ (.int .i64 bH2)).setCell ⟨wv.heap.size, 2, none⟩ (.slice so M kk)) := kv5.step s3'.2 (fun x hx => .inr (by simp at hx; omega))
            have kw5 : wv.heap.size ≤ v5.heap.size := kv5.size
            have hGt := hG5
            refine wpAnyH_ready (rs := [10]) (by kernel_rfl) (by simp) ?_
            refine (AllReadyH.cons rfl (fun K9 hK9 => ?_) AllReadyH.nil)
            go_simp
            refine hK9.out _ _ (SX.out _ kS) (fun hHeld2 => ?_)
            clear hK9 K9
            refine wpAnyH_take (i := 11) (v := ?_) rfl (by kernel_rfl) (by kernel_rfl) (by kernel_rfl) (fun _ _ _ h => h) (Or.inl ⟨by rfl, ?_⟩) (by assumption) ?_
            rotate_left
            · intro w hSw
              try dsimp only at hSw
              go_simp
              all_goals with_reducible rfl
            simp only [Act.put, List.getElem_toArray, List.getElem_cons_zero, List.getElem_cons_succ, List.setIfInBounds_toArray, List.set_cons_zero, List.set_cons_succ]
            refine wpAnyH_done (by kernel_rfl) ?_ _
            clear z0 z1 z2 q0 q1 q2 hHeld hHeld2
            go_wp2_with (fail)
            go_meet
            exact ⟨so, kk, wv.heap.size, rfl, rfl, s3'.1, hrd.t54 hG5 s3'.2, kS⟩
        case rest =>
          obtain ⟨so5, kk5, G5, rfl, rfl, hg5, hrd5, hk5⟩ := hcut
          obtain ⟨u5, eu5⟩ : ∃ u5, u5 = wc := ⟨_, rfl⟩
          subst eu5
          have K25 := Hid.mk (K24.out.trans hk5)
          have K35 := Hid.mk (K34.out.trans hk5)
          have D5 := Hid.mk (And.intro hg5 hrd5)
          have D4' := Hid.mk (And.intro (hk5.heap D4.out.1 (by simp)) (D4.out.2.keep hk5))
          have D3' := Hid.mk (And.intro (K35.out.heap D3.out.1 (by simp)) ((Bk.zlf .u16 65 so3 M1 (fun j => (fM1 j : Int))).keep D3.out.2.1 K35.out (by simp)))
          have Z3 := Hid.mk D3.out.2.2
          have D2' := Hid.mk (And.intro (K25.out.heap D2.out.1 (by simp)) ((Bk.zlf .u16 65 so2 M (fun j => (fM j : Int))).keep D2.out.2.1 K25.out (by simp)))
          have Z2 := Hid.mk D2.out.2.2
          have D15 := Hid.mk (And.intro (K25.out.heap D1'.out.1 (by simp)) ((Bk.zlf .u16 65 so1 M1 (fun j => (fM1 j : Int))).keep D1'.out.2 K25.out (by simp)))
          clear hg5 hrd5 hk5 D4 D3 D2 D1' SX C5 ED HFV aq1 aq2 K34
          have BX : Hid (∀ u, Kept [] u5 u → (u.heap[G1]? = some (.cells #[.int .i64 bW1, .int .i64 bH1, .slice so1 M1 M1] 54 (0, 0)) ∧ u.heap[G2]? = some (.cells #[.int .i64 bW2, .int .i64 bH2, .slice so2 M M] 54 (0, 0)) ∧ u.heap[G3]? = some (.cells #[.int .i64 bW1, .int .i64 bH1, .slice so3 M1 M1] 54 (0, 0))) ∧ u.heap[G4]? = some (.cells #[.int .i64 bW1, .int .i64 bH1, .slice so4 M1 c4] 54 (0, 0)) ∧ u.heap[G5]? = some (.cells #[.int .i64 bW2, .int .i64 bH2, .slice so5 M kk5] 54 (0, 0))) := Hid.mk (fun u hu => ⟨⟨hu.heap D15.out.1 (by simp), hu.heap D2'.out.1 (by simp), hu.heap D3'.out.1 (by simp)⟩, hu.heap D4'.out.1 (by simp), hu.heap D5.out.1 (by simp)⟩)
          have SB1 : Hid (∀ u, Kept [] u5 u → Calls Try.prog 29 #[blv bW1 bH1 so1 M1 M1, blv bW1 bH1 so4 M1 c4] u fun e w' => e = .returned (.bool true) ∧ Kept [] u w') := Hid.mk (fun u hu => sameBlock_yes bW1 bH1 so1 so4 M1 M1 c4 fM1 fM1 u ((zlf_rd D15.out.2).keep hu) (D4'.out.2.keep hu) (by omega) (fun _ _ => rfl))
          have SB2 : Hid (∀ u, Kept [] u5 u → Calls Try.prog 29 #[blv bW2 bH2 so2 M M, blv bW2 bH2 so5 M kk5] u fun e w' => e = .returned (.bool true) ∧ Kept [] u w') := Hid.mk (fun u hu => sameBlock_yes bW2 bH2 so2 so5 M M kk5 fM fM u ((zlf_rd D2'.out.2).keep hu) (D5.out.2.keep hu) (by omega) (fun _ _ => rfl))
          have SB3 : Hid (∀ u, Kept [] u5 u → Calls Try.prog 29 #[blv bW1 bH1 so3 M1 M1, blv bW1 bH1 so4 M1 c4] u fun e w' => e = .returned (.bool true) ∧ Kept [] u w') := Hid.mk (fun u hu => sameBlock_yes bW1 bH1 so3 so4 M1 M1 c4 fM1 fM1 u ((zlf_rd D3'.out.2).keep hu) (D4'.out.2.keep hu) (by omega) (fun _ _ => rfl))
          have T1 := Hid.mk (SB1.out u5 (Kept.refl _ _))
          obtain ⟨⟨b1a, -, -⟩, b4a, -⟩ := BX.out u5 (Kept.refl _ _)
          obtain ⟨⟨y0, y1, y2⟩, -⟩ := tri' b1a
          obtain ⟨⟨y3, y4, y5⟩, -⟩ := tri' b4a
          go_wp2_with (fail)
          with_reducible refine T1.out.mono ?_
          rintro e u6 ⟨rfl, k6⟩
          have T2 := Hid.mk (SB2.out u6 k6)
          have KK6 := Hid.mk k6
          clear y0 y1 y2 y3 y4 y5 b1a b4a T1 k6
          obtain ⟨⟨-, b2a, -⟩, -, b5a⟩ := BX.out u6 KK6.out
          obtain ⟨⟨y0, y1, y2⟩, -⟩ := tri' b2a
          obtain ⟨⟨y3, y4, y5⟩, -⟩ := tri' b5a
          go_wp2_with (fail)
          with_reducible refine T2.out.mono ?_
          rintro e u7 ⟨rfl, k7⟩
          have KK7 := Hid.mk (KK6.out.trans k7)
          have T3 := Hid.mk (SB3.out u7 KK7.out)
          clear y0 y1 y2 y3 y4 y5 b2a b5a T2 k7 KK6
          obtain ⟨⟨-, -, b3a⟩, b4a, -⟩ := BX.out u7 KK7.out
          obtain ⟨⟨y0, y1, y2⟩, -⟩ := tri' b3a
          obtain ⟨⟨y3, y4, y5⟩, -⟩ := tri' b4a
          go_wp2_with (fail)
          with_reducible refine T3.out.mono ?_
          rintro e u8 ⟨rfl, k8⟩
          have KK8 := Hid.mk (KK7.out.trans k8)
          clear y0 y1 y2 y3 y4 y5 b3a b4a T3 k8 KK7 SB1 SB2 SB3
          have K28 := Hid.mk (K25.out.trans KK8.out)
          have HF8 := Hid.mk (HF2.out.keep K28.out)
          have OLD8 := Hid.mk (HB.out.1.old.trans (K2.out.trans K28.out))
          have PO := Hid.mk (P1.out.keep OLD8.out).pl
          obtain ⟨⟨x0, x1, x2, x3, x4, x5, x6⟩, -⟩ := seven HF8.out.xb
          obtain ⟨⟨f0, f1, f2, f3, f4⟩, -⟩ := five (Q1.out u8 OLD8.out).1
          go_upto_region 16 with (fail)
          go_cut [25] (fun v wc => v = .bool true ∧ Kept [] u8 wc)
          case first =>
            by_cases hz : k = 0
            · have e0 := HK0.out hz
              subst hz
              have hS := still_yes W H D A LB n c (.slice vo n vc) bs ln po F w1 u8 (by rw [← e0]; exact HF8.out.ln_) PO.out hn Hln.out
              have SS := Hid.mk hS
              clear hS e0
              go_wp2_with (fail)
              with_reducible refine SS.out.mono ?_
              rintro e u9 ⟨rfl, k9⟩
              go_wp2
              go_meet
              exact ⟨rfl, k9⟩
            · have hz' : (0 : Int) < (k : Int) := by omega
              go_wp2
              go_meet
              exact ⟨rfl, Kept.refl _ _⟩
          case rest =>
            obtain ⟨rfl, k9⟩ := hcut
            obtain ⟨u9, eu9⟩ : ∃ u9, u9 = wc := ⟨_, rfl⟩
            subst eu9
            have KK9 := Hid.mk (KK8.out.trans k9)
            have K29 := Hid.mk (K25.out.trans KK9.out)
            obtain ⟨⟨b1a, b2a, b3a⟩, -⟩ := BX.out u9 KK9.out
            obtain ⟨⟨-, -, y2⟩, -⟩ := tri' b1a
            obtain ⟨⟨-, -, y4⟩, -⟩ := tri' b2a
            obtain ⟨⟨-, -, y6⟩, -⟩ := tri' b3a
            have kr := alloc_kept u9 (.cells #[.slice so1 M1 M1, .slice so2 M M, .slice so3 M1 M1] 52)
            have hrow := heap_alloc_new u9 (.cells #[.slice so1 M1 M1, .slice so2 M M, .slice so3 M1 M1] 52)
            obtain ⟨uR, euR⟩ : ∃ uR, u9.alloc (.cells #[.slice so1 M1 M1, .slice so2 M M, .slice so3 M1 M1] 52) = uR := ⟨_, rfl⟩
            rw [euR] at kr hrow
            obtain ⟨GR, eGR⟩ : ∃ GR, u9.heap.size = GR := ⟨_, rfl⟩
            rw [eGR] at hrow
            have hs2 := S12.out
            have sz2 := K2.out.size
            have sz9 := K29.out.size
            have hBR : Bx.BAt w1 uR B (s.ans (.slice (some ⟨GR, 0, none⟩) 3 3) 3 (fun i => if i = 0 then .slice so1 M1 M1 else if i = 1 then .slice so2 M M else .slice so3 M1 M1) (fun i => if i = 0 then Bk.zlf .u16 65 so1 M1 (fun j => (fM1 j : Int)) else if i = 1 then Bk.zlf .u16 65 so2 M (fun j => (fM j : Int)) else Bk.zlf .u16 65 so3 M1 (fun j => (fM1 j : Int)))) := by
              have kk := KK9.out.trans kr
              have w35 := K35.out.size
              have w59 := KK9.out.size
              have lt3 : ∀ i, i < 3 → i = 0 ∨ i = 1 ∨ i = 2 := fun i hi => by omega
              have e1 : ∀ x ∈ Bk.ablk so1, wr.heap.size ≤ x ∧ x < u2.heap.size := fun x hx => by have := Z1.out x hx; omega
              have e2 : ∀ x ∈ Bk.ablk so2, wr.heap.size ≤ x ∧ x < u2.heap.size := fun x hx => by have := Z2.out x hx; have := ZW.out; omega
              have e12 : ∀ x ∈ Bk.ablk so1, x ∉ Bk.ablk so2 := fun x hx hm => by have := Z1.out x hx; have := Z2.out x hm; omega
              have e3 : ∀ x ∈ Bk.ablk so3, u2.heap.size ≤ x ∧ x < u3.heap.size := fun x hx => Z3.out x hx
              refine HB.out.1.ans ((K2.out.trans K29.out).trans kr) ⟨rfl, .inr ⟨GR, 3, _, rfl, by omega, hrow, Nat.le_refl _, by decide, rfl, rfl⟩⟩ (fun i hi => ?_) (fun i hi x hx => ?_) (fun i j hi hj hij x hx hx2 => ?_) (fun i hi x hx hm => ?_)
              · rcases lt3 i hi with rfl | rfl | rfl
                · exact (Bk.zlf .u16 65 so1 M1 (fun j => (fM1 j : Int))).keep D15.out.2 kk (by simp)
                · exact (Bk.zlf .u16 65 so2 M (fun j => (fM j : Int))).keep D2'.out.2 kk (by simp)
                · exact (Bk.zlf .u16 65 so3 M1 (fun j => (fM1 j : Int))).keep D3'.out.2 kk (by simp)
              · rcases lt3 i hi with rfl | rfl | rfl
                · exact (e1 x hx).1
                · exact (e2 x hx).1
                · have := (e3 x hx).1; omega
              · rcases lt3 i hi with rfl | rfl | rfl <;> rcases lt3 j hj with rfl | rfl | rfl
                · exact hij rfl
                · exact e12 x hx hx2
                · have := e1 x hx; have := e3 x hx2; omega
                · exact e12 x hx2 hx
                · exact hij rfl
                · have := e2 x hx; have := e3 x hx2; omega
                · have := e3 x hx; have := e1 x hx2; omega
                · have := e3 x hx; have := e2 x hx2; omega
                · exact hij rfl
              · simp [Value.ownBlock] at hm
                rcases lt3 i hi with rfl | rfl | rfl
                · have := e1 x hx; omega
                · have := e2 x hx; omega
                · have := e3 x hx; omega
            have hRR := HB.out.2.ans (m := 3) (Rn := .slice (some ⟨GR, 0, none⟩) 3 3) (V := fun i => if i = 0 then .slice so1 M1 M1 else if i = 1 then .slice so2 M M else .slice so3 M1 M1) (X := fun i => if i = 0 then Bk.zlf .u16 65 so1 M1 (fun j => (fM1 j : Int)) else if i = 1 then Bk.zlf .u16 65 so2 M (fun j => (fM j : Int)) else Bk.zlf .u16 65 so3 M1 (fun j => (fM1 j : Int))) (by omega) (fun i hi => by
              rcases (by omega : i = 0 ∨ i = 1 ∨ i = 2) with rfl | rfl | rfl
              · exact ⟨so1, M1, _, rfl, rfl, hM1⟩
              · exact ⟨so2, M, _, rfl, rfl, hM2⟩
              · exact ⟨so3, M1, _, rfl, rfl, hM1⟩)
            obtain ⟨sR, esR⟩ : ∃ sR, s.ans (.slice (some ⟨GR, 0, none⟩) 3 3) 3 (fun i => if i = 0 then .slice so1 M1 M1 else if i = 1 then .slice so2 M M else .slice so3 M1 M1) (fun i => if i = 0 then Bk.zlf .u16 65 so1 M1 (fun j => (fM1 j : Int)) else if i = 1 then Bk.zlf .u16 65 so2 M (fun j => (fM j : Int)) else Bk.zlf .u16 65 so3 M1 (fun j => (fM1 j : Int))) = sR := ⟨_, rfl⟩
            have fac : sR.n = s.n + 1 ∧ sR.r = s.r ∧ sR.h = s.h ∧ sR.E = s.E ∧ sR.RV s.n = .slice (some ⟨GR, 0, none⟩) 3 3 := by
              rw [← esR]
              refine ⟨rfl, rfl, rfl, rfl, ?_⟩
              show (if s.n = s.n then _ else _) = _
              rw [if_pos rfl]
            rw [esR] at hBR hRR
            have hr0 := HB.out.2.r
            have eRV : sR.RV sR.r = .slice (some ⟨GR, 0, none⟩) 3 3 := by rw [fac.2.1, show s.r = s.n by omega]; exact fac.2.2.2.2
            have TK := Hid.mk (Bx.take_k w1 uR B sR (.slice (some ⟨GR, 0, none⟩) 3 3) (some ⟨GR, 0, none⟩) 3 3 rfl hBR (by omega))
            have HRR := Hid.mk (And.intro hRR (And.intro eRV fac))
            clear x0 x1 x2 x3 x4 x5 x6 f0 f1 f2 f3 f4 k9 PO HF8 hBR hRR eRV fac hr0 esR kr hrow hs2 sz2 sz9 b1a b2a b3a
            go_wp2_with (fail)
            clear euR eGR y2 y4 y6
            with_reducible refine TK.out.mono ?_
            rintro e t1 ⟨rfl, Sn1, hBt, -⟩
            have R7 := HRR.out.1.take Sn1 HRR.out.2.1
            have n7 : (sR.appo (.slice (some ⟨GR, 0, none⟩) 3 3) Sn1).n = k + 1 := by have := HRR.out.2.2.1; show sR.n = _; omega
            have h7 : (sR.appo (.slice (some ⟨GR, 0, none⟩) 3 3) Sn1).h ≤ 1000 * k := by have := HRR.out.2.2.2.2.1; show sR.h ≤ _; omega
            have E7 : (sR.appo (.slice (some ⟨GR, 0, none⟩) 3 3) Sn1).E = s.E := HRR.out.2.2.2.2.2.1
            obtain ⟨s7, es7⟩ : ∃ s7, sR.appo (.slice (some ⟨GR, 0, none⟩) 3 3) Sn1 = s7 := ⟨_, rfl⟩
            rw [es7] at hBt R7 n7 h7 E7
            have OW := Hid.mk (Bx.own_any w1 t1 B s7 hBt (R7.rk (by omega) (by omega)) (by omega))
            have HR7 := Hid.mk (And.intro R7 (And.intro n7 (And.intro h7 E7)))
            clear TK hBt R7 n7 h7 E7 es7 HRR
            go_wp2_with (fail)
            with_reducible refine OW.out.mono ?_
            rintro e t8 ⟨rfl, s8, hB8, hD8⟩
            have R8 := HR7.out.1.of_dn hD8
            have n8 : s8.n = k + 1 := by have := hD8.n; have := HR7.out.2.1; omega
            have h8 : s8.h ≤ 1000 * (k + 1) := by have := hD8.h; have := HR7.out.2.2.1; omega
            have L8 : Lp w1 s8.E XB GB LB (.slice vo n vc) n c gc bs ln W H D A go LF FT p wS := by rw [hD8.E, HR7.out.2.2.2]; exact HLP.out
            have F8 := L8.at hB8
            have H8 := Hid.mk (And.intro hB8 (And.intro R8 (And.intro n8 (And.intro h8 L8))))
            have HF8 := Hid.mk F8
            have TU := Hid.mk (turn2_any W H D A LB n (.slice vo n vc) bs ln LF w1 t8 F8.ln_ L8.lf hn Hln.out)
            obtain ⟨⟨x0, x1, x2, x3, x4, x5, x6⟩, -⟩ := seven F8.xb
            clear OW hB8 hD8 R8 n8 h8 HR7 L8 F8 HLP HFC
            go_wp2_with (fail)
            with_reducible refine TU.out.mono ?_
            rintro e t9 ⟨go', gc', G', rfl, hG', hL9, hP9, hk9⟩
            have nG : GB ∉ rbs bs n := fun hm => by
              obtain ⟨i, hi, e⟩ := mem_rbs.1 hm
              exact H8.out.2.2.2.2.xg.2.2.1 i hi e
            have gb9 := hk9.heap HF8.out.gb nG
            obtain ⟨⟨z0, z1, z2, z3, z4⟩, v0, v1', v2', v3', v4'⟩ := five gb9
            have s5 := set5 (.int .i64 W) (.int .i64 H) (.int .i64 D) (.bool A) (.slice go' n gc') gb9
            have H9 := Hid.mk (And.intro hG' (And.intro hL9 (And.intro hP9 (And.intro hk9 s5))))
            clear x0 x1 x2 x3 x4 x5 x6 TU hG' hL9 hP9 hk9 nG gb9 s5
            go_wp2
            go_roundw
            case rel =>
              obtain ⟨E', p', hB', hL'⟩ := H8.out.2.2.2.2.turn H8.out.1 H9.out.1 H9.out.2.1 H9.out.2.2.1 H9.out.2.2.2.1 H9.out.2.2.2.2.2 H9.out.2.2.2.2.1
              exact ⟨k + 1, by omega, by go_num, _, p', _, go', gc', G', G', hB', ⟨H8.out.2.1.r, H8.out.2.1.rl, H8.out.2.1.ov, fun i => by have := H8.out.2.1.k8 i; show s8.kn i ≤ _; omega, H8.out.2.1.J, H8.out.2.1.ls⟩, H8.out.2.2.1, H8.out.2.2.2.1, hL', H9.out.1, fun h => by omega⟩
            case measure => simp [intOf]; omega
    · go_wp2
      go_ret
      exact ⟨rfl, K0.out.trans hB.old⟩
end Go.Proofs.Ythihennifigchaa
