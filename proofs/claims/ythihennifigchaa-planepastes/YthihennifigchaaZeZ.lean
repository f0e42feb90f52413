import Derived.Test.YthihennifigchaaYg
import Derived.Test.YthihennifigchaaZaZ
import Derived.Test.YthihennifigchaaZd
import Derived.Test.YthihennifigchaaXl
import Derived.Test.YthihennifigchaaQg
namespace Go.Proofs.Ythihennifigchaa
open Go.RowKit

theorem Pl.len {w : World} {po : Option Addr} {n : Nat} {ln lm : Nat → Nat} {F : Nat → Nat → Nat} (h : Pl w po n ln F) (e : ∀ i, i < n → ln i = lm i) : Pl w po n lm F := by
  rcases h with h | ⟨g, off, e1, hc⟩
  · exact .inl h
  · refine .inr ⟨g, off, e1, fun i hi => ?_⟩
    rw [← e i hi]
    exact hc i hi
set_option maxHeartbeats 2000000 in
/-- Paste, both sides, in one form; the program's planes are an answer of the Book's. -/
theorem paste_u (W H D p X Y bw bh : Int) (A : Bool) (n : Nat) (ln : Nat → Nat) (F : Nat → Nat → Nat) (m : Nat) (bf : Nat → Nat) (hF : ∀ i, i < n → ∀ j, j < ln i → F i j < 65536) (hb6 : ∀ i, i < m → bf i < 65536) (hmx : m ≤ 9223372036854775807) (hn : n ≤ 9223372036854775807) (hln : ∀ i, i < n → ln i ≤ 9223372036854775807) (hX : -9223372036854775808 ≤ X ∧ X ≤ 9223372036854775807) (hY : -9223372036854775808 ≤ Y ∧ Y ≤ 9223372036854775807) :
    ∃ (fW fH fD : Int) (fA : Bool) (fn : Nat) (fE : Int) (lm : Nat → Nat) (G : Nat → Nat → Nat), fn ≤ 4 ∧ (∀ i, i < fn → lm i ≤ 100000000) ∧
    (∀ (po : Option Addr) (c : Nat) (so : Option Addr) (k : Nat) (w0 w : World) (B d K : Nat) (s : Bx.Bo), Pc w po n ln F → Rd w so m bf → m ≤ k → Bx.BAt w0 w B s → Bx.Rq s d K → 4 ≤ K → Calls Try.prog 31 #[frv W H D A po n c, .int .i64 p, .int .i64 X, .int .i64 Y, blv bw bh so m k] w fun e w' => ∃ qo qc s', e = .returned (.tuple #[frv fW fH fD fA qo fn qc, .int .i64 fE]) ∧ Bx.BAt w0 w' B s' ∧ Bx.Rq s' (d + 1) K ∧ (s'.E = s.E ∧ s'.n = s.n + 1 ∧ s'.r = s.r ∧ s'.h = s.h ∧ s'.RV s.n = .slice qo fn qc ∧ ∀ i, i < s.n → s'.RV i = s.RV i) ∧ Pl w' qo fn lm G ∧ Kept [] w w') ∧
    (∀ (po : Option Addr) (c : Nat) (so : Option Addr) (k : Nat) (w : World), Pc w po n ln F → Rd w so m bf → Calls Try.prog 32 #[frv W H D A po n c, .int .i64 p, .int .i64 X, .int .i64 Y, blv bw bh so m k] w fun e w' => ∃ qo qc, e = .returned (.tuple #[frv fW fH fD fA qo fn qc, .int .i64 fE]) ∧ Pl w' qo fn lm G ∧ Kept [] w w') := by
  by_cases h : psE W H D p X Y bw bh A n ln F m bf = 0
  · have hv : Vld W H D A n ln F := by
      apply vE_zero.1
      by_cases h0 : vE W H D A n ln F = 0
      · exact h0
      · unfold psE at h; rw [if_neg h0] at h; exact h
    unfold psE at h
    rw [if_pos (vE_zero.2 hv)] at h
    have hin : inP W H A p X Y bw bh = true := by
      by_cases h1 : inP W H A p X Y bw bh = true
      · exact h1
      · rw [if_neg h1] at h; cases h
    rw [if_pos hin] at h
    have hmb : (m : Int) = bw * bh := by
      by_cases h1 : (m : Int) = bw * bh
      · exact h1
      · rw [if_neg h1] at h; cases h
    rw [if_pos hmb] at h
    have hab : ∀ i, i < m → bf i ≤ mx D := by
      apply abv_no.1
      by_cases h1 : abv bf m (mx D) = true
      · rw [if_pos h1] at h; cases h
      · simpa using h1
    clear h
    have hin2 : (0 ≤ p ∧ p < (np A : Int)) ∧ (0 ≤ X ∧ 0 ≤ Y ∧ 1 ≤ bw ∧ 1 ≤ bh ∧ X + bw ≤ wp W p ∧ Y + bh ≤ H) := by
      unfold inP lie at hin
      simp only [Bool.and_eq_true, decide_eq_true_eq] at hin
      omega
    obtain ⟨⟨p0, p1⟩, X0, Y0, b0, b1, b2, b3⟩ := hin2
    obtain ⟨p, rfl⟩ := Int.eq_ofNat_of_zero_le p0
    obtain ⟨X, rfl⟩ := Int.eq_ofNat_of_zero_le X0
    obtain ⟨Y, rfl⟩ := Int.eq_ofNat_of_zero_le Y0
    obtain ⟨bw, rfl⟩ := Int.eq_ofNat_of_zero_le (show 0 ≤ bw by omega)
    obtain ⟨bh, rfl⟩ := Int.eq_ofNat_of_zero_le (show 0 ≤ bh by omega)
    have hm : m = bw * bh := by exact_mod_cast hmb
    have hpn : p < n := by rw [hv.num]; omega
    have hs1 := hv.shp.1
    have hs2 := hv.shp.2.1
    have hp : ∀ i, pz W H i ≤ 100000000 := fun i => by
      have := wpH (W := W) (H := H) (i : Int) (by omega) (by omega) (by omega) (by omega)
      unfold pz; omega
    have hn4 : n ≤ 4 := by rw [hv.num]; exact np_hi A
    refine ⟨W, H, D, A, n, 0, pz W H, psF F p bf (wp W (p : Int)).toNat X Y bw bh, hn4, fun i _ => hp i, fun po c so k w0 w B d K s hr hs hmk hB hR hK => ?_, fun po c so k w hr hs => ?_⟩
    · refine (paste_yes W H D A po n c ln F p X Y bw bh so m k bf w hr hv hs hmk hm hab hpn (by omega) (by omega) b2 b3).mono ?_
      rintro e w' ⟨g, bs, rfl, hM⟩
      refine ⟨_, _, _, rfl, hB.mk hM (by omega), hR.ans (by omega) (fun k hk => ⟨_, _, _, rfl, rfl, hp k⟩), ⟨rfl, rfl, rfl, rfl, ?_, fun i hi => ?_⟩, hM.pl, hM.kept⟩
      · show (if s.n = s.n then _ else _) = _
        rw [if_pos rfl]
      · show (if i = s.n then _ else s.RV i) = _
        rw [if_neg (by omega)]
    · refine (rpaste_yes W H D A po n c ln F p X Y bw bh so m k bf w hr hF hv hs hm hb6 hab hpn (by omega) (by omega) b2 b3).mono ?_
      rintro e w' ⟨go, gc, gs, cs, rfl, hG, hk⟩
      obtain ⟨ao, c9, e9, hP⟩ := hG.pc
      cases e9
      exact ⟨go, gc, rfl, hP.pl.len (fun i hi => by have := hv.len i hi; unfold pz; omega), hk⟩
  · refine ⟨0, 0, 0, false, 0, psE W H D p X Y bw bh A n ln F m bf, fun _ => 0, fun _ _ => 0, by omega, fun i hi => by omega, fun po c so k w0 w B d K s hr hs hmk hB hR hK => ?_, fun po c so k w hr hs => ?_⟩
    · refine (paste_no W H D p X Y bw bh A po n c ln F so m k bf w hr hs hmx hn hln hX hY h).mono ?_
      rintro e w' ⟨rfl, hk⟩
      refine ⟨_, _, _, rfl, hB.nil hk, hR.ans (by omega) (fun k hk => by omega), ⟨rfl, rfl, rfl, rfl, ?_, fun i hi => ?_⟩, .inl rfl, hk⟩
      · show (if s.n = s.n then _ else _) = _
        rw [if_pos rfl]
      · show (if i = s.n then _ else s.RV i) = _
        rw [if_neg (by omega)]
    · refine (rpaste_no W H D p X Y bw bh A po n c ln F so m k bf w hr hs hmx hn hln hF hb6 hX hY h).mono ?_
      rintro e w' ⟨rfl, hk⟩
      exact ⟨_, _, rfl, .inl rfl, hk⟩
end Go.Proofs.Ythihennifigchaa

namespace Go.Proofs.Ythihennifigchaa
open Go.RowKit

theorem Row.keepK {w w' : World} {b n : Nat} {f : Nat → Nat} {ks : List Nat} (h : Row w b n f) (hk : Kept ks w w') (hn : b ∉ ks) : Row w' b n f := hk.heap h hn
/-- The block that is put: its lent list, both boxes, the other block's list. -/
structure Bl (u : World) (AB BB CB m cc : Nat) (co : Option Addr) (bw bh : Int) (bf lf : Nat → Nat) : Prop where
  ab : Row u AB (m + 7) lf
  bb : u.heap[BB]? = some (.cells #[.int .i64 bw, .int .i64 bh, slv AB m (m + 7)] 54 (0, 0))
  cb : u.heap[CB]? = some (.cells #[.int .i64 bw, .int .i64 bh, .slice co m cc] 54 (0, 0))
  cr : Rd u co m bf
theorem Bl.keep {u u' : World} {AB BB CB m cc : Nat} {co : Option Addr} {bw bh : Int} {bf lf : Nat → Nat} (h : Bl u AB BB CB m cc co bw bh bf lf) (hk : Kept [] u u') : Bl u' AB BB CB m cc co bw bh bf lf :=
  ⟨h.ab.keepK hk (by simp), hk.heap h.bb (by simp), hk.heap h.cb (by simp), h.cr.kept hk (by simp)⟩
theorem Bl.rd {u : World} {AB BB CB m cc : Nat} {co : Option Addr} {bw bh : Int} {bf lf : Nat → Nat} (h : Bl u AB BB CB m cc co bw bh bf lf) (e : ∀ i, i < m → lf i = bf i) : Rd u (some ⟨AB, 0, none⟩) m bf :=
  .inr ⟨AB, 0, rfl, fun i hi => by rw [Nat.zero_add, ← e i hi]; exact h.ab.at (by omega)⟩
/-- The state of the law's loop: all that is beside the Book. -/
structure Lq (w1 : World) (E : Bk.Rsc) (XB GB LB : Nat) (V : Value) (n c gc : Nat) (bs ln : Nat → Nat) (W H D : Int) (A : Bool) (go : Option Addr) (LF FT : Nat → Nat → Nat) (p : Nat → Bool) (wS : World) (AB BB CB m cc : Nat) (co : Option Addr) (bw bh : Int) (bf lf : Nat → Nat) : Prop where
  lp : Lp w1 E XB GB LB V n c gc bs ln W H D A go LF FT p wS
  fb : ∀ u, Kept [] w1 u → Kept (Bx.cpl p wS.heap.size) wS u → Bl u AB BB CB m cc co bw bh bf lf
  pa : p AB = true ∧ AB < wS.heap.size
  pb : p BB = true ∧ BB < wS.heap.size
  pc : p CB = true ∧ CB < wS.heap.size
  na : ∀ x, (x = XB ∨ x = LB ∨ x = BB ∨ V.ownBlock = some x ∨ ∃ i, i < n ∧ x = bs i) → x ≠ AB ∧ x ≠ CB
  nb : BB ≠ GB ∧ ∀ i, i < n → bs i ≠ BB
  l6 : ∀ i, lf i < 65536
  lb : ∀ i, i < m → lf i = bf i
section
variable {w1 u u9 uD wS : World} {E : Bk.Rsc} {XB GB LB : Nat} {V : Value} {n c gc gc' : Nat} {bs ln : Nat → Nat} {W H D : Int} {A : Bool} {go go' : Option Addr} {LF FT G : Nat → Nat → Nat} {p : Nat → Bool} {B : Nat} {s : Bx.Bo} {AB BB CB m cc cc' : Nat} {co co' : Option Addr} {bw bh : Int} {bf lf bf' lf' : Nat → Nat}
theorem Lq.at (h : Lq w1 s.E XB GB LB V n c gc bs ln W H D A go LF FT p wS AB BB CB m cc co bw bh bf lf) (hB : Bx.BAt w1 u B s) : Bl u AB BB CB m cc co bw bh bf lf := by
  have hE := hB.extra
  rw [h.lp.e] at hE
  exact h.fb u hB.old hE
/-- The lent frame was turned, the block's list was written over, and the other ones are what they are now. -/
theorem Lq.turn (h : Lq w1 s.E XB GB LB V n c gc bs ln W H D A go LF FT p wS AB BB CB m cc co bw bh bf lf) (hB : Bx.BAt w1 u B s) (hG : ∀ i j, G i j < 65536) (hL : Ln w1 u9 LB V n bs ln G) (hP : ∀ (w2 : World) (ks : List Nat), Kept ks u9 w2 → (∀ x ∈ ks, x < u.heap.size) → Pc w2 go' n ln G) (hk : Kept (rbs bs n) u u9) (hk2 : Kept [GB, AB, CB] u9 uD)
    (hg : uD.heap[GB]? = some (.cells #[.int .i64 W, .int .i64 H, .int .i64 D, .bool A, .slice go' n gc'] 38 (0, 0))) (hA : Row uD AB (m + 7) lf') (hC : uD.heap[CB]? = some (.cells #[.int .i64 bw, .int .i64 bh, .slice co' m cc'] 54 (0, 0)))
    (hR : Rd uD co' m bf') (hR2 : ∀ g off, co' = some ⟨g, off, none⟩ → u.heap.size ≤ g ∧ g < uD.heap.size) (h6 : ∀ i, lf' i < 65536) (hb : ∀ i, i < m → lf' i = bf' i) :
    ∃ E' p', Bx.BAt w1 uD B { s with E := E' } ∧ Lq w1 E' XB GB LB V n c gc' bs ln W H D A go' G G p' uD AB BB CB m cc' co' bw bh bf' lf' := by
  have hF := h.lp.at hB
  have hBl := h.at hB
  have hE := hB.extra
  rw [h.lp.e] at hE
  have su : wS.heap.size ≤ u.heap.size := hE.size
  have s9 := hk.size
  have s10 := hk2.size
  have F0 : s.E.F = Bx.inn p wS.heap.size := by rw [h.lp.e]; rfl
  have hkk : Kept (rbs bs n ++ [GB, AB, CB]) u uD := (hk.mono (fun x hx => .inl (List.mem_append.2 (.inl hx)))).step hk2 (fun x hx => .inl (List.mem_append.2 (.inr hx)))
  obtain ⟨p', ep'⟩ : ∃ p' : Nat → Bool, ∀ x, p' x = ((decide (x < wS.heap.size) && p x) || decide (u.heap.size ≤ x)) := ⟨_, fun _ => rfl⟩
  have yes : ∀ x, p x = true ∧ x < wS.heap.size → p' x = true ∧ x < uD.heap.size := fun x hx => ⟨by rw [ep']; simp [hx.1, hx.2], by omega⟩
  have no : ∀ x ∈ Bx.cpl p' uD.heap.size, x < u.heap.size ∧ ¬ (p x = true ∧ x < wS.heap.size) := fun x hx => by
    have h1 := (Bx.mem_cpl.1 hx).2
    rw [ep'] at h1
    simp at h1
    refine ⟨by omega, fun h2 => ?_⟩
    have := h1.1 h2.2
    rw [h2.1] at this
    cases this
  have nc : ∀ x, p x = true ∧ x < wS.heap.size → x ∉ Bx.cpl p' uD.heap.size := fun x hx hm => (no x hm).2 hx
  have hlp := h.lp
  refine ⟨Bx.snap p' uD, p', hB.sete hkk (fun x hx => ?_) (Kept.refl _ _) (fun x hx => ?_), ⟨⟨rfl, fun v hv1 hv2 => ?_, yes _ hlp.px, yes _ hlp.pg, yes _ hlp.pl, fun g hg => yes g (hlp.pv g hg), fun i hi => yes _ (hlp.pb i hi), hG, fun _ _ _ _ => rfl, hlp.xg⟩, fun v hv1 hv2 => ?_, yes _ h.pa, yes _ h.pb, yes _ h.pc, h.na, h.nb, h6, hb⟩⟩
  · rw [F0, Bx.mem_inn]
    rcases List.mem_append.1 hx with q | q
    · obtain ⟨i, hi, e⟩ := mem_rbs.1 q
      rw [← e]; exact ⟨(hlp.pb i hi).2, (hlp.pb i hi).1⟩
    · simp at q
      rcases q with q | q | q
      · rw [q]; exact ⟨hlp.pg.2, hlp.pg.1⟩
      · rw [q]; exact ⟨h.pa.2, h.pa.1⟩
      · rw [q]; exact ⟨h.pc.2, h.pc.1⟩
  · have hx : x ∈ Bx.inn p' uD.heap.size := hx
    have h1 := (Bx.mem_inn.1 hx).2
    rw [ep'] at h1
    simp at h1
    rcases h1 with h1 | h1
    · left; rw [F0, Bx.mem_inn]; exact ⟨h1.1, h1.2⟩
    · exact .inr h1
  · have nX : XB ∉ rbs bs n ++ [GB, AB, CB] := fun hm => by
      rcases List.mem_append.1 hm with q | q
      · obtain ⟨i, hi, e⟩ := mem_rbs.1 q; exact hlp.xg.2.1 i hi e
      · simp at q
        have := h.na XB (.inl rfl)
        rcases q with q | q | q
        · exact hlp.xg.1 q
        · exact this.1 q
        · exact this.2 q
    have k9 : Kept (GB :: AB :: CB :: Bx.cpl p' uD.heap.size) u9 v := (hk2.mono (fun x hx => .inl (by simp at hx; simp; omega))).step hv2 (fun x hx => .inl (List.mem_cons_of_mem _ (List.mem_cons_of_mem _ (List.mem_cons_of_mem _ hx))))
    refine ⟨hv2.heap (hkk.heap hF.xb nX) (nc _ hlp.px), hv2.heap hg (nc _ hlp.pg), ?_, ?_⟩
    · refine hL.move (Nat.le_refl _) k9 hv1 (fun hm => ?_) (fun g hg hm => ?_) (fun i hi hm => ?_)
      · have := h.na LB (.inr (.inl rfl))
        simp only [List.mem_cons] at hm
        rcases hm with q | q | q | q
        · exact hlp.xg.2.2.2.1 q
        · exact this.1 q
        · exact this.2 q
        · exact nc _ hlp.pl q
      · have := h.na g (.inr (.inr (.inr (.inl hg))))
        simp only [List.mem_cons] at hm
        rcases hm with q | q | q | q
        · exact hlp.xg.2.2.2.2 (by rw [hg, q])
        · exact this.1 q
        · exact this.2 q
        · exact nc _ (hlp.pv g hg) q
      · have := h.na (bs i) (.inr (.inr (.inr (.inr ⟨i, hi, rfl⟩))))
        simp only [List.mem_cons] at hm
        rcases hm with q | q | q | q
        · exact hlp.xg.2.2.1 i hi q
        · exact this.1 q
        · exact this.2 q
        · exact nc _ (hlp.pb i hi) q
    · refine hP v _ k9 (fun x hx => ?_)
      simp only [List.mem_cons] at hx
      rcases hx with q | q | q | q
      · rw [q]; have := hlp.pg.2; omega
      · rw [q]; have := h.pa.2; omega
      · rw [q]; have := h.pc.2; omega
      · exact (no x q).1
  · have nB : BB ∉ rbs bs n ++ [GB, AB, CB] := fun hm => by
      rcases List.mem_append.1 hm with q | q
      · obtain ⟨i, hi, e⟩ := mem_rbs.1 q; exact h.nb.2 i hi e
      · simp at q
        have := h.na BB (.inr (.inr (.inl rfl)))
        rcases q with q | q | q
        · exact h.nb.1 q
        · exact this.1 q
        · exact this.2 q
    refine ⟨hA.keepK hv2 (nc _ h.pa), hv2.heap (hkk.heap hBl.bb nB) (nc _ h.pb), hv2.heap hC (nc _ h.pc), hR.kept hv2 (fun g off e hm => ?_)⟩
    have := hR2 g off e
    have := (no g hm).1
    omega
end
end Go.Proofs.Ythihennifigchaa

namespace Go.Proofs.Ythihennifigchaa
open Go.RowKit

theorem three {w : World} {B t : Nat} {a b c : Value} (h : w.heap[B]? = some (.cells #[a, b, c] t (0, 0))) :
    (w.cell? ⟨B, 0, none⟩ = some a ∧ w.cell? ⟨B, 1, none⟩ = some b ∧ w.cell? ⟨B, 2, none⟩ = some c) ∧
    w.frozen? ⟨B, 0, none⟩ = false ∧ w.frozen? ⟨B, 1, none⟩ = false ∧ w.frozen? ⟨B, 2, none⟩ = false := by
  refine ⟨⟨?_, ?_, ?_⟩, ?_, ?_, ?_⟩
  all_goals first | (rw [cell_of_row _ _ _ _ _ _ h]; rfl) | (simp [World.frozen?, h])
theorem six {w : World} {B t : Nat} {a b c d e f : Value} (h : w.heap[B]? = some (.cells #[a, b, c, d, e, f] t (0, 0))) :
    w.cell? ⟨B, 0, none⟩ = some a ∧ w.cell? ⟨B, 1, none⟩ = some b ∧ w.cell? ⟨B, 2, none⟩ = some c ∧ w.cell? ⟨B, 3, none⟩ = some d ∧ w.cell? ⟨B, 4, none⟩ = some e ∧ w.cell? ⟨B, 5, none⟩ = some f := by
  refine ⟨?_, ?_, ?_, ?_, ?_, ?_⟩
  all_goals (rw [cell_of_row _ _ _ _ _ _ h]; rfl)
theorem set3p {w : World} {B t : Nat} {a b c : Value} (a' b' c' : Value) (h : w.heap[B]? = some (.cells #[a, b, c] t (0, 0))) :
    (((w.setCell ⟨B, 0, none⟩ a').setCell ⟨B, 1, none⟩ b').setCell ⟨B, 2, none⟩ c').heap[B]? = some (.cells #[a', b', c'] t (0, 0)) ∧
    Kept [B] w (((w.setCell ⟨B, 0, none⟩ a').setCell ⟨B, 1, none⟩ b').setCell ⟨B, 2, none⟩ c') :=
  ⟨heap_setCell_at (heap_setCell_at (heap_setCell_at h)), (((Kept.refl [B] w).setCell (p := ⟨B, 0, none⟩) (.inl (by simp)) _).setCell (p := ⟨B, 1, none⟩) (.inl (by simp)) _).setCell (p := ⟨B, 2, none⟩) (.inl (by simp)) _⟩
/-- The loop's beginning. -/
theorem Lq.start {w1 w3 w4 w5 w6 w7 w8 w9 : World} {LB : Nat} {V : Value} {n c : Nat} {bs ln : Nat → Nat} {W H D : Int} {A : Bool} {po : Option Addr} {F : Nat → Nat → Nat} {B AB m k : Nat} {so : Option Addr} {bw bh : Int} {bf : Nat → Nat} (hB : Bx.BAt w1 w3 B Bx.bo0) (hP : Pc w1 po n ln F) (hS : Rd w1 so m bf) (hF : ∀ i j, F i j < 65536) (hb6 : ∀ i, i < m → bf i < 65536) (hL : Ln w3 w4 LB V n bs ln (fun i => ltF (F i) (ln i)))
    (k5 : Kept [] w4 w5) (x5 : w5.heap[w4.heap.size]? = some (.cells #[.int .i64 W, .int .i64 H, .int .i64 D, .bool A, slv LB n (n + 2), V, slv LB (n + 2) (n + 2)] 45 (0, 0)))
    (k6 : Kept [] w5 w6) (a6 : Row w6 AB (m + 7) (ltF bf m)) (la : w5.heap.size ≤ AB)
    (k7 : Kept [] w6 w7) (b7 : w7.heap[w6.heap.size]? = some (.cells #[.int .i64 bw, .int .i64 bh, slv AB m (m + 7)] 54 (0, 0)))
    (k8 : Kept [] w7 w8) (g8 : w8.heap[w7.heap.size]? = some (.cells #[.int .i64 W, .int .i64 H, .int .i64 D, .bool A, .slice po n c] 38 (0, 0)))
    (k9 : Kept [] w8 w9) (c9 : w9.heap[w8.heap.size]? = some (.cells #[.int .i64 bw, .int .i64 bh, .slice so m k] 54 (0, 0))) :
    ∃ E p, Bx.BAt w1 w9 B { Bx.bo0 with E := E } ∧ Lq w1 E w4.heap.size w7.heap.size LB V n c c bs ln W H D A po (fun i => ltF (F i) (ln i)) F p w9 AB w6.heap.size w8.heap.size m k so bw bh bf (ltF bf m) := by
  have k59 : Kept [] w5 w9 := k6.trans (k7.trans (k8.trans k9))
  have k79 : Kept [] w7 w9 := k8.trans k9
  have k39 : Kept [] w3 w9 := hL.kept.trans (k5.trans k59)
  have s13 := hB.old.size
  have s34 := hL.kept.size
  have s45 := k5.size
  have s56 := k6.size
  have s67 := k7.size
  have s78 := k8.size
  have s89 := k9.size
  have lX : w4.heap.size < w5.heap.size := lt_of_block x5
  have lA : AB < w6.heap.size := a6.lt
  have lB : w6.heap.size < w7.heap.size := lt_of_block b7
  have lG : w7.heap.size < w8.heap.size := lt_of_block g8
  have lC : w8.heap.size < w9.heap.size := lt_of_block c9
  have lL : LB < w4.heap.size := lt_of_block hL.lst
  have lb : ∀ i, i < n → bs i < w4.heap.size := fun i hi => (hL.all.row i hi).lt
  have lv : ∀ g, V.ownBlock = some g → w3.heap.size ≤ g ∧ g < w4.heap.size := fun g hg => own_lt hL.all.own g hg
  obtain ⟨p, ep⟩ : ∃ p : Nat → Bool, ∀ x, p x = decide (w3.heap.size ≤ x) := ⟨_, fun _ => rfl⟩
  have yes : ∀ x, w3.heap.size ≤ x → x < w9.heap.size → p x = true ∧ x < w9.heap.size := fun x h1 h2 => ⟨by rw [ep]; simp [h1], h2⟩
  have nc : ∀ x, w3.heap.size ≤ x → x ∉ Bx.cpl p w9.heap.size := fun x h1 hm => by
    have := (Bx.mem_cpl.1 hm).2
    rw [ep] at this
    simp at this
    omega
  refine ⟨Bx.snap p w9, p, hB.sete k39 (by simp) (Kept.refl _ _) (fun x hx => .inr ?_), ⟨⟨rfl, fun u hu1 hu2 => ⟨hu2.heap (k59.heap x5 (by simp)) (nc _ (by omega)), hu2.heap (k9.heap g8 (by simp)) (nc _ (by omega)), ?_, hP.keep hu1⟩, yes _ (by omega) (by omega), yes _ (by omega) (by omega), yes _ hL.new (by omega), fun g hg => yes g (lv g hg).1 (by have := (lv g hg).2; omega), fun i hi => yes _ (hL.all.lo i hi) (by have := lb i hi; omega), fun i j => ?_, fun i hi j hj => if_pos hj, ⟨by omega, fun i hi => by have := lb i hi; omega, fun i hi => by have := lb i hi; omega, by omega, fun e => by have := (lv _ e).2; omega⟩⟩,
    fun u hu1 hu2 => ⟨(a6.keepK (k7.trans k79) (by simp)).keepK hu2 (nc _ (by omega)), hu2.heap (k79.heap b7 (by simp)) (nc _ (by omega)), hu2.heap c9 (nc _ (by omega)), hS.keep hu1⟩, yes _ (by omega) (by omega), yes _ (by omega) (by omega), yes _ (by omega) (by omega), fun x hx => ?_, ⟨by omega, fun i hi => by have := lb i hi; omega⟩, fun i => ?_, fun i hi => if_pos hi⟩⟩
  · have h1 := (Bx.mem_inn.1 (show x ∈ Bx.inn p w9.heap.size from hx)).2
    rw [ep] at h1
    simpa using h1
  · exact (hL.keep0 (k5.trans k59)).move s13 hu2 hu1 (nc _ hL.new) (fun g hg => nc g (lv g hg).1) (fun i hi => nc _ (hL.all.lo i hi))
  · show ltF (F i) (ln i) j < 65536
    unfold ltF
    split
    · exact hF i j
    · decide
  · rcases hx with q | q | q | q | ⟨i, hi, q⟩
    · omega
    · omega
    · omega
    · have := (lv x q).2; omega
    · have := lb i hi; omega
  · show ltF bf m i < 65536
    unfold ltF
    split
    · exact hb6 i (by assumption)
    · decide
end Go.Proofs.Ythihennifigchaa

namespace Go.Proofs.Ythihennifigchaa
open Go.RowKit

theorem alloc_newZ (w : World) (o : Obj) : ∃ w', w.alloc o = w' ∧ Kept [] w w' ∧ w'.heap[w.heap.size]? = some o := ⟨_, rfl, alloc_kept w o, heap_alloc_new w o⟩

set_option maxHeartbeats 32000000 in
set_option maxRecDepth 1000000 in
theorem pastes_any (W H D q X Y bw bh : Int) (A : Bool) (po : Option Addr) (n c : Nat) (ln : Nat → Nat) (F0 : Nat → Nat → Nat) (so : Option Addr) (m k0 : Nat) (bf0 : Nat → Nat) (w : World) (hr0 : Pc w po n ln F0) (hs0 : Rd w so m bf0) (hn : n ≤ 5864062014634) (hln : ∀ i, i < n → ln i ≤ 70368744175616) (hm : m ≤ 70368744175616) (hF0 : ∀ i, i < n → ∀ j, j < ln i → F0 i j < 65536) (hb0 : ∀ i, i < m → bf0 i < 65536) (hX : -9223372036854775808 ≤ X ∧ X ≤ 9223372036854775807) (hY : -9223372036854775808 ≤ Y ∧ Y ≤ 9223372036854775807) :
    Calls Try.prog 6 #[frv W H D A po n c, .agg #[.int .i64 q, .int .i64 X, .int .i64 Y, .int .i64 bw, .int .i64 bh, .slice so m k0]] w fun e w' => e = .returned (.bool true) ∧ Kept [] w w' := by
  obtain ⟨F, hr, hF⟩ := hr0.nice hF0
  have PU := Hid.mk (fun (FT : Nat → Nat → Nat) (hT : ∀ i j, FT i j < 65536) (bf : Nat → Nat) (hb : ∀ i, i < m → bf i < 65536) => paste_u W H D q X Y bw bh A n ln FT m bf (fun i _ j _ => hT i j) hb (by omega) (by omega) (fun i hi => by have := hln i hi; omega) hX hY)
  have HF := Hid.mk hF
  have Hln := Hid.mk hln
  have Hb0 := Hid.mk hb0
  obtain ⟨wa, ewa, kwa, hba⟩ := alloc_newZ w (.cells #[.int .i64 W, .int .i64 H, .int .i64 D, .bool A, .slice po n c] 38)
  obtain ⟨w1, ew1, kw1, hb1⟩ := alloc_newZ wa (.cells #[.int .i64 q, .int .i64 X, .int .i64 Y, .int .i64 bw, .int .i64 bh, .slice so m k0] 61)
  obtain ⟨b0, eb0⟩ : ∃ b, w.heap.size = b := ⟨_, rfl⟩
  obtain ⟨b1, eb1⟩ : ∃ b, wa.heap.size = b := ⟨_, rfl⟩
  rw [eb0] at hba
  rw [eb1] at hb1
  have hf1 := kw1.heap hba (by simp)
  have P1 := Hid.mk (hr.keep (kwa.trans kw1))
  have S1 := Hid.mk (hs0.keep (kwa.trans kw1))
  have Q1 : Hid (∀ u, Kept [] w1 u → u.heap[b0]? = some (.cells #[.int .i64 W, .int .i64 H, .int .i64 D, .bool A, .slice po n c] 38 (0, 0)) ∧ u.heap[b1]? = some (.cells #[.int .i64 q, .int .i64 X, .int .i64 Y, .int .i64 bw, .int .i64 bh, .slice so m k0] 61 (0, 0))) := Hid.mk (fun u hu => ⟨hu.heap hf1 (by simp), hu.heap hb1 (by simp)⟩)
  have K0 := Hid.mk (kwa.trans kw1)
  clear hr0 hF0 hF hr hln hX hY kwa kw1 hba hb1 hf1 hs0 hb0
  go_enter Try.func6, Try.ntmps6
  go_wp2_with (fail)
  refine (shown_any w1).mono ?_
  rintro e w2 ⟨rfl, k2⟩
  obtain ⟨w3, ew3, k3, hb3⟩ := alloc_newZ w2 (.cells #[.slice none 0 0, .int .i64 0, .slice none 0 0] 35)
  obtain ⟨B, eB⟩ : ∃ B, w2.heap.size = B := ⟨_, rfl⟩
  have sB : w1.heap.size ≤ B := by rw [← eB]; exact k2.size
  rw [eB] at hb3
  have K3 := Hid.mk (k2.trans k3)
  have B3 := Hid.mk (Bx.bo0_at K3.out sB hb3)
  obtain ⟨⟨f0, f1, f2, f3, f4⟩, -⟩ := five (Q1.out w3 K3.out).1
  have LE := Hid.mk (lend_any W H D A po n c ln F w3 (P1.out.keep K3.out).pl hn Hln.out)
  clear k2 k3 hb3 sB ewa ew1
  go_wp2_with (fail)
  with_reducible refine LE.out.mono ?_
  rintro e w4 ⟨LB, V, bs, rfl, hL⟩
  obtain ⟨vo, vc, rfl⟩ : ∃ vo vc, V = .slice vo n vc := by
    rcases hL.all.own.2 with ⟨e2, h0⟩ | ⟨g2, cap, cur, e2, _⟩
    · exact ⟨none, 0, by rw [e2, h0]⟩
    · exact ⟨_, _, e2⟩
  have HL := Hid.mk hL
  clear f0 f1 f2 f3 f4 hL LE ew3 eB
  have hx5 := heap_alloc_new w4 (.cells #[.int .i64 W, .int .i64 H, .int .i64 D, .bool A, slv LB n (n + 2), .slice vo n vc, slv LB (n + 2) (n + 2)] 45)
  have k5 := alloc_kept w4 (.cells #[.int .i64 W, .int .i64 H, .int .i64 D, .bool A, slv LB n (n + 2), .slice vo n vc, slv LB (n + 2) (n + 2)] 45)
  go_upto_region 4 with (fail)
  obtain ⟨w5, ew5⟩ : ∃ w5, w4.alloc (.cells #[.int .i64 W, .int .i64 H, .int .i64 D, .bool A, slv LB n (n + 2), .slice vo n vc, slv LB (n + 2) (n + 2)] 45) = w5 := ⟨_, rfl⟩
  rw [ew5] at hx5 k5
  rw [ew5]
  obtain ⟨XB, eXB⟩ : ∃ XB, w4.heap.size = XB := ⟨_, rfl⟩
  rw [eXB]
  have K5 := Hid.mk ((K3.out.trans HL.out.kept).trans k5)
  obtain ⟨z0, z1, z2, z3, z4, z5⟩ := six (Q1.out w5 K5.out).2
  have LL := Hid.mk (lentList_any so m k0 bf0 w5 (S1.out.keep K5.out) hm)
  have H5 := Hid.mk (And.intro k5 hx5)
  clear k5 hx5
  go_wp2_with (fail)
  with_reducible refine LL.out.mono ?_
  rintro e w6 ⟨rfl, a6, k6⟩
  have K6 := Hid.mk (K5.out.trans k6)
  have H6 := Hid.mk (And.intro a6 k6)
  obtain ⟨AB, eAB⟩ : ∃ AB, w5.heap.size = AB := ⟨_, rfl⟩
  rw [eAB]
  clear z0 z1 z2 z3 z4 z5 a6 k6 LL
  obtain ⟨z0, z1, z2, z3, z4, z5⟩ := six (Q1.out w6 K6.out).2
  have im : (m : Int) ≤ (m : Int) + 7 := by omega
  go_upto_region 5 with (fail)
  have lb1 : b1 < w6.heap.size := lt_of_block (Q1.out w6 K6.out).2
  obtain ⟨BB, eBB⟩ : ∃ BB, w6.heap.size = BB := ⟨_, rfl⟩
  obtain ⟨u7, eu7⟩ : ∃ u7, (w6.alloc (.cells #[.int .i64 0, .int .i64 0, .slice none 0 0] 54)).drew = u7 := ⟨_, rfl⟩
  have ku7 : Kept [] w6 u7 := by rw [← eu7]; exact (alloc_kept w6 _).drew
  have hu7 : u7.heap[BB]? = some (.cells #[.int .i64 0, .int .i64 0, .slice none 0 0] 54) := by rw [← eu7, ← eBB]; exact heap_alloc_new w6 _
  have s7 := set3 (.int .i64 bw) (.int .i64 bh) (slv AB m (m + 7)) hu7
  obtain ⟨w7, ew7⟩ : ∃ w7, ((u7.setCell ⟨BB, 0, none⟩ (.int .i64 bw)).setCell ⟨BB, 1, none⟩ (.int .i64 bh)).setCell ⟨BB, 2, none⟩ (slv AB m (m + 7)) = w7 := ⟨_, rfl⟩
  rw [ew7] at s7
  have k7 : Kept [] w6 w7 := ku7.step s7.2 (fun x hx => .inr (by simp at hx; omega))
  have H7 := Hid.mk (And.intro k7 s7.1)
  obtain ⟨⟨i0, i1, i2⟩, o0, o1, o2⟩ := three hu7
  have y3 := cell_keep ku7 z3 (by simp)
  have y4 := cell_keep ku7 z4 (by simp)
  have y5 := cell_keep ku7 z5 (by simp)
  have x3 := cell_keep k7 z3 (by simp)
  have x4 := cell_keep k7 z4 (by simp)
  have x5 := cell_keep k7 z5 (by simp)
  clear ku7 s7 hu7 lb1 k7
  refine wp_region_held_drew (S := fun w' => w'.cell? ⟨b1, 3, none⟩ = some (.int .i64 bw) ∧ w'.cell? ⟨b1, 4, none⟩ = some (.int .i64 bh) ∧ w'.cell? ⟨b1, 5, none⟩ = some (.slice so m k0)) (by kernel_rfl) ⟨z3, z4, z5⟩ (fun hHeld => ?_)
  refine wpAnyH_take (i := 0) (v := ?_) rfl (by kernel_rfl) (by kernel_rfl) (by kernel_rfl) (fun _ _ _ h => h) (Or.inl ⟨by rfl, ?_⟩) (by assumption) ?_
  rotate_left
  · intro w hSw
    try dsimp only at hSw
    go_simp
    all_goals with_reducible rfl
  simp only [Act.put, List.getElem_toArray, List.getElem_cons_zero, List.setIfInBounds_toArray, List.set_cons_zero, List.set_cons_succ]
  refine wpAnyH_take (i := 1) (v := ?_) rfl (by kernel_rfl) (by kernel_rfl) (by kernel_rfl) (fun _ _ _ h => h) (Or.inl ⟨by rfl, ?_⟩) (by assumption) ?_
  rotate_left
  · intro w hSw
    try dsimp only at hSw
    go_simp
    all_goals with_reducible rfl
  simp only [Act.put, List.getElem_toArray, List.getElem_cons_zero, List.getElem_cons_succ, List.setIfInBounds_toArray, List.set_cons_zero, List.set_cons_succ]
  refine wpAnyH_take (i := 2) (v := ?_) rfl (by kernel_rfl) (by kernel_rfl) (by kernel_rfl) (fun _ _ _ h => h) (Or.inl ⟨by rfl, ?_⟩) (by assumption) ?_
  rotate_left
  · intro w hSw
    try dsimp only at hSw
    go_simp
    all_goals with_reducible rfl
  simp only [Act.put, List.getElem_toArray, List.getElem_cons_zero, List.getElem_cons_succ, List.setIfInBounds_toArray, List.set_cons_zero, List.set_cons_succ]
  refine wpAnyH_take (i := 3) (v := ?_) rfl (by kernel_rfl) (by kernel_rfl) (by kernel_rfl) (fun _ _ _ h => h) (Or.inl ⟨by rfl, ?_⟩) (by assumption) ?_
  rotate_left
  · intro w hSw
    try dsimp only at hSw
    go_simp
    all_goals with_reducible rfl
  simp only [Act.put, List.getElem_toArray, List.getElem_cons_zero, List.getElem_cons_succ, List.setIfInBounds_toArray, List.set_cons_zero, List.set_cons_succ]
  refine wpAnyH_take (i := 4) (v := ?_) rfl (by kernel_rfl) (by kernel_rfl) (by kernel_rfl) (fun _ _ _ h => h) (Or.inl ⟨by rfl, ?_⟩) (by assumption) ?_
  rotate_left
  · intro w hSw
    try dsimp only at hSw
    go_simp
    all_goals with_reducible rfl
  simp only [Act.put, List.getElem_toArray, List.getElem_cons_zero, List.getElem_cons_succ, List.setIfInBounds_toArray, List.set_cons_zero, List.set_cons_succ]
  refine wpAnyH_take (i := 5) (v := ?_) rfl (by kernel_rfl) (by kernel_rfl) (by kernel_rfl) (fun _ _ _ h => h) (Or.inl ⟨by rfl, ?_⟩) (by assumption) ?_
  rotate_left
  · intro w hSw
    try dsimp only at hSw
    go_simp
    all_goals with_reducible rfl
  simp only [Act.put, List.getElem_toArray, List.getElem_cons_zero, List.getElem_cons_succ, List.setIfInBounds_toArray, List.set_cons_zero, List.set_cons_succ]
  refine wpAnyH_take (i := 6) (v := ?_) rfl (by kernel_rfl) (by kernel_rfl) (by kernel_rfl) (fun _ _ _ h => h) (Or.inl ⟨by rfl, ?_⟩) (by assumption) ?_
  rotate_left
  · intro w hSw
    try dsimp only at hSw
    go_simp
    all_goals with_reducible rfl
  simp only [Act.put, List.getElem_toArray, List.getElem_cons_zero, List.getElem_cons_succ, List.setIfInBounds_toArray, List.set_cons_zero, List.set_cons_succ]
  refine wpAnyH_take (i := 7) (v := ?_) rfl (by kernel_rfl) (by kernel_rfl) (by kernel_rfl) (fun _ _ _ h => h) (Or.inl ⟨by rfl, ?_⟩) (by assumption) ?_
  rotate_left
  · intro w hSw
    try dsimp only at hSw
    go_simp
    all_goals with_reducible rfl
  simp only [Act.put, List.getElem_toArray, List.getElem_cons_zero, List.getElem_cons_succ, List.setIfInBounds_toArray, List.set_cons_zero, List.set_cons_succ]
  refine wpAnyH_take (i := 8) (v := ?_) rfl (by kernel_rfl) (by kernel_rfl) (by kernel_rfl) (fun _ _ _ h => h) (Or.inl ⟨by rfl, ?_⟩) (by assumption) ?_
  rotate_left
  · intro w hSw
    try dsimp only at hSw
    go_simp
    all_goals with_reducible rfl
  simp only [Act.put, List.getElem_toArray, List.getElem_cons_zero, List.getElem_cons_succ, List.setIfInBounds_toArray, List.set_cons_zero, List.set_cons_succ]
  refine wpAnyH_take (i := 9) (v := ?_) rfl (by kernel_rfl) (by kernel_rfl) (by kernel_rfl) (fun _ _ _ h => h) (Or.inl ⟨by rfl, ?_⟩) (by assumption) ?_
  rotate_left
  · intro w hSw
    try dsimp only at hSw
    go_simp
    all_goals with_reducible rfl
  simp only [Act.put, List.getElem_toArray, List.getElem_cons_zero, List.getElem_cons_succ, List.setIfInBounds_toArray, List.set_cons_zero, List.set_cons_succ]
  refine wpAnyH_take (i := 10) (v := ?_) rfl (by kernel_rfl) (by kernel_rfl) (by kernel_rfl) (fun _ _ _ h => h) (Or.inl ⟨by rfl, ?_⟩) (by assumption) ?_
  rotate_left
  · intro w hSw
    try dsimp only at hSw
    go_simp
    all_goals with_reducible rfl
  simp only [Act.put, List.getElem_toArray, List.getElem_cons_zero, List.getElem_cons_succ, List.setIfInBounds_toArray, List.set_cons_zero, List.set_cons_succ]
  refine wpAnyH_take (i := 11) (v := ?_) rfl (by kernel_rfl) (by kernel_rfl) (by kernel_rfl) (fun _ _ _ h => h) (Or.inl ⟨by rfl, ?_⟩) (by assumption) ?_
  rotate_left
  · intro w hSw
    try dsimp only at hSw
    go_simp
    all_goals with_reducible rfl
  simp only [Act.put, List.getElem_toArray, List.getElem_cons_zero, List.getElem_cons_succ, List.setIfInBounds_toArray, List.set_cons_zero, List.set_cons_succ]
  refine wpAnyH_take (i := 12) (v := ?_) rfl (by kernel_rfl) (by kernel_rfl) (by kernel_rfl) (fun _ _ _ h => h) (Or.inl ⟨by rfl, ?_⟩) (by assumption) ?_
  rotate_left
  · intro w hSw
    try dsimp only at hSw
    go_simp
    all_goals with_reducible rfl
  simp only [Act.put, List.getElem_toArray, List.getElem_cons_zero, List.getElem_cons_succ, List.setIfInBounds_toArray, List.set_cons_zero, List.set_cons_succ]
  refine wpAnyH_ready (rs := [13]) (by kernel_rfl) (by simp) ?_
  refine AllReadyH.cons rfl (fun K9 hK9 => ?_) AllReadyH.nil
  go_simp
  try rw [eu7]
  try rw [eBB]
  refine hK9.out _ _ ⟨y3, y4, y5⟩ (fun hHeld2 => ?_)
  clear hK9 K9
  refine wpAnyH_ready (rs := [14]) (by kernel_rfl) (by simp) ?_
  refine AllReadyH.cons rfl (fun K9 hK9 => ?_) AllReadyH.nil
  go_simp
  try rw [ew7]
  refine hK9.out _ _ ⟨x3, x4, x5⟩ (fun hHeld2 => ?_)
  clear hK9 K9
  refine wpAnyH_done (by kernel_rfl) ?_ _
  have K7 := Hid.mk (K6.out.trans H7.out.1)
  clear eu7 ew7 i0 i1 i2 o0 o1 o2 y3 y4 y5 x3 x4 x5 z0 z1 z2 z3 z4 z5 im hHeld hHeld2
  obtain ⟨⟨f0, f1, f2, f3, f4⟩, -⟩ := five (Q1.out w7 K7.out).1
  go_upto_region 7 with (fail)
  obtain ⟨w8, ew8, k8, hg8⟩ := alloc_newZ w7 (.cells #[.int .i64 W, .int .i64 H, .int .i64 D, .bool A, .slice po n c] 38)
  obtain ⟨GB, eGB⟩ : ∃ GB, w7.heap.size = GB := ⟨_, rfl⟩
  rw [ew8, eGB]
  have K8 := Hid.mk (K7.out.trans k8)
  obtain ⟨z0, z1, z2, z3, z4, z5⟩ := six (Q1.out w8 K8.out).2
  clear f0 f1 f2 f3 f4 ew8
  go_upto_region 8 with (fail)
  obtain ⟨w9, ew9, k9, hc9⟩ := alloc_newZ w8 (.cells #[.int .i64 bw, .int .i64 bh, .slice so m k0] 54)
  obtain ⟨CB, eCB⟩ : ∃ CB, w8.heap.size = CB := ⟨_, rfl⟩
  rw [ew9, eCB]
  clear ew9 z0 z1 z2 z3 z4 z5
  obtain ⟨E0, p0, hB9, hLq⟩ := Lq.start B3.out P1.out S1.out HF.out Hb0.out HL.out H5.out.1 H5.out.2 H6.out.2 (by rw [← eAB]; exact H6.out.1) (Nat.le_of_eq eAB) H7.out.1 (by rw [eBB]; exact H7.out.2) k8 hg8 k9 hc9
  rw [eXB, eGB, eBB, eCB] at hLq
  have ST : Hid (∃ s p wS go gc LF FT co cc bf lf, Bx.BAt w1 w9 B s ∧ Bx.Rq s 0 (4 + 2 * 0) ∧ s.n = 2 * 0 ∧ s.h ≤ 1000 * 0 ∧ Lq w1 s.E XB GB LB (.slice vo n vc) n c gc bs ln W H D A go LF FT p wS AB BB CB m cc co bw bh bf lf ∧ (∀ i j, FT i j < 65536) ∧ ((0 : Nat) = 0 → LF = (fun i => ltF (F i) (ln i)) ∧ lf = ltF bf0 m)) := Hid.mk ⟨_, p0, w9, po, c, _, F, so, k0, bf0, _, hB9, ⟨rfl, fun _ h => absurd h (by show ¬ _ < 0; omega), fun _ h => absurd h (by show ¬ _ < 0; omega), fun _ => Nat.zero_le _, fun j => ⟨fun h => h.elim, fun h => absurd h (by show ¬ j < 0; omega)⟩, fun _ _ h => absurd h (by show ¬ _ < 0; omega)⟩, rfl, Nat.zero_le _, hLq, HF.out, fun _ => ⟨rfl, rfl⟩⟩
  clear hB9 hLq k8 k9 hg8 hc9 B3 HL H5 H6 H7 ew5 eXB eAB eBB eGB eCB K3 K5 K6 K7 K8 Hb0
  clear hHeld2
  go_wp2
  go_loopw [12] (fun t wr => ∃ k : Nat, k ≤ 2 ∧ t = .int .i64 (k : Int) ∧ ∃ s p wS go gc LF FT co cc bf lf, Bx.BAt w1 wr B s ∧ Bx.Rq s 0 (4 + 2 * k) ∧ s.n = 2 * k ∧ s.h ≤ 1000 * k ∧ Lq w1 s.E XB GB LB (.slice vo n vc) n c gc bs ln W H D A go LF FT p wS AB BB CB m cc co bw bh bf lf ∧ (∀ i j, FT i j < 65536) ∧ (k = 0 → LF = (fun i => ltF (F i) (ln i)) ∧ lf = ltF bf0 m)) (fun t _ => 2 - (intOf t).toNat)
  case atStart =>
    obtain ⟨s, p, wS, go, gc, LF, FT, co, cc, bf, lf, q1, q2, q3, q4, q5, q6, q7⟩ := ST.out
    exact ⟨0, by omega, rfl, s, p, wS, go, gc, LF, FT, co, cc, bf, lf, q1, q2, q3, q4, q5, q6, fun _ => q7 (by trivial)⟩
  case round =>
    obtain ⟨k, hk, rfl, s, p, wS, go, gc, LF, FT, co, cc, bf, lf, hB, hR, hsn, hsh, hLq, hFT, hk0⟩ := hrel
    by_cases hlt : k < 2
    · have ix : (k : Int) < 2 := by omega
      have hbf : ∀ i, i < m → bf i < 65536 := fun i hi => by rw [← hLq.lb i hi]; exact hLq.l6 i
      obtain ⟨fW, fH, fD, fA, fn, fE, lm, G, hfn, hlm, NW, RN⟩ := PU.out FT hFT bf hbf
      have NW := Hid.mk NW
      have RN := Hid.mk RN
      have HLM := Hid.mk hlm
      have HB := Hid.mk hB
      have HLQ := Hid.mk hLq
      have HK0 := Hid.mk hk0
      have HFC := Hid.mk (And.intro (hLq.lp.at hB) (hLq.at hB))
      have HFT := Hid.mk hFT
      have C1 := Hid.mk (NW.out (some ⟨LB, 0, none⟩) (n + 2) (some ⟨AB, 0, none⟩) (m + 7) w1 wr B 0 (4 + 2 * k) s (HFC.out.1.ln_.pc hLq.lp.ft) (HFC.out.2.rd hLq.lb) (by omega) hB hR (by omega))
      obtain ⟨⟨x0, x1, x2, x3, x4, x5, x6⟩, -⟩ := seven HFC.out.1.xb
      obtain ⟨r0, r1, r2, r3, r4, r5⟩ := six (Q1.out wr hB.old).2
      obtain ⟨⟨y0, y1, y2⟩, -⟩ := three HFC.out.2.bb
      clear hB hR hLq hlm hk0 hFT hbf
      go_wp2_with (fail)
      with_reducible refine C1.out.mono ?_
      rintro e v1 ⟨po1, c1, s1, rfl, hB1, hR1, hX1, hP1, hk1⟩
      have HB1 := Hid.mk (And.intro hB1 (And.intro hR1 (And.intro hX1 (And.intro hP1 hk1))))
      have ka1 := alloc_kept v1 (.cells #[.int .i64 fW, .int .i64 fH, .int .i64 fD, .bool fA, .slice po1 fn c1] 38)
      obtain ⟨⟨x0', x1', x2', x3', x4', x5', x6'⟩, -⟩ := seven ((hk1.trans ka1).heap HFC.out.1.xb (by simp))
      obtain ⟨r0', r1', r2', r3', r4', r5'⟩ := six (Q1.out _ (hB1.old.trans ka1)).2
      obtain ⟨⟨y0', y1', y2'⟩, -⟩ := three ((hk1.trans ka1).heap HFC.out.2.bb (by simp))
      clear x0 x1 x2 x3 x4 x5 x6 r0 r1 r2 r3 r4 r5 y0 y1 y2 C1 hB1 hR1 hX1 hP1 hk1
      go_wp2_with (fail)
      obtain ⟨u1, eu1⟩ : ∃ u1, v1.alloc (.cells #[.int .i64 fW, .int .i64 fH, .int .i64 fD, .bool fA, .slice po1 fn c1] 38) = u1 := ⟨_, rfl⟩
      have hu1 : u1.heap[v1.heap.size]? = some (.cells #[.int .i64 fW, .int .i64 fH, .int .i64 fD, .bool fA, .slice po1 fn c1] 38) := by rw [← eu1]; exact heap_alloc_new _ _
      rw [eu1] at ka1
      rw [eu1]
      obtain ⟨G1, eG1⟩ : ∃ G1, v1.heap.size = G1 := ⟨_, rfl⟩
      rw [eG1] at hu1 ⊢
      have F1 := HFC.out.1.keep (HB1.out.2.2.2.2.trans ka1)
      have F2 := HFC.out.2.keep (HB1.out.2.2.2.2.trans ka1)
      have C2 := Hid.mk (NW.out (some ⟨LB, 0, none⟩) (n + 2) (some ⟨AB, 0, none⟩) (m + 7) w1 u1 B (0 + 1) (4 + 2 * k) s1 (F1.ln_.pc HLQ.out.lp.ft) (F2.rd HLQ.out.lb) (by omega) (HB1.out.1.keep ka1) HB1.out.2.1 (by omega))
      have HU1 := Hid.mk (And.intro hu1 (And.intro (HB1.out.2.2.2.1.keep ka1) (And.intro F1 F2)))
      have HX1 := Hid.mk HB1.out.2.2.1
      clear eu1 eG1 x0' x1' x2' x3' x4' x5' x6' r0' r1' r2' r3' r4' r5' y0' y1' y2' ka1 HB1 hu1 F1 F2
      with_reducible refine C2.out.mono ?_
      rintro e v2 ⟨po2, c2, s2, rfl, hB2, hR2, hX2, hP2, hk2⟩
      have HB2 := Hid.mk (And.intro hB2 (And.intro hR2 (And.intro hX2 hP2)))
      have HU1' := Hid.mk (And.intro (hk2.heap HU1.out.1 (by simp)) (And.intro (HU1.out.2.1.keep hk2) (And.intro (HU1.out.2.2.1.keep hk2) (HU1.out.2.2.2.keep hk2))))
      have ka2 := alloc_kept v2 (.cells #[.int .i64 fW, .int .i64 fH, .int .i64 fD, .bool fA, .slice po2 fn c2] 38)
      obtain ⟨⟨g0, g1, g2, g3, g4⟩, -⟩ := five (ka2.heap HU1'.out.2.2.1.gb (by simp))
      obtain ⟨r0, r1, r2, r3, r4, r5⟩ := six (Q1.out _ (hB2.old.trans ka2)).2
      obtain ⟨⟨y0, y1, y2⟩, -⟩ := three (ka2.heap HU1'.out.2.2.2.cb (by simp))
      clear C2 hB2 hR2 hX2 hP2 hk2 HU1
      go_wp2_with (fail)
      obtain ⟨u2, eu2⟩ : ∃ u2, v2.alloc (.cells #[.int .i64 fW, .int .i64 fH, .int .i64 fD, .bool fA, .slice po2 fn c2] 38) = u2 := ⟨_, rfl⟩
      have hu2 : u2.heap[v2.heap.size]? = some (.cells #[.int .i64 fW, .int .i64 fH, .int .i64 fD, .bool fA, .slice po2 fn c2] 38) := by rw [← eu2]; exact heap_alloc_new _ _
      rw [eu2] at ka2
      rw [eu2]
      obtain ⟨G2, eG2⟩ : ∃ G2, v2.heap.size = G2 := ⟨_, rfl⟩
      rw [eG2] at hu2 ⊢
      have HU2 := Hid.mk (And.intro hu2 (HB2.out.2.2.2.keep ka2))
      have HU3 := Hid.mk (And.intro (ka2.heap HU1'.out.1 (by simp)) (And.intro (HU1'.out.2.1.keep ka2) (And.intro (HU1'.out.2.2.1.keep ka2) (HU1'.out.2.2.2.keep ka2))))
      have HS2 := Hid.mk (And.intro (HB2.out.1.keep ka2) (And.intro HB2.out.2.1 HB2.out.2.2.1))
      have C3 := Hid.mk (RN.out go gc co cc u2 HU3.out.2.2.1.pg HU3.out.2.2.2.cr)
      clear eu2 eG2 g0 g1 g2 g3 g4 r0 r1 r2 r3 r4 r5 y0 y1 y2 ka2 HB2 hu2 HU1'
      with_reducible refine C3.out.mono ?_
      rintro e v3 ⟨po3, c3, rfl, hP3, hk3⟩
      have HP3 := Hid.mk (And.intro hP3 hk3)
      clear hP3 hk3 C3
      go_upto_region 14 with (fail)
      obtain ⟨u3, eu3⟩ : ∃ u3, v3.alloc (.cells #[.int .i64 fW, .int .i64 fH, .int .i64 fD, .bool fA, .slice po3 fn c3] 38) = u3 := ⟨_, rfl⟩
      have hu3 : u3.heap[v3.heap.size]? = some (.cells #[.int .i64 fW, .int .i64 fH, .int .i64 fD, .bool fA, .slice po3 fn c3] 38) := by rw [← eu3]; exact heap_alloc_new _ _
      have ka3 : Kept [] u2 u3 := by rw [← eu3]; exact HP3.out.2.trans (alloc_kept _ _)
      have kb3 : Kept [] v3 u3 := by rw [← eu3]; exact alloc_kept _ _
      rw [eu3]
      obtain ⟨G3, eG3⟩ : ∃ G3, v3.heap.size = G3 := ⟨_, rfl⟩
      rw [eG3] at hu3 ⊢
      have h1u := ka3.heap HU3.out.1 (by simp)
      have h2u := ka3.heap HU2.out.1 (by simp)
      obtain ⟨⟨a0, a1, a2, a3, a4⟩, -⟩ := five h1u
      obtain ⟨⟨b0', b1', b2', b3', b4'⟩, -⟩ := five h2u
      obtain ⟨⟨d0, d1, d2, d3, d4⟩, -⟩ := five hu3
      have all0 : alF G G fn lm lm = true := alF_yes (fun i _ => eqL_yes (fun _ _ => rfl))
      have C4 := Hid.mk (rsame_eq fW fH fD fA po1 po3 fn c1 c3 lm lm G G u3 (HU3.out.2.1.keep ka3) (HP3.out.1.keep kb3) (by omega) (fun i hi => by have := HLM.out i hi; omega) (fun i hi => by have := HLM.out i hi; omega))
      have C5 : Hid (∀ u, Kept [] u3 u → Calls Try.prog 18 #[frv fW fH fD fA po2 fn c2, frv fW fH fD fA po3 fn c3] u fun e w' => e = .returned (.bool true) ∧ Kept [] u w') := Hid.mk (fun u hu => by
        have := rsame_eq fW fH fD fA po2 po3 fn c2 c3 lm lm G G u (HU2.out.2.keep (ka3.trans hu)) (HP3.out.1.keep (kb3.trans hu)) (by omega) (fun i hi => by have := HLM.out i hi; omega) (fun i hi => by have := HLM.out i hi; omega)
        rw [all0] at this
        exact this)
      rw [all0] at C4
      have HS3 := Hid.mk (And.intro (HS2.out.1.keep ka3) HS2.out.2)
      have HF3 := Hid.mk (And.intro (HU3.out.2.2.1.keep ka3) (HU3.out.2.2.2.keep ka3))
      have HFF := Hid.mk (And.intro h1u (And.intro h2u hu3))
      clear all0 ka3 kb3 eu3 eG3 HP3 HU2 HU3 HS2 h1u h2u hu3
      go_wp2_with (fail)
      with_reducible refine C4.out.mono ?_
      rintro e u4 ⟨rfl, k4⟩
      obtain ⟨⟨a0', a1', a2', a3', a4'⟩, -⟩ := five (k4.heap HFF.out.1 (by simp))
      obtain ⟨⟨b0, b1', b2', b3', b4'⟩, -⟩ := five (k4.heap HFF.out.2.1 (by simp))
      obtain ⟨⟨d0', d1', d2', d3', d4'⟩, -⟩ := five (k4.heap HFF.out.2.2 (by simp))
      have C6 := Hid.mk (C5.out u4 k4)
      have K4 := Hid.mk k4
      clear a0 a1 a2 a3 a4 d0 d1 d2 d3 d4 C4 C5 k4
      go_wp2_with (fail)
      with_reducible refine C6.out.mono ?_
      rintro e u5 ⟨rfl, k5⟩
      have K5 := Hid.mk (K4.out.trans k5)
      clear a0' a1' a2' a3' a4' d0' d1' d2' d3' d4' C6 k5 K4
      have F5 := HF3.out.1.keep K5.out
      have HF5 := Hid.mk (And.intro F5 (HF3.out.2.keep K5.out))
      have KO5 := Hid.mk (HS3.out.1.old.trans K5.out)
      have PO := Hid.mk (P1.out.keep KO5.out).pl
      obtain ⟨⟨x0, x1, x2, x3, x4, x5, x6⟩, -⟩ := seven F5.xb
      obtain ⟨⟨f0, f1, f2, f3, f4⟩, -⟩ := five (Q1.out u5 KO5.out).1
      clear F5
      go_upto_region 16 with (fail)
      go_cut [21] (fun v wc => v = .bool true ∧ Kept [] u5 wc)
      case first =>
        by_cases hz : k = 0
        · have e0 := (HK0.out hz).1
          subst hz
          have hS := still_yes W H D A LB n c (.slice vo n vc) bs ln po F w1 u5 (by rw [← e0]; exact HF5.out.1.ln_) PO.out hn Hln.out
          have SS := Hid.mk hS
          clear hS e0
          go_wp2_with (fail)
          with_reducible refine SS.out.mono ?_
          rintro e u6 ⟨rfl, k6⟩
          go_wp2
          go_meet
          exact ⟨rfl, k6⟩
        · have hz' : (0 : Int) < (k : Int) := by omega
          go_wp2
          go_meet
          exact ⟨rfl, Kept.refl _ _⟩
      case rest =>
        obtain ⟨rfl, k6⟩ := hcut
        obtain ⟨ud, eud⟩ : ∃ ud, ud = wc := ⟨_, rfl⟩
        subst eud
        have KA := Hid.mk (K5.out.trans k6)
        have KD := Hid.mk k6
        obtain ⟨r0, r1, r2, r3, r4, r5⟩ := six (Q1.out ud (KO5.out.trans k6)).2
        clear x0 x1 x2 x3 x4 x5 x6 f0 f1 f2 f3 f4 k6 PO
        go_upto_region 17 with (fail)
        go_cut [22] (fun v wc => v = .bool true ∧ Kept [] ud wc)
        case first =>
          by_cases hz : k = 0
          · have e0 := (HK0.out hz).2
            subst hz
            have hS := stays_yes AB m (m + 7) k0 so bf0 ud (by rw [← e0]; exact (HF5.out.2.keep KD.out).ab) (S1.out.keep (KO5.out.trans KD.out)) hm
            have SS := Hid.mk hS
            clear hS e0
            go_wp2_with (fail)
            with_reducible refine SS.out.mono ?_
            rintro e u6 ⟨rfl, k6⟩
            go_wp2
            go_meet
            exact ⟨rfl, k6⟩
          · have hz' : (0 : Int) < (k : Int) := by omega
            go_wp2
            go_meet
            exact ⟨rfl, Kept.refl _ _⟩
        case rest =>
          obtain ⟨rfl, k6⟩ := hcut
          have K6 := Hid.mk (KA.out.trans k6)
          clear r0 r1 r2 r3 r4 r5 k6 KO5 KD KA HF5 K5
          obtain ⟨⟨-, -, -, -, e4⟩, -⟩ := five (K6.out.heap HFF.out.1 (by simp))
          have HS5 := Hid.mk (HS3.out.1.keep K6.out)
          have T1 := Hid.mk (Bx.take_k w1 wc B s2 (.slice po1 fn c1) po1 fn c1 rfl HS5.out (by have := HS3.out.2.1.r; have := HS3.out.2.2.2.1; have := HX1.out.2.1; omega))
          go_wp2_with (fail)
          with_reducible refine T1.out.mono ?_
          rintro e u6 ⟨rfl, Sn1, hB6, hk6⟩
          have h2q := K6.out.heap HFF.out.2.1 (by simp)
          obtain ⟨⟨-, -, -, -, g4⟩, -⟩ := five (hk6.heap h2q (HS5.out.not_mine h2q (by decide) (by decide)))
          have eR1 : s2.RV s2.r = .slice po1 fn c1 := by
            have x1 := HX1.out
            have x2 := HS3.out.2.2
            have x3 := HS3.out.2.1.r
            rw [show s2.r = s.n by omega, x2.2.2.2.2.2 s.n (by omega)]
            exact x1.2.2.2.2.1
          have eR2 : (s2.appo (.slice po1 fn c1) Sn1).RV (s2.appo (.slice po1 fn c1) Sn1).r = .slice po2 fn c2 := by
            have x1 := HX1.out
            have x2 := HS3.out.2.2
            have x3 := HS3.out.2.1.r
            show s2.RV (s2.r + 1) = _
            rw [show s2.r + 1 = s1.n by omega]
            exact x2.2.2.2.2.1
          have R6 := HS3.out.2.1.take Sn1 eR1
          have T2 := Hid.mk (Bx.take_k w1 u6 B _ (.slice po2 fn c2) po2 fn c2 rfl hB6 (by have := HS3.out.2.1.r; have := HS3.out.2.2.2.1; have := HX1.out.2.1; show s2.r + 1 ≤ 1000000; omega))
          have HR6 := Hid.mk (And.intro R6 eR2)
          clear T1 e4 hB6 hk6 h2q eR1 eR2 R6 HS5
          go_wp2_with (fail)
          with_reducible refine T2.out.mono ?_
          rintro e u7 ⟨rfl, Sn2, hB7, -⟩
          have R7 := HR6.out.1.take Sn2 HR6.out.2
          have n7 : ((s2.appo (.slice po1 fn c1) Sn1).appo (.slice po2 fn c2) Sn2).n = 2 * k + 2 := by
            have x1 := HX1.out.2.1
            have x2 := HS3.out.2.2.2.1
            show s2.n = _
            omega
          have h7 : ((s2.appo (.slice po1 fn c1) Sn1).appo (.slice po2 fn c2) Sn2).h ≤ 1000 * k := by
            have x1 := HX1.out.2.2.2.1
            have x2 := HS3.out.2.2.2.2.2.1
            show s2.h ≤ _
            omega
          have E7 : ((s2.appo (.slice po1 fn c1) Sn1).appo (.slice po2 fn c2) Sn2).E = s.E := by
            show s2.E = _
            exact HS3.out.2.2.1.trans HX1.out.1
          obtain ⟨s7, es7⟩ : ∃ s7, (s2.appo (.slice po1 fn c1) Sn1).appo (.slice po2 fn c2) Sn2 = s7 := ⟨_, rfl⟩
          rw [es7] at hB7 R7 n7 h7 E7
          have OW := Hid.mk (Bx.own_any w1 u7 B s7 hB7 (R7.rk (by omega) (by omega)) (by omega))
          have HR7 := Hid.mk (And.intro R7 (And.intro n7 (And.intro h7 E7)))
          clear T2 g4 hB7 R7 n7 h7 E7 es7 HR6 HS3 HFF HX1 HF3
          go_wp2_with (fail)
          with_reducible refine OW.out.mono ?_
          rintro e u8 ⟨rfl, s8, hB8, hD8⟩
          have R8 := HR7.out.1.of_dn hD8
          have n8 : s8.n = 2 * (k + 1) := by have := hD8.n; have := HR7.out.2.1; omega
          have h8 : s8.h ≤ 1000 * (k + 1) := by have := hD8.h; have := HR7.out.2.2.1; omega
          have L8 : Lq w1 s8.E XB GB LB (.slice vo n vc) n c gc bs ln W H D A go LF FT p wS AB BB CB m cc co bw bh bf lf := by rw [hD8.E, HR7.out.2.2.2]; exact HLQ.out
          have F8 := L8.lp.at hB8
          have G8 := L8.at hB8
          have H8 := Hid.mk (And.intro hB8 (And.intro R8 (And.intro n8 (And.intro h8 L8))))
          have HF8 := Hid.mk (And.intro F8 G8)
          have TU := Hid.mk (turn2_any W H D A LB n (.slice vo n vc) bs ln LF w1 u8 F8.ln_ L8.lp.lf hn Hln.out)
          obtain ⟨⟨x0, x1, x2, x3, x4, x5, x6⟩, -⟩ := seven F8.xb
          clear OW hB8 hD8 R8 n8 h8 HR7 L8 F8 G8 HLQ HFC
          go_wp2_with (fail)
          with_reducible refine TU.out.mono ?_
          rintro e u9 ⟨go', gc', G', rfl, hG', hL9, hP9, hk9⟩
          have hLQ := H8.out.2.2.2.2
          have nG : GB ∉ rbs bs n := fun hm => by
            obtain ⟨i, hi, e⟩ := mem_rbs.1 hm
            exact hLQ.lp.xg.2.2.1 i hi e
          have nA : AB ∉ rbs bs n ∧ CB ∉ rbs bs n := ⟨fun hm => by
            obtain ⟨i, hi, e⟩ := mem_rbs.1 hm
            exact (hLQ.na (bs i) (.inr (.inr (.inr (.inr ⟨i, hi, rfl⟩))))).1 e, fun hm => by
            obtain ⟨i, hi, e⟩ := mem_rbs.1 hm
            exact (hLQ.na (bs i) (.inr (.inr (.inr (.inr ⟨i, hi, rfl⟩))))).2 e⟩
          have nB : BB ∉ rbs bs n := fun hm => by
            obtain ⟨i, hi, e⟩ := mem_rbs.1 hm
            exact hLQ.nb.2 i hi e
          have gb9 := hk9.heap HF8.out.1.gb nG
          have ab9 := HF8.out.2.ab.keepK hk9 nA.1
          have bb9 := hk9.heap HF8.out.2.bb nB
          have cb9 := hk9.heap HF8.out.2.cb nA.2
          have AG : AB ≠ GB := fun e => by
            have h := ab9
            unfold Row at h
            rw [e, gb9] at h
            simp at h
          have AC : AB ≠ CB := fun e => by
            have h := ab9
            unfold Row at h
            rw [e, cb9] at h
            simp at h
          have CG : CB ≠ GB := fun e => by
            have h := cb9
            rw [e, gb9] at h
            simp at h
          have BA := hLQ.na BB (.inr (.inr (.inl rfl)))
          have BG := hLQ.nb.1
          obtain ⟨⟨v0, v1', v2', v3', v4'⟩, t0, t1, t2, t3, t4⟩ := five gb9
          have s5 := set5 (.int .i64 W) (.int .i64 H) (.int .i64 D) (.bool A) (.slice go' n gc') gb9
          obtain ⟨uG, euG⟩ : ∃ uG, (((((u9.setCell ⟨GB, 0, none⟩ (.int .i64 W)).setCell ⟨GB, 1, none⟩ (.int .i64 H)).setCell ⟨GB, 2, none⟩ (.int .i64 D)).setCell ⟨GB, 3, none⟩ (.bool A)).setCell ⟨GB, 4, none⟩ (.slice go' n gc')) = uG := ⟨_, rfl⟩
          rw [euG] at s5
          have abG := ab9.keepK s5.2 (by simpa using AG)
          have bbG := s5.2.heap bb9 (by simpa using BG)
          have cbG := s5.2.heap cb9 (by simpa using CG)
          have H9 := Hid.mk (And.intro hG' (And.intro hL9 (And.intro hP9 (And.intro hk9 s5))))
          have HG := Hid.mk (And.intro abG (And.intro bbG cbG))
          have HN := Hid.mk (And.intro AG (And.intro AC (And.intro CG (And.intro BA BG))))
          have L6 := Hid.mk hLQ.l6
          clear x0 x1 x2 x3 x4 x5 x6 TU hG' hL9 hP9 hk9 nG nA nB gb9 ab9 bb9 cb9 s5 abG bbG cbG AG AC CG BA BG hLQ
          go_upto_region 26 with (fail)
          try rw [euG]
          clear euG v0 v1' v2' v3' v4' t0 t1 t2 t3 t4
          go_wp2
          go_loopw [24] (fun t wq => ∃ (j : Nat) (f' : Nat → Nat), j ≤ m ∧ t = .int .i64 (j : Int) ∧ (∀ t, f' t < 65536) ∧ Row wq AB (m + 7) f' ∧ Kept [AB] uG wq) (fun t _ => m - (intOf t).toNat)
          case atStart => exact ⟨0, _, by omega, rfl, L6.out, HG.out.1, Kept.refl _ _⟩
          case round =>
            obtain ⟨j, f', hj, rfl, hfb, hrow, hkq⟩ := hrel
            obtain ⟨wq, ewq⟩ : ∃ wq, wq = wr := ⟨_, rfl⟩
            subst ewq
            have hnn := HN.out
            have bbq := hkq.heap HG.out.2.1 (by simpa using hnn.2.2.2.1.1)
            obtain ⟨⟨z0, z1, z2⟩, -⟩ := three bbq
            by_cases hjl : j < m
            · have hc := hrow.at (show j < m + 7 by omega)
              have hfz := hrow.fz j
              have jx : (j : Int) < (m : Int) := by omega
              have hvb := hfb j
              obtain ⟨v, ev⟩ : ∃ v, v = f' j := ⟨_, rfl⟩
              rw [← ev] at hc hvb
              have Hr := Hid.mk hrow
              have Hq := Hid.mk hkq
              have Hb := Hid.mk hfb
              obtain ⟨x9, ex9, hx9⟩ := xor_u16 (v : Int) 3
              have hx8 := hnn.2.2.2.1.1
              have KD := Hid.mk (((Kept.refl [AB] wq).drew).setCell (p := ⟨AB, j, none⟩) (.inl (by simp)) (.int .u16 (x9 : Int)))
              have y2 := cell_keep KD.out z2 (by simpa using hx8)
              clear ev hrow hkq hfb bbq hnn hx8
              go_wp2
              refine wp_region_held_drew (S := fun w' => w'.cell? ⟨BB, 2, none⟩ = some (slv AB m (m + 7))) (by kernel_rfl) z2 (fun hHeld => ?_)
              refine wpAnyH_take (i := 0) (v := ?_) rfl (by kernel_rfl) (by kernel_rfl) (by kernel_rfl) (fun _ _ _ h => h) (Or.inl ⟨by rfl, ?_⟩) (by assumption) ?_
              rotate_left
              · intro w hSw
                try dsimp only at hSw
                go_simp
                all_goals with_reducible rfl
              simp only [Act.put, List.getElem_toArray, List.getElem_cons_zero, List.setIfInBounds_toArray, List.set_cons_zero, List.set_cons_succ]
              refine wpAnyH_take (i := 1) (v := ?_) rfl (by kernel_rfl) (by kernel_rfl) (by kernel_rfl) (fun _ _ _ h => h) (Or.inl ⟨by rfl, ?_⟩) (by assumption) ?_
              rotate_left
              · intro w hSw
                try dsimp only at hSw
                go_simp
                all_goals with_reducible rfl
              simp only [Act.put, List.getElem_toArray, List.getElem_cons_zero, List.getElem_cons_succ, List.setIfInBounds_toArray, List.set_cons_zero, List.set_cons_succ]
              refine wpAnyH_take (i := 2) (v := ?_) rfl (by kernel_rfl) (by kernel_rfl) (by kernel_rfl) (fun _ _ _ h => h) (Or.inl ⟨by rfl, ?_⟩) (by assumption) ?_
              rotate_left
              · intro w hSw
                try dsimp only at hSw
                go_simp
                all_goals with_reducible rfl
              simp only [Act.put, List.getElem_toArray, List.getElem_cons_zero, List.getElem_cons_succ, List.setIfInBounds_toArray, List.set_cons_zero, List.set_cons_succ]
              refine wpAnyH_take (i := 3) (v := ?_) rfl (by kernel_rfl) (by kernel_rfl) (by kernel_rfl) (fun _ _ _ h => h) (Or.inl ⟨by rfl, ?_⟩) (by assumption) ?_
              rotate_left
              · intro w hSw
                try dsimp only at hSw
                go_simp
                all_goals with_reducible rfl
              simp only [Act.put, List.getElem_toArray, List.getElem_cons_zero, List.getElem_cons_succ, List.setIfInBounds_toArray, List.set_cons_zero, List.set_cons_succ]
              refine wpAnyH_take (i := 4) (v := ?_) rfl (by kernel_rfl) (by kernel_rfl) (by kernel_rfl) (fun _ _ _ h => h) (Or.inl ⟨by rfl, ?_⟩) (by assumption) ?_
              rotate_left
              · intro w hSw
                try dsimp only at hSw
                go_simp
                all_goals with_reducible rfl
              simp only [Act.put, List.getElem_toArray, List.getElem_cons_zero, List.getElem_cons_succ, List.setIfInBounds_toArray, List.set_cons_zero, List.set_cons_succ]
              refine wpAnyH_take (i := 5) (v := ?_) rfl (by kernel_rfl) (by kernel_rfl) (by kernel_rfl) (fun _ _ _ h => h) (Or.inl ⟨by rfl, ?_⟩) (by assumption) ?_
              rotate_left
              · intro w hSw
                try dsimp only at hSw
                go_simp
                all_goals with_reducible rfl
              simp only [Act.put, List.getElem_toArray, List.getElem_cons_zero, List.getElem_cons_succ, List.setIfInBounds_toArray, List.set_cons_zero, List.set_cons_succ]
              refine wpAnyH_take (i := 6) (v := ?_) rfl (by kernel_rfl) (by kernel_rfl) (by kernel_rfl) (fun _ _ _ h => h) (Or.inl ⟨by rfl, ?_⟩) (by assumption) ?_
              rotate_left
              · intro w hSw
                try dsimp only at hSw
                go_simp
                all_goals with_reducible rfl
              simp only [Act.put, List.getElem_toArray, List.getElem_cons_zero, List.getElem_cons_succ, List.setIfInBounds_toArray, List.set_cons_zero, List.set_cons_succ]
              refine wpAnyH_ready (rs := [7]) (by kernel_rfl) (by simp) ?_
              refine AllReadyH.cons rfl (fun K9 hK9 => ?_) AllReadyH.nil
              go_simp
              refine hK9.out _ _ z2 (fun hHeld2 => ?_)
              clear hK9 K9
              refine wpAnyH_take (i := 8) (v := ?_) rfl (by kernel_rfl) (by kernel_rfl) (by kernel_rfl) (fun _ _ _ h => h) (Or.inl ⟨by rfl, ?_⟩) (by assumption) ?_
              rotate_left
              · intro w hSw
                try dsimp only at hSw
                go_simp
                all_goals with_reducible rfl
              simp only [Act.put, List.getElem_toArray, List.getElem_cons_zero, List.getElem_cons_succ, List.setIfInBounds_toArray, List.set_cons_zero, List.set_cons_succ]
              refine wpAnyH_take (i := 9) (v := ?_) rfl (by kernel_rfl) (by kernel_rfl) (by kernel_rfl) (fun _ _ _ h => h) (Or.inl ⟨by rfl, ?_⟩) (by assumption) ?_
              rotate_left
              · intro w hSw
                try dsimp only at hSw
                go_simp
                all_goals with_reducible rfl
              simp only [Act.put, List.getElem_toArray, List.getElem_cons_zero, List.getElem_cons_succ, List.setIfInBounds_toArray, List.set_cons_zero, List.set_cons_succ]
              refine wpAnyH_ready (rs := [10]) (by kernel_rfl) (by simp) ?_
              refine AllReadyH.cons rfl (fun K9 hK9 => ?_) AllReadyH.nil
              go_simp
              refine hK9.out _ _ y2 (fun hHeld2 => ?_)
              clear hK9 K9
              refine wpAnyH_done (by kernel_rfl) ?_ _
              go_wp2
              refine ⟨⟨j + 1, fun t => if t = j then x9 else f' t, by omega, by go_num, fun t => ?_, Hr.out.set, (Hq.out.setCell (p := ⟨AB, j, none⟩) (.inl (by simp)) _).drew⟩, by simp [intOf]; omega⟩
              show (if t = j then x9 else f' t) < 65536
              split
              · exact hx9
              · exact Hb.out t
            · obtain rfl : m = j := by omega
              obtain ⟨g1, c1', ub, e9, kb, hg1, hg1', hmc, hrd⟩ := app_copy wq.drew AB m (m + 7) (m + 7) f' hrow (by omega) (by omega)
              have kb' : Kept [] wq ub := ((Kept.refl [] wq).drew).trans kb
              have cbq := kb'.heap (hkq.heap HG.out.2.2 (by simpa using fun e => hnn.2.1 e.symm)) (by simp)
              obtain ⟨⟨i0, i1, i2⟩, o0, o1, o2⟩ := three cbq
              have s3 := set3 (.int .i64 bw) (.int .i64 bh) (slv g1 m c1') cbq
              obtain ⟨uD, euD⟩ : ∃ uD, (((ub.setCell ⟨CB, 0, none⟩ (.int .i64 bw)).setCell ⟨CB, 1, none⟩ (.int .i64 bh)).setCell ⟨CB, 2, none⟩ (slv g1 m c1')) = uD := ⟨_, rfl⟩
              rw [euD] at s3
              have kal : Kept [] wq.drew ((wq.alloc (.cells #[] 65)).drew) := alloc_kept wq.drew (.cells #[] 65)
              obtain ⟨⟨m0, m1, m2⟩, -⟩ := three (kal.heap (show wq.drew.heap[BB]? = _ from bbq) (by simp))
              obtain ⟨⟨l0, l1, l2⟩, -⟩ := three (kb'.heap bbq (by simp))
              obtain ⟨⟨j0, j1, j2⟩, -⟩ := three (s3.2.heap (kb'.heap bbq (by simp)) (by simpa using hnn.2.2.2.1.2))
              have e9' : Sem.run Try.prog (Builtin.append_ #[52, 52] 52 #[.slice (some ⟨wq.heap.size, 0, none⟩) 0 0, slv AB m (m + 7)]) ((wq.alloc (.cells #[] 65)).drew) = .ok (slv g1 m c1') ub := e9
              have lCB : CB < wq.heap.size := lt_of_block (hkq.heap HG.out.2.2 (by simpa using fun e => hnn.2.1 e.symm))
              have hQ : Hid (∃ E' p', Bx.BAt w1 uD B { s8 with E := E' } ∧ Lq w1 E' XB GB LB (.slice vo n vc) n c gc' bs ln W H D A go' G' G' p' uD AB BB CB m c1' (some ⟨g1, 0, none⟩) bw bh f' f') := Hid.mk (by
                have kGD : Kept [GB, AB, CB] u9 uD := (((H9.out.2.2.2.2.2.mono (fun x hx => .inl (by simp at hx; simp [hx]))).step hkq (fun x hx => .inl (by simp at hx; simp [hx]))).step kb' (by simp)).step s3.2 (fun x hx => .inl (by simp at hx; simp [hx]))
                have sq : u8.heap.size ≤ wq.heap.size := Nat.le_trans H9.out.2.2.2.1.size (Nat.le_trans H9.out.2.2.2.2.2.size hkq.size)
                have hg1 : wq.heap.size ≤ g1 := hg1
                have s3s := s3.2.size
                exact H8.out.2.2.2.2.turn H8.out.1 H9.out.1 H9.out.2.1 H9.out.2.2.1 H9.out.2.2.2.1 kGD
                  (s3.2.heap (kb'.heap (hkq.heap H9.out.2.2.2.2.1 (by simpa using fun e => hnn.1 e.symm)) (by simp)) (by simpa using fun e => hnn.2.2.1 e.symm))
                  ((hrow.keepK kb' (by simp)).keepK s3.2 (by simpa using hnn.2.1)) s3.1
                  (hrd.kept s3.2 (fun g off e hm => by cases e; simp at hm; omega)) (fun g off e => by cases e; omega) hfb (fun _ _ => rfl))
              clear kb kb' cbq s3 kal hrd hg1 hg1' hmc hrow hkq hfb bbq hnn lCB e9
              go_wp2
              refine wp_region_held_drew (S := fun w' => w'.cell? ⟨BB, 0, none⟩ = some (.int .i64 bw) ∧ w'.cell? ⟨BB, 1, none⟩ = some (.int .i64 bh) ∧ w'.cell? ⟨BB, 2, none⟩ = some (slv AB m (m + 7))) (by kernel_rfl) ⟨z0, z1, z2⟩ (fun hHeld => ?_)
              refine wpAnyH_take (i := 0) (v := ?_) rfl (by kernel_rfl) (by kernel_rfl) (by kernel_rfl) (fun _ _ _ h => h) (Or.inl ⟨by rfl, ?_⟩) (by assumption) ?_
              rotate_left
              · intro w hSw
                try dsimp only at hSw
                go_simp
                all_goals with_reducible rfl
              simp only [Act.put, List.getElem_toArray, List.getElem_cons_zero, List.setIfInBounds_toArray, List.set_cons_zero, List.set_cons_succ]
              refine wpAnyH_take (i := 1) (v := ?_) rfl (by kernel_rfl) (by kernel_rfl) (by kernel_rfl) (fun _ _ _ h => h) (Or.inl ⟨by rfl, ?_⟩) (by assumption) ?_
              rotate_left
              · intro w hSw
                try dsimp only at hSw
                go_simp
                all_goals with_reducible rfl
              simp only [Act.put, List.getElem_toArray, List.getElem_cons_zero, List.getElem_cons_succ, List.setIfInBounds_toArray, List.set_cons_zero, List.set_cons_succ]
              refine wpAnyH_take (i := 2) (v := ?_) rfl (by kernel_rfl) (by kernel_rfl) (by kernel_rfl) (fun _ _ _ h => h) (Or.inl ⟨by rfl, ?_⟩) (by assumption) ?_
              rotate_left
              · intro w hSw
                try dsimp only at hSw
                go_simp
                all_goals with_reducible rfl
              simp only [Act.put, List.getElem_toArray, List.getElem_cons_zero, List.getElem_cons_succ, List.setIfInBounds_toArray, List.set_cons_zero, List.set_cons_succ]
              refine wpAnyH_take (i := 3) (v := ?_) rfl (by kernel_rfl) (by kernel_rfl) (by kernel_rfl) (fun _ _ _ h => h) (Or.inl ⟨by rfl, ?_⟩) (by assumption) ?_
              rotate_left
              · intro w hSw
                try dsimp only at hSw
                go_simp
                all_goals with_reducible rfl
              simp only [Act.put, List.getElem_toArray, List.getElem_cons_zero, List.getElem_cons_succ, List.setIfInBounds_toArray, List.set_cons_zero, List.set_cons_succ]
              refine wpAnyH_take (i := 5) (v := ?_) rfl (by kernel_rfl) (by kernel_rfl) (by kernel_rfl) (fun _ _ _ h => h) (Or.inl ⟨by rfl, ?_⟩) (by assumption) ?_
              rotate_left
              · intro w hSw
                try dsimp only at hSw
                go_simp
                all_goals with_reducible rfl
              simp only [Act.put, List.getElem_toArray, List.getElem_cons_zero, List.getElem_cons_succ, List.setIfInBounds_toArray, List.set_cons_zero, List.set_cons_succ]
              refine wpAnyH_take (i := 6) (v := ?_) rfl (by kernel_rfl) (by kernel_rfl) (by kernel_rfl) (fun _ _ _ h => h) (Or.inl ⟨by rfl, ?_⟩) (by assumption) ?_
              rotate_left
              · intro w hSw
                try dsimp only at hSw
                go_simp
                all_goals with_reducible rfl
              simp only [Act.put, List.getElem_toArray, List.getElem_cons_zero, List.getElem_cons_succ, List.setIfInBounds_toArray, List.set_cons_zero, List.set_cons_succ]
              refine wpAnyH_ready (rs := [4]) (by kernel_rfl) (by simp) ?_
              refine AllReadyH.cons rfl (fun K9 hK9 => ?_) AllReadyH.nil
              go_simp
              refine hK9.out _ _ ⟨m0, m1, m2⟩ (fun hHeld2 => ?_)
              clear hK9 K9
              refine wpAnyH_ready (rs := [7]) (by kernel_rfl) (by simp) ?_
              refine AllReadyH.cons rfl (fun K9 hK9 => ?_) AllReadyH.nil
              refine step_app rfl _ _ 52 rfl _ _ _ _ rfl rfl e9' ?_
              simp only [Act.put, List.getElem_toArray, List.getElem_cons_zero, List.getElem_cons_succ, List.setIfInBounds_toArray, List.set_cons_zero, List.set_cons_succ]
              refine hK9.out _ _ ⟨l0, l1, l2⟩ (fun hHeld2 => ?_)
              clear hK9 K9
              refine wpAnyH_take (i := 8) (v := ?_) rfl (by kernel_rfl) (by kernel_rfl) (by kernel_rfl) (fun _ _ _ h => h) (Or.inl ⟨by rfl, ?_⟩) (by assumption) ?_
              rotate_left
              · intro w hSw
                try dsimp only at hSw
                go_simp
                all_goals with_reducible rfl
              simp only [Act.put, List.getElem_toArray, List.getElem_cons_zero, List.getElem_cons_succ, List.setIfInBounds_toArray, List.set_cons_zero, List.set_cons_succ]
              refine wpAnyH_ready (rs := [9]) (by kernel_rfl) (by simp) ?_
              refine AllReadyH.cons rfl (fun K9 hK9 => ?_) AllReadyH.nil
              go_simp
              try rw [euD]
              refine hK9.out _ _ ⟨j0, j1, j2⟩ (fun hHeld2 => ?_)
              clear hK9 K9
              refine wpAnyH_done (by kernel_rfl) ?_ _
              clear euD e9' i0 i1 i2 o0 o1 o2
              go_wp2
              go_roundw
              case rel =>
                obtain ⟨E', p', hB', hL'⟩ := hQ.out
                exact ⟨k + 1, by omega, by go_num, _, p', _, go', gc', G', G', _, c1', f', f', hB', ⟨H8.out.2.1.r, H8.out.2.1.rl, H8.out.2.1.ov, fun i => by have := H8.out.2.1.k8 i; show s8.kn i ≤ _; omega, H8.out.2.1.J, H8.out.2.1.ls⟩, H8.out.2.2.1, H8.out.2.2.2.1, hL', H9.out.1, fun h => by omega⟩
              case measure => simp [intOf]; omega
    · go_wp2
      go_ret
      exact ⟨rfl, K0.out.trans hB.old⟩
end Go.Proofs.Ythihennifigchaa
