import Derived.Test.YtknkjhfemgiiaaaDoorVf
import Derived.Test.YtknkjhfemgiiaaaDoorVd
namespace Go.Proofs.YtknkjhfemgiiaaaDoor
open Go.RowKit Go.Lib

def Pok (P : Ps) : Prop := P.bg = true → Rt P.r ∧ (∀ x ∈ P.es, Ebd x) ∧ P.es.length ≤ 200
theorem ev_sz (r : Int) (X : Rr) (h : Sz X) : (evF r X).1.1.reel.size ≤ maxLen ∧ (evF r X).1.1.note.size ≤ maxLen := by
  have hA : Sz (evA X).2 := by
    unfold evA
    split
    · exact h.nx 0
    · split
      · exact (h.nx 0).fdq
      · exact (h.nx 0).rf _ _
  have h1 := nx_sy (evA X).2 0 hA
  have h2 := ((hA.nmq).tmq r).tmq r
  constructor
  · show (nmq (evA X).2).1.size ≤ maxLen
    unfold nmq maxLen; simp only; omega
  · show (evN (tmq r (tmq r (nmq (evA X).2).2).2).2).1.size ≤ maxLen
    unfold evN
    split
    · simp [ByteArray.size]
    · have := nx_sy _ 1 h2
      unfold tx maxLen; simp only; omega
theorem takeLine_any (B p B2 : Nat) (P : Ps) (v0 : Value) (a : Option Addr) (c : Nat) (ws : List Wd) (en : Int) (w : World) (hB : B ≤ w.heap.size) (hP : PsA B w p P v0) (hw : w.ownsRow B2 56 3 (.slice a ws.length c) ws.length (wcs ws)) (hV : Vs w) (hty : 6 ≤ B) (htp : 6 ≤ p) (hX : Sz (tkX ws en)) (hk : Pok P) :
    Calls Tryd.prog 9 #[.pointer (some ⟨p, 0, none⟩), .agg #[.slice a ws.length c, .int .i64 en]] w fun e w' => TkP B p w (tkF P ws en) e w' := by
  cases ws with
  | nil => exact take_none B p P v0 a c en w hB hP
  | cons x t =>
    by_cases hb : P.bg = false
    · have := take_list B p B2 P v0 a c x t en w hB hP hw hV hty htp hX hb
      simpa [tkF, hb] using this
    · have hb' : P.bg = true := by simpa using hb
      obtain ⟨k1, k2, k3⟩ := hk hb'
      by_cases hm : P.es.length = 200
      · have := take_many B p B2 P v0 a c x t en w hB hP hw hV hty htp hX hb' hm
        simpa [tkF, hb', hm] using this
      · have hs := ev_sz P.r (tkX (x :: t) en) hX
        have hT : Tke P (tkX (x :: t) en) := ⟨k1, k2, by omega, hs.1, hs.2⟩
        cases he : (evF P.r (tkX (x :: t) en)).2.er with
        | some y =>
          have := take_err B p B2 P v0 a c x t en w hB hP hw hV hty htp hX hb' hT y he
          simpa [tkF, hb', hm, he] using this
        | none =>
          have := take_event B p B2 P v0 a c x t en w hB hP hw hV hty htp hX hb' hT he
          simpa [tkF, hb', hm, he] using this
/-- A text's lines, one by one, with no error. -/
def RunOk : Ps → Int → List ByteArray → Ps → Prop
  | P, _, [], Q => P = Q
  | P, st, s :: t, Q => Pok P ∧ Sz (tkX (lnW s st) (lnE s st)) ∧ 0 ≤ st ∧ st ≤ 50000 ∧ s.size ≤ 50000 ∧ ∃ P', tkF P (lnW s st) (lnE s st) = (P', none) ∧ RunOk P' (st + s.size + 1) t Q
def ps0 : Ps := ⟨⟨#[]⟩, 0, [], false⟩
/-- What Parse tells of a text without an error. -/
def PaP (Q : Ps) (w : World) (e : Ending) (w' : World) : Prop := ∃ a c, e = .returned (.tuple #[clv Q.t Q.r a Q.es.length c, .nilIface]) ∧ w'.ownsRow w.heap.size 34 5 (.slice a Q.es.length c) Q.es.length (ecs Q.es) ∧ Kept [] w w'
/-- How Parse's loop stands. -/
structure Pl (w wr : World) (B p T : Nat) (L : List ByteArray) (i : Nat) (st : Int) (P Q : Ps) (v : Value) : Prop where
  run : RunOk P st (L.drop i) Q
  ps : PsA B wr p P v
  rb : wr.heap[T]? = some (.cells (L.map Value.string).toArray 9 (0, 0))
  lb : wr.heap[w.heap.size]? = some (.cells #[.string ⟨#[]⟩, .int .i64 0, .slice none 0 0] 26 (0, 0))
  hk : Kept [] w wr
  vs : Vs wr
  bb : B ≤ wr.heap.size
theorem Pl.next {w wr w5 w6 : World} {B p T : Nat} {L : List ByteArray} {i : Nat} {st st' : Int} {P P' Q : Ps} {v v' : Value} (h : Pl w wr B p T L i st P Q v) (k5 : Kept [] wr w5) (hb : Bx B p w5 w6) (hp : PsA B w6 p P' v') (hr : RunOk P' st' (L.drop (i + 1)) Q) (hT : T < B) (hTp : T ≠ p) (hw : w.heap.size < B) (hwp : w.heap.size < p) (hty : 6 ≤ w.heap.size) : Pl w w6 B p T L (i + 1) st' P' Q v' := by
  refine ⟨hr, hp, (hb.block T hT hTp).trans (k5.heap h.rb (by simp)), (hb.block _ hw (by omega)).trans (k5.heap h.lb (by simp)), ?_, (h.vs.keep k5).bx hb (by omega) (by omega), Nat.le_trans h.bb (Nat.le_trans k5.size hb.size)⟩
  have k := h.hk.trans k5
  exact ⟨hb.os.trans k.os, hb.tape.trans k.tape, hb.output.trans k.output, Nat.le_trans k.size hb.size, fun j hj hn => (hb.block j (by omega) (by omega)).trans (k.block j hj hn)⟩
set_option maxHeartbeats 16000000 in
set_option maxRecDepth 1000000 in
theorem Parse_ok (s : ByteArray) (Q : Ps) (w : World) (hs : s.size ≤ 20000) (hC : ctE s = none) (hR : RunOk ps0 0 (rows s) Q) (hQ : Q.bg = true) (hV : Vs w) (hty : 6 ≤ w.heap.size) : Calls Tryd.prog 5 #[.string s] w fun e w' => PaP Q w e w' := by
  obtain ⟨w1, e1⟩ : ∃ w1, w.alloc (.cells #[.string ⟨#[]⟩, .int .i64 0, .slice none 0 0] 26 (0, 0)) = w1 := ⟨_, rfl⟩
  have k1 : Kept [] w w1 := by rw [← e1]; exact alloc_kept _ _
  have b1 := heap_alloc_new w (.cells #[.string ⟨#[]⟩, .int .i64 0, .slice none 0 0] 26 (0, 0))
  rw [e1] at b1
  have CT := Hid.mk (checkText_any s w1 (by unfold maxLen; omega))
  unfold CtP at CT
  rw [hC] at CT
  have HB1 := Hid.mk b1
  have K1 := Hid.mk k1
  have HV1 := Hid.mk (hV.keep k1)
  have hz1 : w1.heap.size = w.heap.size + 1 := by rw [← e1]; simp
  have Z1 := Hid.mk hz1
  have CS := Hid.mk (fun u => split_nl s u (by omega))
  unfold nlB at CS
  generalize hrw : rows s = L at *
  obtain ⟨n, en⟩ : ∃ n, L.length = n := ⟨_, rfl⟩
  rw [en] at CS
  obtain ⟨Q0, Q1, Q2, Q3⟩ := Q
  simp only at hQ
  subst hQ
  have HR0 := Hid.mk hR
  have EN := Hid.mk en
  have hn20 : n ≤ 20001 := by
    have h9 : (rows s).length = Lib.countB s nlB + 1 := Lib.splitB_all nlB (by decide) 0 _ s rfl
    have h8 := Lib.countB_le nlB (by decide) s.size s (Nat.le_refl _)
    rw [hrw] at h9
    omega
  have hty9 := hty
  clear hV b1 k1 hC hR hz1 hrw en
  go_enter Tryd.func5, Tryd.ntmps5
  go_wp2_with (fail)
  refine CT.out.mono ?_
  rintro e w2 ⟨v2, rfl, h2, k2⟩
  obtain rfl : v2 = .nilIface := h2
  have b2 := k2.heap HB1.out (by simp)
  obtain ⟨w3, e3⟩ : ∃ w3, w2.alloc (.cells #[.string ⟨#[]⟩, .int .i64 0, .slice none 0 0, .bool false] 37 (0, 0)) = w3 := ⟨_, rfl⟩
  have k3 : Kept [] w2 w3 := by rw [← e3]; exact alloc_kept _ _
  have b3 := heap_alloc_new w2 (.cells #[.string ⟨#[]⟩, .int .i64 0, .slice none 0 0, .bool false] 37 (0, 0))
  have z3 : w3.heap.size = w2.heap.size + 1 := by rw [← e3]; simp
  rw [e3] at b3
  have CS3 := Hid.mk (CS.out w3)
  have H3 := Hid.mk (And.intro b3 (And.intro (k3.heap b2 (by simp)) (And.intro ((K1.out.trans k2).trans k3) (And.intro ((HV1.out.keep k2).keep k3) (And.intro z3 k2.size)))))
  clear k2 b2 k3 b3 z3 CT CS e1
  go_wp2_with (fail)
  refine CS3.out.mono ?_
  rintro e w4 ⟨rfl, hw4⟩
  have k4 : Kept [] w3 w4 := by rw [hw4]; exact alloc_kept _ _
  have b4 := heap_alloc_new w3 (.cells (L.map Value.string).toArray 9 (0, 0))
  have z4 : w4.heap.size = w3.heap.size + 1 := by rw [hw4]; simp
  rw [← hw4] at b4
  have H4 := Hid.mk (And.intro b4 (And.intro (k4.heap H3.out.1 (by simp)) (And.intro (k4.heap H3.out.2.1 (by simp)) (And.intro (H3.out.2.2.1.trans k4) (And.intro (H3.out.2.2.2.1.keep k4) z4)))))
  clear k4 b4 z4 hw4 CS3
  go_wp2_with (fail)
  have PL0 : Hid (Pl w w4 w4.heap.size w2.heap.size w3.heap.size L 0 0 ps0 ⟨Q0, Q1, Q2, true⟩ (.slice none 0 0)) := Hid.mk ⟨HR0.out, ⟨H4.out.2.1, ⟨by simp [ps0, ecs], .inl ⟨rfl, rfl⟩⟩⟩, H4.out.1, H4.out.2.2.1, H4.out.2.2.2.1, H4.out.2.2.2.2.1, Nat.le_refl _⟩
  have SZ : Hid (w4.heap.size = w2.heap.size + 2 ∧ w3.heap.size = w2.heap.size + 1 ∧ w.heap.size < w2.heap.size) := Hid.mk ⟨by have := H4.out.2.2.2.2.2; have := H3.out.2.2.2.2.1; omega, H3.out.2.2.2.2.1, by have := H3.out.2.2.2.2.2; have := Z1.out; omega⟩
  clear HR0 H4 H3 HV1 HB1 K1 Z1 e3
  generalize hBB : w4.heap.size = BB at *
  go_loopw [6, 8, 9, 19] (fun v6 _ _ v wr => ∃ (i : Nat) (st : Int) (P : Ps) (v' : Value), v = .int .i64 (i : Int) ∧ v6 = .int .i64 st ∧ i ≤ n ∧ Pl w wr BB w2.heap.size w3.heap.size L i st P ⟨Q0, Q1, Q2, true⟩ v') (fun _ _ _ v _ => n - (RowKit.intOf v).toNat)
  case atStart => exact ⟨0, 0, _, _, rfl, rfl, by omega, PL0.out⟩
  case round =>
    obtain ⟨i, st, P, v', rfl, rfl, hin, hPl⟩ := hrel
    clear PL0 hBB
    by_cases hlt : i < n
    · have hlt2 : (i : Int) < (n : Int) := by omega
      have hiL : i < L.length := by have := EN.out; omega
      have hr := hPl.run
      rw [List.drop_eq_getElem_cons hiL] at hr
      obtain ⟨hPk, hSz, s0, s1, hsz, P', hF, hr'⟩ := hr
      have hcell : wr.cell? ⟨w3.heap.size, i, none⟩ = some (.string L[i]) := by simp [World.cell?, hPl.rb, hiL]
      generalize hsi : L[i] = si at *
      have CSc := Hid.mk (scanLine_any si st wr hsz s0 s1)
      have HPl := Hid.mk hPl
      have HR' := Hid.mk hr'
      have HF' := Hid.mk hF
      have HS' := Hid.mk hSz
      have HK' := Hid.mk hPk
      have hsz2 : (si.size : Int) ≤ 50000 := by omega
      have hin2 : (i : Int) ≤ 20001 := by omega
      clear hr' hF hSz hPk hPl hsi
      go_wp2_with (fail)
      refine CSc.out.mono ?_
      rintro e w5 ⟨vw, rfl, h5, k5⟩
      obtain ⟨va, vc, evw, -⟩ := row_form2 h5
      subst evw
      have CTk := Hid.mk (takeLine_any BB w2.heap.size _ P v' va vc (lnW si st) (lnE si st) w5 (Nat.le_trans HPl.out.bb k5.size) (HPl.out.ps.keep k5) h5 (HPl.out.vs.keep k5) (by have := SZ.out; omega) (by have := SZ.out; omega) HS'.out HK'.out)
      rw [HF'.out] at CTk
      have K5 := Hid.mk k5
      clear h5 k5 CSc
      go_wp2_with (fail)
      refine CTk.out.mono ?_
      rintro e w6 ⟨v6, v7, rfl, h6, p6, b6⟩
      obtain rfl : v6 = .nilIface := h6
      have HN := Hid.mk (HPl.out.next K5.out b6 p6 HR'.out (by have := SZ.out; omega) (by have := SZ.out; omega) (by have := SZ.out; omega) SZ.out.2.2 hty9)
      clear p6 b6 CTk hcell
      go_wp2
      exact ⟨⟨i + 1, st + si.size + 1, P', v7, by simp, congrArg (Value.int .i64) (by omega), by omega, HN.out⟩, by simp [RowKit.intOf]; omega⟩
    · have hlt2 : ¬ (i : Int) < (n : Int) := by omega
      have hr := hPl.run
      rw [List.drop_eq_nil_of_le (by have := EN.out; omega)] at hr
      obtain rfl : P = ⟨Q0, Q1, Q2, true⟩ := hr
      obtain ⟨p0, p1, p2, p3⟩ := hPl.ps.cells
      obtain ⟨a9, c9, ev9, -⟩ := row_form2 hPl.ps.er
      subst ev9
      obtain ⟨l0, l1, l2⟩ := cut_cells hPl.lb
      have g0 := fzb hPl.lb 0
      have g1 := fzb hPl.lb 1
      have g2 := fzb hPl.lb 2
      simp only at p0 p1 p2 p3
      have HK9 : Hid (Kept [w.heap.size] wr (((wr.setCell ⟨w.heap.size, 0, none⟩ (.string Q0)).setCell ⟨w.heap.size, 1, none⟩ (.int .i64 Q1)).setCell ⟨w.heap.size, 2, none⟩ (.slice a9 Q2.length c9))) := Hid.mk (((kset wr w.heap.size 0 _).trans (kset _ w.heap.size 1 _)).trans (kset _ w.heap.size 2 _))
      have HPl := Hid.mk hPl
      clear hPl
      go_wp2
      refine bodyPost_ret (v := .tuple #[clv Q0 Q1 a9 Q2.length c9, .nilIface]) (by simp [results, Tryd.results5, go_sem, l0, l1, l2, clv]) rfl ⟨a9, c9, rfl, ?_, HPl.out.hk.step HK9.out (fun x hx => by simp at hx; omega)⟩
      exact own_down (HK9.out.row HPl.out.ps.er (fun g hg hm => own_ty HPl.out.lb (by decide) HPl.out.ps.er (by simp at hm; subst hm; simp [hg]))) (by have := SZ.out; omega)
end Go.Proofs.YtknkjhfemgiiaaaDoor
