import Derived.Test.YthhegomjipbdbaaGreatDoorzDZ
import Derived.Test.YthhegomjipbdbaaGreatDoorqP
import Derived.Test.YthhegomjipbdbaaGreatDoorpVZ
import Derived.Test.YthhegomjipbdbaaGreatDoorwA
namespace Go.Proofs.YthhegomjipbdbaaGreatDoor.Pc
open Go.RowKit

theorem ts4_lt (l : List Nat) : s4 l < 256 ^ 4 := by
  unfold s4
  exact (Cr.sm l).isLt
theorem tbP_at (L : List (List Nat)) (k : Nat) : ∀ j, k < j → ∃ a b, fds (tbP L j) = a ++ (big 4 (lnf L k) ++ b) ∧ a.length = 8 * k := by
  intro j
  induction j with
  | zero => intro h; omega
  | succ j ih =>
    intro h
    by_cases e : k = j
    · subst e
      exact ⟨fds (tbP L k), big 4 (s4 (L.getD k [])) ++ [], by rw [tbP, fds_app]; rfl, tbP_len L k⟩
    · obtain ⟨a, b, h1, h2⟩ := ih (by omega)
      exact ⟨a, b ++ fds [(lnf L j, 4), (s4 (L.getD j []), 4)], by rw [tbP, fds_app, h1]; simp only [List.append_assoc], h2⟩
/-- The length that a table tells of a payload. -/
theorem tb_len_at (L R : List (List Nat)) (t : List Nat) (k : Nat) (hk : k < L.length) (hl : lnf L k < 256 ^ 4) : nb (tbB L R ++ t) (8 * k) 4 = lnf L k := by
  obtain ⟨a, b, h1, h2⟩ := tbP_at L k L.length hk
  unfold tbB tbA
  rw [h1]
  simp only [List.append_assoc]
  exact nb_at a _ 4 _ _ h2 hl
theorem tbA_len (L R : List (List Nat)) : (tbA L R).length = 8 * L.length + 4 * R.length := by
  unfold tbA
  rw [List.length_append, tbP_len, tbR_len]
/-- A record's table tells what it must. -/
theorem tbok_rec (L R : List (List Nat)) (t : List Nat) (N p : Nat) (hN : L.length = N) (hp : R.length = p) (hl : ∀ k, k < N → lnf L k ≤ 16777215) : tbok (tbB L R ++ t) N p ((rcl (lnf L) N p : Nat) : Int) = true := by
  subst hN hp
  have hc : ∀ k, k < L.length → nb (tbB L R ++ t) (8 * k) 4 = lnf L k := fun k hk => tb_len_at L R t k hk (by have := hl k hk; omega)
  have h1 : mxl (fun k => nb (tbB L R ++ t) (8 * k) 4) L.length = mxl (lnf L) L.length := mxl_congr hc
  have h2 : sm (fun k => nb (tbB L R ++ t) (8 * k) 4) L.length = sm (lnf L) L.length := sm_congr hc
  have h3 : (tbB L R ++ t).take (8 * L.length + 4 * R.length) = tbA L R := by
    unfold tbB
    rw [List.append_assoc]
    exact List.take_left' (tbA_len L R)
  have h4 : nb (tbB L R ++ t) (8 * L.length + 4 * R.length) 4 = s4 (tbA L R) := by
    unfold tbB
    rw [List.append_assoc]
    exact nb_at _ _ 4 _ _ (tbA_len L R) (ts4_lt _)
  unfold tbok
  rw [h1, h3, h4]
  unfold rcl
  rw [h1, h2]
  simp only [Bool.and_eq_true, decide_eq_true_eq, and_true, true_and]
  exact ⟨by rw [List.length_append, tbB_len]; omega, mxl_le hl⟩
theorem enL_at (at0 : Nat) (ln su : Nat → Nat) (k : Nat) : ∀ n, k < n → (enL at0 ln su n)[k * 3]? = some (.int .i64 ((at0 + sm ln k : Nat) : Int)) ∧ (enL at0 ln su n)[k * 3 + 1]? = some (.int .i64 (ln k : Int)) := by
  intro n
  induction n with
  | zero => intro h; omega
  | succ n ih =>
    intro h
    have hl := enL_len at0 ln su n
    by_cases e : k = n
    · subst e
      rw [enL]
      constructor
      · rw [List.getElem?_append_right (by omega), hl, show k * 3 - k * 3 = 0 by omega]; rfl
      · rw [List.getElem?_append_right (by omega), hl, show k * 3 + 1 - k * 3 = 1 by omega]; rfl
    · obtain ⟨h1, h2⟩ := ih (by omega)
      rw [enL]
      exact ⟨by rw [List.getElem?_append_left (by omega)]; exact h1, by rw [List.getElem?_append_left (by omega)]; exact h2⟩
theorem tflat_len (L : List (List Nat)) (k : Nat) : ((L.take k).flatten).length = sm (lnf L) k := by
  induction k with
  | zero => rfl
  | succ k ih =>
    rw [List.take_add_one, List.flatten_append, List.length_append, ih]
    simp only [sm, lnf, List.getD_eq_getElem?_getD]
    cases L[k]? <;> simp
theorem flat_cut (L : List (List Nat)) (M : List Nat) (k : Nat) (hk : k < L.length) : ((L.flatten ++ M).drop (sm (lnf L) k)).take (lnf L k) = L.getD k [] := by
  have h1 : L.flatten = (L.take k).flatten ++ (L.getD k [] ++ (L.drop (k + 1)).flatten) := by
    conv => lhs; rw [← List.take_append_drop k L]
    rw [List.flatten_append, List.drop_eq_getElem_cons hk, List.flatten_cons, List.getD_eq_getElem?_getD, List.getElem?_eq_getElem hk]
    rfl
  rw [h1, List.append_assoc, List.append_assoc, ← tflat_len, List.drop_left]
  unfold lnf
  exact List.take_left' rfl
theorem sm_one {l : Nat → Nat} {n i : Nat} (h : i < n) : sm l i + l i ≤ sm l n := by
  induction n with
  | zero => omega
  | succ n ih =>
    simp only [sm]
    by_cases e : i = n
    · subst e; omega
    · have := ih (by omega); omega
/-- A payload within its record. -/
theorem rec_cut (W H D sw sh : Nat) (A : Bool) (r : Nat → Nat) (p N : Nat) (L R : List (List Nat)) (k : Nat) (hN : L.length = N) (hp : R.length = p) (hk : k < N) :
    ((recB W H D sw sh A r p L R).drop (36 + 8 * N + 4 * p + sm (lnf L) k)).take (lnf L k) = L.getD k [] := by
  subst hN hp
  unfold recB
  rw [← List.append_assoc, show 36 + 8 * L.length + 4 * R.length + sm (lnf L) k = (32 + (8 * L.length + 4 * R.length + 4)) + sm (lnf L) k by omega, ← List.drop_drop, List.drop_left' (by rw [List.length_append, hdB_len, tbB_len])]
  exact flat_cut L _ k hk
/-- How long a rung's record is. -/
theorem rcl_hi {W H D : Int} {A : Bool} {m : Nat} {ln : Nat → Nat} {F : Nat → Nat → Nat} {sw sh cap : Int} {n pn N : Nat} {L : Nat → Nat → Int} {X : Nat → Nat → Nat → Nat × Nat}
    (hv : Tl.Vld W H D A m ln F) (hc : Cfg W H D A sw sh n L cap (pn : Int)) (hN : N = (Tl.cl W sw * Tl.cl H sh).toNat) (hX : ∀ i, i < n → Cod W H D sw sh (Tl.cl W sw) N m F (L i) (X i)) {i : Nat} (hi : i < n) :
    36 ≤ rcl (lnf (psv N m (X i))) N pn ∧ rcl (lnf (psv N m (X i))) N pn ≤ 134217727 := by
  have g := hc.gd
  have hcr : 1 ≤ Tl.cl W sw * Tl.cl H sh ∧ Tl.cl W sw * Tl.cl H sh ≤ 65536 := by
    have h1 : 1 * 1 ≤ Tl.cl W sw * Tl.cl H sh := Int.mul_le_mul g.c0 g.r0 (by omega) (by have := g.c0; omega)
    have h2 : Tl.cl W sw * Tl.cl H sh ≤ 256 * 256 := Int.mul_le_mul g.c1 g.r1 (by have := g.r0; omega) (by omega)
    omega
  have hpm := hc.pr
  unfold pmb at hpm
  have hpm := of_decide_eq_true hpm
  have hld := lmb_yes.1 hc.ld
  have hrr : ∀ q, q < 4 → 0 ≤ L i q ∧ L i q ≤ 63 := fun q hq => rmb_tol (hld.2 i hi) hq
  have htot := hv.shp.2.2.2
  have hlen : ∀ k, k < N → (payL (X i k) m).length ≤ 6291476 := fun k hk => by
    have h1 := (pay_le hv g (by omega) hrr (hX i hi) hk).1
    have h2 := (pzs_le hv.shp g (k := k) (by omega)).2
    rw [hv.num] at h1 ⊢
    omega
  have hsm : 2 * (sm (lnf (psv N m (X i))) N : Int) ≤ 40 * (N : Int) + 3 * Tl.tot W H A := by
    have h1 := pzs_sum hv.shp g
    rw [← hN] at h1
    have h2 : (sm (lnf (psv N m (X i))) N : Int) ≤ sI (fun k => pzs W H D sw sh (Tl.cl W sw) (Tl.np A) k) N := by
      rw [sm_cast]
      refine sI_le (fun k hk => ?_)
      have h3 := (pay_le hv g (by omega) hrr (hX i hi) hk).1
      rw [hv.num] at h3
      unfold lnf
      rw [psv_at hk, hv.num]
      exact h3
    omega
  have hmx : mxl (lnf (psv N m (X i))) N ≤ 6291476 := mxl_le (fun k hk => by unfold lnf; rw [psv_at hk]; exact hlen k hk)
  have hpx : pn * mxl (lnf (psv N m (X i))) N ≤ 16 * 6291476 := Nat.mul_le_mul (by omega) hmx
  unfold rcl
  rcases hpm.2 with h0 | h0
  · have : pn = 0 := by omega
    subst this
    simp only [Nat.zero_mul]
    omega
  · omega
/-- A record's head may be. -/
theorem rgt_rec {W H D : Int} {A : Bool} {m : Nat} {ln : Nat → Nat} {F : Nat → Nat → Nat} {sw sh cap : Int} {n pn N : Nat} {L : Nat → Nat → Int} {X : Nat → Nat → Nat → Nat × Nat}
    (hv : Tl.Vld W H D A m ln F) (hc : Cfg W H D A sw sh n L cap (pn : Int)) (hN : N = (Tl.cl W sw * Tl.cl H sh).toNat) (hX : ∀ i, i < n → Cod W H D sw sh (Tl.cl W sw) N m F (L i) (X i)) {i : Nat} (hi : i < n) :
    rgt (W.toNat : Int) (H.toNat : Int) (D.toNat : Int) A (sw.toNat : Int) (sh.toNat : Int) (fun j => ((L i j).toNat : Int)) (N : Int) (pn : Int) ((rcl (lnf (psv N m (X i))) N pn : Nat) : Int) = true := by
  have eW : (W.toNat : Int) = W := Int.toNat_of_nonneg (by have := hv.shp.1.1; omega)
  have eH : (H.toNat : Int) = H := Int.toNat_of_nonneg (by have := hv.shp.2.1.1; omega)
  have eD : (D.toNat : Int) = D := Int.toNat_of_nonneg (by rcases hv.shp.2.2.1 with h | h <;> omega)
  have esw : (sw.toNat : Int) = sw := Int.toNat_of_nonneg (by have := hc.sd.1.1; omega)
  have esh : (sh.toNat : Int) = sh := Int.toNat_of_nonneg (by have := hc.sd.2.2.1; omega)
  have hld := (lmb_yes.1 hc.ld).2 i hi
  have er : ∀ j, j < 4 → ((L i j).toNat : Int) = L i j := fun j hj => Int.toNat_of_nonneg (rmb_tol hld hj).1
  have g := hc.gd
  have hcr0 : 0 ≤ Tl.cl W sw * Tl.cl H sh := Int.mul_nonneg (by have := g.c0; omega) (by have := g.r0; omega)
  have hNi : (N : Int) = Tl.cl W sw * Tl.cl H sh := by rw [hN]; omega
  have hpm := hc.pr
  rw [← hNi] at hpm
  have htop := (rcl_hi hv hc hN hX hi).2
  have hr : rmb (fun j => ((L i j).toNat : Int)) A = true := by
    unfold rmb at hld ⊢
    simp only [er 0 (by omega), er 1 (by omega), er 2 (by omega), er 3 (by omega)]
    exact hld
  unfold rgt
  rw [eW, eH, eD, esw, esh, hr, hpm, decide_eq_true hNi, decide_eq_true (nwE_ok hc.shp hc.sd)]
  simp only [Bool.true_and, Bool.and_eq_true, decide_eq_true_eq]
  refine ⟨?_, by omega⟩
  unfold rcl
  omega
end Go.Proofs.YthhegomjipbdbaaGreatDoor.Pc

namespace Go.Proofs.YthhegomjipbdbaaGreatDoor.Pc
open Go.RowKit

theorem tslice_lh (g off m cb a z : Nat) (h1 : a ≤ z) (h2 : z ≤ cb) (h3 : a < cb) (u : World) : Sem.run Tryz.prog (Instr.slice 28 (.slice (some ⟨g, off, none⟩) m cb) (some (.int .i64 (a : Int))) (some (.int .i64 (z : Int))) none) u = .ok (.slice (some ⟨g, off + a, none⟩) (z - a) (cb - a)) u := by
  have e : (sizeOf (Tryz.prog.elem 28)).run Tryz.prog u = .ok 1 u := by kernel_rfl
  rw [run_slice_lh (P := Tryz.prog) (w := u) 28 (some ⟨g, off, none⟩) m cb (by kernel_rfl) .i64 .i64 (a : Int) (z : Int) (by omega) (by omega) (by omega), e]
  have e2 : ¬ cb = a := by omega
  have e3 : (⟨g, off, none⟩ : Addr).add a = ⟨g, off + a, none⟩ := by unfold Addr.add; split <;> simp_all
  simp [sliced, e2, e3]
theorem tslice_l (g off m cb a : Nat) (h1 : a ≤ m) (h3 : a < cb) (u : World) : Sem.run Tryz.prog (Instr.slice 28 (.slice (some ⟨g, off, none⟩) m cb) (some (.int .i64 (a : Int))) none none) u = .ok (.slice (some ⟨g, off + a, none⟩) (m - a) (cb - a)) u := by
  have e : (sizeOf (Tryz.prog.elem 28)).run Tryz.prog u = .ok 1 u := by kernel_rfl
  rw [run_slice_l (P := Tryz.prog) (w := u) 28 (some ⟨g, off, none⟩) m cb (by kernel_rfl) .i64 (a : Int) (by omega) (by omega), e]
  have e2 : ¬ cb = a := by omega
  have e3 : (⟨g, off, none⟩ : Addr).add a = ⟨g, off + a, none⟩ := by unfold Addr.add; split <;> simp_all
  simp [sliced, e2, e3]
theorem trecB_len (W H D sw sh : Nat) (A : Bool) (r : Nat → Nat) (p : Nat) (L R : List (List Nat)) : (recB W H D sw sh A r p L R).length = 36 + 8 * L.length + 4 * R.length + (sm (lnf L) L.length + R.flatten.length) := by
  unfold recB
  rw [List.length_append, List.length_append, List.length_append, hdB_len, tbB_len, ← tflat_len, List.take_length]
  omega

set_option maxHeartbeats 16000000 in
set_option maxRecDepth 1000000 in
theorem tentry_any (W H D sw sh : Nat) (A : Bool) (r : Nat → Nat) (N p : Nat) (L R : List (List Nat)) (k g off m cap : Nat) (w : World)
    (hN : L.length = N) (hp : R.length = p) (hW : W < 65536) (hH : H < 65536) (hD : D < 256) (hsw : sw < 65536) (hsh : sh < 65536) (hr : ∀ i, i < 4 → r i < 256) (hN2 : N ≤ 70000) (hp2 : p ≤ 16) (hln : rcl (lnf L) N p ≤ 134217727)
    (hR : rgt (W : Int) (H : Int) (D : Int) A (sw : Int) (sh : Int) (fun i => (r i : Int)) (N : Int) (p : Int) ((rcl (lnf L) N p : Nat) : Int) = true) (hby : Byts (recB W H D sw sh A r p L R)) (hl : ∀ k, k < N → 1 ≤ lnf L k ∧ lnf L k ≤ 16777215) (hk : k < N)
    (hrd : Reads w (some ⟨g, off, none⟩) (recB W H D sw sh A r p L R)) (hm : (recB W H D sw sh A r p L R).length = m) (hm2 : m ≤ 134217727) (hc : m ≤ cap) (hcap : cap ≤ 9223372036854775807) :
    Calls Tryz.prog 19 #[.slice (some ⟨g, off, none⟩) m cap, .int .i64 (k : Int)] w fun e w' => ∃ a c, e = .returned (.tuple #[.slice (some ⟨g, a, none⟩) (lnf L k) c, .bool true]) ∧ Reads w' (some ⟨g, a, none⟩) (L.getD k []) ∧ Kept [] w w' := by
  have hlen := trecB_len W H D sw sh A r p L R
  rw [hN, hp, hm] at hlen
  have hone := sm_one (l := lnf L) (n := N) hk
  obtain ⟨at_, eat⟩ : ∃ z, 36 + 8 * N + 4 * p + sm (lnf L) k = z := ⟨_, rfl⟩
  obtain ⟨lk, elk⟩ : ∃ z, lnf L k = z := ⟨_, rfl⟩
  have hl1 := hl k hk
  rw [elk] at hone hl1 ⊢
  obtain ⟨z, ez⟩ : ∃ z, at_ + lk = z := ⟨_, rfl⟩
  have hzm : z ≤ m := by omega
  obtain ⟨t, et⟩ : ∃ t, t = tbB L R ++ (L.flatten ++ R.flatten) := ⟨_, rfl⟩
  have hrec : recB W H D sw sh A r p L R = hdB W H D sw sh A r N p (rcl (lnf L) N p) ++ t := by unfold recB; rw [hN, et]
  have hcut := rec_cut W H D sw sh A r p N L R k hN hp hk
  rw [eat, elk] at hcut
  have htl : 32 + t.length = m := by rw [← hm, hrec, List.length_append, hdB_len]
  have hbt : Byts t := fun b hb => hby b (by rw [hrec]; exact List.mem_append_right _ hb)
  have hrt : Reads w (some ⟨g, off + 32, none⟩) t := by
    have h9 := reads_cut hrd 32 (m - 32) (by omega)
    have e9 : ((recB W H D sw sh A r p L R).drop 32).take (m - 32) = t := by
      rw [hrec, List.drop_left' (hdB_len ..)]
      exact List.take_of_length_le (by omega)
    rw [e9] at h9
    exact h9
  have hrk : Reads w (some ⟨g, off + at_, none⟩) (L.getD k []) := by
    have h9 := reads_cut hrd at_ lk (by omega)
    rw [hcut] at h9
    exact h9
  have htb : tbok t N p ((rcl (lnf L) N p : Nat) : Int) = true := by rw [et]; exact tbok_rec L R _ N p hN hp (fun k hk => (hl k hk).2)
  have hte : ∀ i, i < N → teln t N i = lnf L i := fun i hi => by
    unfold teln
    rw [if_pos hi, et]
    exact tb_len_at L R _ i (by omega) (by have := (hl i hi).2; omega)
  have hsmt : sm (teln t N) k = sm (lnf L) k := sm_congr (fun i hi => hte i (by omega))
  obtain ⟨ln, eln⟩ : ∃ x, rcl (lnf L) N p = x := ⟨_, rfl⟩
  rw [eln] at hrec htb hR hln
  rw [hrec] at hrd
  have C1 := Hid.mk (head_of W H D sw sh A r N p ln t hW hH hD hsw hsh hr (by omega) (by omega) (by omega) hR hbt g off cap m w hrd htl hc (by omega))
  have C2 := Hid.mk (fun u (ku : Kept [] w u) => table_any (W : Int) (H : Int) (D : Int) A (sw : Int) (sh : Int) (fun i => (r i : Int)) (N : Int) (p : Int) (ln : Int) (some ⟨g, off + 32, none⟩) (m - 32) (cap - 32) t u (hrt.keep ku) hbt (by omega) (by omega) (by omega) (by omega) (by omega))
  rw [hR] at C2
  simp only [Int.toNat_natCast] at C2
  have e1 : tbE true t N p (ln : Int) = 0 := by unfold tbE; rw [if_pos rfl, if_pos htb]
  have e2 : tbN true t N p (ln : Int) = N + p := by unfold tbN; rw [htb]; rfl
  have e3 : tbX true t N p (ln : Int) = enL (36 + 8 * N + 4 * p) (teln t N) (tesu t N) (N + p) := by unfold tbX; rw [htb]; rfl
  rw [e1, e2, e3] at C2
  obtain ⟨a1, a2⟩ := enL_at (36 + 8 * N + 4 * p) (teln t N) (tesu t N) k (N + p) (by omega)
  rw [hsmt, eat] at a1
  rw [hte k hk, elk] at a2
  have HE := Hid.mk (And.intro a1 a2)
  obtain ⟨xs, exs⟩ : ∃ xs, enL (36 + 8 * N + 4 * p) (teln t N) (tesu t N) (N + p) = xs := ⟨_, rfl⟩
  rw [exs] at C2 HE
  obtain ⟨M, eM⟩ : ∃ M, N + p = M := ⟨_, rfl⟩
  rw [eM] at C2
  have S1 : ∀ u, Sem.run Tryz.prog (Instr.slice 28 (.slice (some ⟨g, off, none⟩) m cap) (some (.int .i64 32)) none none) u = .ok (.slice (some ⟨g, off + 32, none⟩) (m - 32) (cap - 32)) u := fun u => tslice_l g off m cap 32 (by omega) (by omega) u
  have S2 := fun u => tslice_lh g off m cap at_ z (by omega) (by omega) (by omega) u
  rw [show z - at_ = lk by omega] at S2
  obtain ⟨mt, emt⟩ : ∃ x, m - 32 = x := ⟨_, rfl⟩
  obtain ⟨ct, ect⟩ : ∃ x, cap - 32 = x := ⟨_, rfl⟩
  obtain ⟨ck, eck⟩ : ∃ x, cap - at_ = x := ⟨_, rfl⟩
  obtain ⟨o1, eo1⟩ : ∃ x, off + 32 = x := ⟨_, rfl⟩
  obtain ⟨o2, eo2⟩ : ∃ x, off + at_ = x := ⟨_, rfl⟩
  rw [emt, ect, eo1] at S1 C2
  rw [eck, eo2] at S2
  rw [eo2] at hrk
  have HRK := Hid.mk hrk
  obtain ⟨r0, er0⟩ : ∃ x, r 0 = x := ⟨_, rfl⟩
  obtain ⟨r1, er1⟩ : ∃ x, r 1 = x := ⟨_, rfl⟩
  obtain ⟨r2, er2⟩ : ∃ x, r 2 = x := ⟨_, rfl⟩
  obtain ⟨r3, er3⟩ : ∃ x, r 3 = x := ⟨_, rfl⟩
  have e9 : hvv (W : Int) (H : Int) (D : Int) A (sw : Int) (sh : Int) (fun i => (r i : Int)) (N : Int) (p : Int) (ln : Int) = .agg #[.int .i64 (W : Int), .int .i64 (H : Int), .int .i64 (D : Int), .bool A, .int .i64 (sw : Int), .int .i64 (sh : Int), .int .i64 (r0 : Int), .int .i64 (r1 : Int), .int .i64 (r2 : Int), .int .i64 (r3 : Int), .int .i64 (N : Int), .int .i64 (p : Int), .int .i64 (ln : Int)] := by unfold hvv; simp only [er0, er1, er2, er3]
  rw [e9] at C1 C2
  have hm44 : 32 ≤ m := by omega
  have i1 : decide ((m : Int) < 32) = false := decide_eq_false (by omega)
  have i1' : ¬ (m : Int) < 32 := by omega
  have i1n : ¬ m < 32 := by omega
  have i2 : decide ((k : Int) < 0) = false := decide_eq_false (by omega)
  have i3 : decide ((M : Int) ≤ (k : Int)) = false := decide_eq_false (by omega)
  have i3' : (k : Int) < (M : Int) := by omega
  have i3n : ¬ M ≤ k := by omega
  have i4 : decide ((at_ : Int) < 0) = false := decide_eq_false (by omega)
  have i5 : decide ((lk : Int) < 0) = false := decide_eq_false (by omega)
  obtain ⟨y, ey⟩ : ∃ y, m - lk = y := ⟨_, rfl⟩
  have i6 : decide ((y : Int) < (at_ : Int)) = false := decide_eq_false (by omega)
  have i6' : ¬ (y : Int) < (at_ : Int) := by omega
  have i6n : ¬ y < at_ := by omega
  obtain ⟨B, eB⟩ : ∃ B, w.heap.size = B := ⟨_, rfl⟩
  have HM0 : Hid (0 < M) := Hid.mk (by omega)
  have p1 : (m : Int) - (lk : Int) = (y : Int) := by omega
  have p2 : (at_ : Int) + (lk : Int) = (z : Int) := by omega
  have bp1 : y ≤ 9000000000000000000 := by omega
  have bp2 : z ≤ 9000000000000000000 := by omega
  have v1 := w64n p1 bp1
  have v2 := win p1 bp1
  have v3 := w64n p2 bp2
  have v4 := win p2 bp2
  clear p1 p2 bp1 bp2
  clear elk hlen hone hl1 hzm hcut htl hbt hrt hrk htb hte hsmt hR hrd e1 e2 e3 e9 er0 er1 er2 er3 emt ect eck eo1 eo2 eM exs eat ez ey hm44 eln hrec et hby hl hm hm2 hc hcap hr hln hW hH hD hsw hsh hN hp hN2 hp2 hk a1 a2
  go_enter Tryz.func19, Tryz.ntmps19
  go_wp2_with (fail)
  refine C1.out.mono ?_
  rintro e w2 ⟨rfl, hk2⟩
  obtain ⟨w3, e3⟩ : ∃ w3, w2.alloc (.cells #[.int .i64 (W : Int), .int .i64 (H : Int), .int .i64 (D : Int), .bool A, .int .i64 (sw : Int), .int .i64 (sh : Int), .int .i64 (r0 : Int), .int .i64 (r1 : Int), .int .i64 (r2 : Int), .int .i64 (r3 : Int), .int .i64 (N : Int), .int .i64 (p : Int), .int .i64 (ln : Int)] 27 (0, 0)) = w3 := ⟨_, rfl⟩
  obtain ⟨QB, eQB⟩ : ∃ QB, w2.heap.size = QB := ⟨_, rfl⟩
  have k3 : Kept [] w2 w3 := by rw [← e3]; exact (Kept.refl [] w2).alloc _
  have HB := Hid.mk (show w3.heap[QB]? = some (.cells #[.int .i64 (W : Int), .int .i64 (H : Int), .int .i64 (D : Int), .bool A, .int .i64 (sw : Int), .int .i64 (sh : Int), .int .i64 (r0 : Int), .int .i64 (r1 : Int), .int .i64 (r2 : Int), .int .i64 (r3 : Int), .int .i64 (N : Int), .int .i64 (p : Int), .int .i64 (ln : Int)] 27 (0, 0)) by rw [← e3, ← eQB]; exact heap_alloc_new _ _)
  have K3 := Hid.mk (hk2.trans k3)
  have C3 := Hid.mk (fun u (ku : Kept [] w3 u) => C2.out u (K3.out.trans ku))
  obtain ⟨h0, h1, h2, h3, h4, h5, h6, h7, h8, h9, h10, h11, h12⟩ := cel13 HB.out
  clear hk2 k3 eB
  go_wp2_with (fail)
  clear e3 eQB
  go_region_held_law (fun u => u.cell? ⟨QB, 0, none⟩ = some (.int .i64 (W : Int)) ∧ u.cell? ⟨QB, 1, none⟩ = some (.int .i64 (H : Int)) ∧ u.cell? ⟨QB, 2, none⟩ = some (.int .i64 (D : Int)) ∧ u.cell? ⟨QB, 3, none⟩ = some (.bool A) ∧ u.cell? ⟨QB, 4, none⟩ = some (.int .i64 (sw : Int)) ∧ u.cell? ⟨QB, 5, none⟩ = some (.int .i64 (sh : Int)) ∧ u.cell? ⟨QB, 6, none⟩ = some (.int .i64 (r0 : Int)) ∧ u.cell? ⟨QB, 7, none⟩ = some (.int .i64 (r1 : Int)) ∧ u.cell? ⟨QB, 8, none⟩ = some (.int .i64 (r2 : Int)) ∧ u.cell? ⟨QB, 9, none⟩ = some (.int .i64 (r3 : Int)) ∧ u.cell? ⟨QB, 10, none⟩ = some (.int .i64 (N : Int)) ∧ u.cell? ⟨QB, 11, none⟩ = some (.int .i64 (p : Int)) ∧ u.cell? ⟨QB, 12, none⟩ = some (.int .i64 (ln : Int))) (first | exact ⟨h0, h1, h2, h3, h4, h5, h6, h7, h8, h9, h10, h11, h12⟩ | exact s5 | go_keep) ((go_at_call 7; refine (C3.out _ ((Kept.refl _ _).drew)).mono ?_; rintro e w4 ⟨V4, rfl, hO4, hk4⟩; have s5 := cel13 ((hk4.undrew).heap HB.out (by simp))))
  have K4 := Hid.mk (K3.out.trans hk4.undrew)
  obtain ⟨eg, ec, rfl, hb, hcel⟩ := own_some3 hO4 HM0.out
  have d0 := hcel _ _ HE.out.1
  have d1 := hcel _ _ HE.out.2
  clear h0 h1 h2 h3 h4 h5 h6 h7 h8 h9 h10 h11 h12 s5 hO4 hk4 hb hcel HB C2 C1 C3
  go_wp2_with (fail)
  go_quiet (fail)
  go_wp2_with (fail)
  go_quiet (fail)
  go_wp2
  go_ret2
  exact ⟨o2, ck, rfl, HRK.out.keep ((K4.out.drewN _).drewN _), (K4.out.drewN _).drewN _⟩
end Go.Proofs.YthhegomjipbdbaaGreatDoor.Pc
