import Derived.Test.YtbhhkcgicajlcaaGreatDooryG2Z
namespace Go.Proofs.YtbhhkcgicajlcaaGreatDoor.Py
open Go.RowKit

/-- A list of rows: where each lies, how long it is. -/
def Rv (w : World) (ao : Option Addr) (N : Nat) (bo : Nat → Option Addr) (ln cp : Nat → Nat) : Prop :=
  N = 0 ∨ ∃ g off, ao = some ⟨g, off, none⟩ ∧ ∀ j, j < N → w.cell? ⟨g, off + j, none⟩ = some (.slice (bo j) (ln j) (cp j))

/-- A flat row, to a part of which sums of products are added. -/
def asm (Z : Nat → Nat) (o n N : Nat) (f : Nat → Nat) (L : Nat → List Nat) : Nat → Nat := fun q => if o ≤ q ∧ q < o + n then Z q ^^^ sm (fun j => mu (f j) ((L j).getD (q - o) 0)) N else Z q
theorem asm_zero (Z : Nat → Nat) (o n : Nat) (f : Nat → Nat) (L : Nat → List Nat) : asm Z o n 0 f L = Z := by
  funext q
  unfold asm
  split
  · exact Nat.xor_zero _
  · rfl
theorem asm_next (Z : Nat → Nat) (o n k : Nat) (f : Nat → Nat) (L : Nat → List Nat) : adm (asm Z o n k f L) o n (f k) (L k) = asm Z o n (k + 1) f L := by
  funext q
  unfold adm asm
  by_cases h : o ≤ q ∧ q < o + n
  · simp only [if_pos h, sm, Nat.xor_assoc]
  · simp only [if_neg h]
theorem asm_out (Z : Nat → Nat) (o n N : Nat) (f : Nat → Nat) (L : Nat → List Nat) (q : Nat) (h : ¬ (o ≤ q ∧ q < o + n)) : asm Z o n N f L q = Z q := if_neg h
theorem asm_lo {Z : Nat → Nat} (h : ∀ q, Z q < 256) (o n N : Nat) (f : Nat → Nat) (L : Nat → List Nat) : ∀ q, asm Z o n N f L q < 256 := by
  intro q
  unfold asm
  split
  · exact xor_lt (h q) (sm_lt _ _ (fun _ _ => mu_lt _ _))
  · exact h q

theorem row_cell_is {w : World} {b T q : Nat} {Z : Nat → Nat} {u : Value} (h : Row w b (rg Z T)) (hc : w.cell? ⟨b, q, none⟩ = some u) : q < T := by
  unfold Row at h
  rcases Nat.lt_or_ge q T with h1 | h1
  · exact h1
  · simp [World.cell?, h, rg_length, h1] at hc

theorem _root_.Go.Proofs.YtbhhkcgicajlcaaGreatDoor.Reads.through {w w' : World} {bo : Option Addr} {l : List Nat} {b o n T : Nat} {Z Z' : Nat → Nat} (h : Reads w bo l) (hr : Row w b (rg Z T)) (hr' : Row w' b (rg Z' T)) (hZ : ∀ q, ¬ (o ≤ q ∧ q < o + n) → Z' q = Z q) (hk : Kept [b] w w') (ha : Apt bo l.length b o n) : Reads w' bo l := by
  rcases h with h | ⟨g, off, rfl, hc⟩
  · exact .inl h
  · refine .inr ⟨g, off, rfl, fun i hi => ?_⟩
    have h1 := hc i hi
    by_cases e : g = b
    · subst e
      have hq := row_cell_is hr h1
      have h2 := hr.at (j := off + i) (by rw [rg_length]; exact hq)
      have h3 := hr'.at (j := off + i) (by rw [rg_length]; exact hq)
      rw [rg_getD _ _ _ hq] at h2 h3
      rw [h3, hZ (off + i) (by rcases ha (by omega) g off rfl with h | h | h; exact absurd rfl h; omega; omega), ← h2]
      exact h1
    · exact cell_keep hk h1 (by simpa using e)

set_option maxHeartbeats 2000000 in
set_option maxRecDepth 1000000 in
theorem addSum_any (b o n cap T nf cf N ca : Nat) (fo ao : Option Addr) (bo : Nat → Option Addr) (cp : Nat → Nat) (Z : Nat → Nat) (lf : List Nat) (L : Nat → List Nat) (w : World) (hr : Row w b (rg Z T)) (hoT : o + n ≤ T) (hZ : ∀ q, Z q < 256)
    (hlf : Byts lf) (hnf : lf.length = nf) (hN : N ≤ nf) (hrf : Reads w fo lf) (hfb : 0 < nf → ∀ g off, fo = some ⟨g, off, none⟩ → g ≠ b)
    (hv : Rv w ao N bo (fun j => (L j).length) cp) (hab : 0 < N → ∀ g off, ao = some ⟨g, off, none⟩ → g ≠ b) (hL : ∀ j, j < N → Byts (L j) ∧ (L j).length ≤ cp j ∧ (L j).length ≤ 140737488355328)
    (hR : ∀ j, j < N → lf.getD j 0 ≠ 0 → Reads w (bo j) (L j) ∧ Apt (bo j) (L j).length b o n) (hn : n ≤ 140737488355328) (hNl : N ≤ 140737488355328) :
    Calls Tryz.prog 91 #[.slice (some ⟨b, o, none⟩) n cap, .slice fo nf cf, .slice ao N ca] w fun e w' => e = .returned (.tuple #[]) ∧ Row w' b (rg (asm Z o n N (fun j => lf.getD j 0) L) T) ∧ Kept [b] w w' := by
  have Hr := Hid.mk hr
  have Hlf := Hid.mk hlf
  have Hnf := Hid.mk hnf
  have Hrf := Hid.mk hrf
  have Hfb := Hid.mk hfb
  have Hv := Hid.mk hv
  have Hab := Hid.mk hab
  have HL := Hid.mk hL
  have HR := Hid.mk hR
  have HZ := Hid.mk hZ
  clear hr hlf hnf hrf hfb hv hab hL hR hZ
  go_enter Tryz.func91, Tryz.ntmps91
  go_wp2
  go_loopw [10] (fun i wr => ∃ k : Nat, k ≤ N ∧ i = .int .i64 (k : Int) ∧ Row wr b (rg (asm Z o n k (fun j => lf.getD j 0) L) T) ∧ Kept [b] w wr) (fun i _ => N - (intOf i).toNat)
  case atStart => exact ⟨0, by omega, rfl, by rw [asm_zero]; exact Hr.out, Kept.refl _ _⟩
  case round =>
    obtain ⟨k, hk, rfl, hrow, hkr⟩ := hrel
    by_cases hlt : k < N
    · obtain ⟨gf, of_, hgf, hcf⟩ := (Hrf.out.kept hkr (fun g off e => by simpa using Hfb.out (by omega) g off e)).cell (j := k) (by rw [Hnf.out]; omega)
      obtain ⟨ga, oa, hga, hca⟩ : ∃ g off, ao = some ⟨g, off, none⟩ ∧ wr.cell? ⟨g, off + k, none⟩ = some (.slice (bo k) (L k).length (cp k)) := by
        rcases Hv.out with h | ⟨g, off, h, hc⟩
        · omega
        · exact ⟨g, off, h, cell_keep hkr (hc k hlt) (by simpa using Hab.out (by omega) g off h)⟩
      have Hc := Hid.mk (fun w' (e : w' = wr) => padd_any b o n cap (lf.getD k 0) (L k).length (cp k) T (bo k) (asm Z o n k (fun j => lf.getD j 0) L) (L k) (getD_lt _ _ Hlf.out) w' (by rw [e]; exact hrow) hoT (asm_lo HZ.out _ _ _ _ _) (HL.out k hlt).1 rfl (fun hf => by rw [e]; exact (HR.out k hlt hf).1.through Hr.out hrow (fun q hq => asm_out _ _ _ _ _ _ q hq) hkr (HR.out k hlt hf).2) (HL.out k hlt).2.1 (fun hf => (HR.out k hlt hf).2) hn (HL.out k hlt).2.2)
      rw [asm_next Z o n k (fun j => lf.getD j 0) L] at Hc
      have Hkr := Hid.mk hkr
      clear hrow hkr
      obtain ⟨y, e⟩ : ∃ y, y = lf.getD k 0 := ⟨_, rfl⟩
      rw [← e] at hcf Hc
      clear e
      obtain ⟨m, e⟩ : ∃ m, m = (L k).length := ⟨_, rfl⟩
      rw [← e] at hca Hc
      clear e
      obtain ⟨bk, e⟩ : ∃ bk, bk = bo k := ⟨_, rfl⟩
      rw [← e] at hca Hc
      clear e
      obtain ⟨ck, e⟩ : ∃ ck, ck = cp k := ⟨_, rfl⟩
      rw [← e] at hca Hc
      clear e
      subst hgf hga
      have ix : (k : Int) < (N : Int) := by omega
      have ixf : (k : Int) < (nf : Int) := by omega
      go_wp2_with (go_at_call 111; refine (Hc.out _ rfl).mono ?_; rintro e w1 ⟨rfl, hrow, hk1⟩)
      exact ⟨⟨k + 1, by omega, by go_num, hrow, Hkr.out.trans hk1⟩, by simp [intOf]; omega⟩
    · obtain rfl : N = k := by omega
      have Hrow := Hid.mk hrow
      have Hkr := Hid.mk hkr
      clear hrow hkr
      go_wp2
      go_end0
      exact ⟨rfl, Hrow.out, Hkr.out⟩
end Go.Proofs.YtbhhkcgicajlcaaGreatDoor.Py

namespace Go.Proofs.YtbhhkcgicajlcaaGreatDoor.Py
open Go.RowKit

theorem sixteen {P : Nat → Prop} (h0 : P 0) (h1 : P 1) (h2 : P 2) (h3 : P 3) (h4 : P 4) (h5 : P 5) (h6 : P 6) (h7 : P 7) (h8 : P 8) (h9 : P 9) (h10 : P 10) (h11 : P 11) (h12 : P 12) (h13 : P 13) (h14 : P 14) (h15 : P 15) (h16 : P 16) (p : Nat) (hp : p ≤ 16) : P p := by
  have h : p = 0 ∨ p = 1 ∨ p = 2 ∨ p = 3 ∨ p = 4 ∨ p = 5 ∨ p = 6 ∨ p = 7 ∨ p = 8 ∨ p = 9 ∨ p = 10 ∨ p = 11 ∨ p = 12 ∨ p = 13 ∨ p = 14 ∨ p = 15 ∨ p = 16 := by omega
  rcases h with rfl | rfl | rfl | rfl | rfl | rfl | rfl | rfl | rfl | rfl | rfl | rfl | rfl | rfl | rfl | rfl | rfl <;> assumption

set_option maxHeartbeats 4000000 in
set_option maxRecDepth 1000000 in
theorem mul64_any (p : Nat) (hp : p ≤ 16) (w : World) :
    Calls Tryz.prog 127 #[.int .u64 1, .int .u64 (p : Int)] w fun e w' => e = .returned (.tuple #[.int .u64 0, .int .u64 (p : Int)]) ∧ w' = w := by
  have b1 : bits BinOp.and IntKind.u64 1 4294967295 = 1 := by decide +kernel
  have b0 : bits BinOp.and IntKind.u64 0 4294967295 = 0 := by decide +kernel
  have bp : bits BinOp.and IntKind.u64 (p : Int) 4294967295 = (p : Int) := sixteen (P := fun p : Nat => bits BinOp.and IntKind.u64 (p : Int) 4294967295 = (p : Int)) (by decide +kernel) (by decide +kernel) (by decide +kernel) (by decide +kernel) (by decide +kernel) (by decide +kernel) (by decide +kernel) (by decide +kernel) (by decide +kernel) (by decide +kernel) (by decide +kernel) (by decide +kernel) (by decide +kernel) (by decide +kernel) (by decide +kernel) (by decide +kernel) (by decide +kernel) p hp
  have d1 : (p : Int) / 4294967296 = 0 := by omega
  go_enter Tryz.func127, Tryz.ntmps127
  go_wp2
  go_ret2
  exact ⟨rfl, rfl⟩

set_option maxHeartbeats 4000000 in
set_option maxRecDepth 1000000 in
theorem bmul_any (p : Nat) (hp : p ≤ 16) (w : World) :
    Calls Tryz.prog 109 #[.int .u64 1, .int .u64 (p : Int)] w fun e w' => e = .returned (.tuple #[.int .u64 0, .int .u64 (p : Int)]) ∧ w' = w := by
  have C := Hid.mk (mul64_any p hp)
  go_enter Tryz.func109, Tryz.ntmps109
  go_wp2_with (go_at_call 127; refine (C.out _).mono ?_; rintro e w' ⟨rfl, hw⟩; obtain rfl := hw.symm)
  go_ret2
  exact ⟨rfl, rfl⟩

/-- A list of numbers that is read. -/
def RdI (w : World) (ao : Option Addr) (f : Nat → Int) (n : Nat) : Prop := n = 0 ∨ ∃ g off, ao = some ⟨g, off, none⟩ ∧ ∀ i, i < n → w.cell? ⟨g, off + i, none⟩ = some (.int .i64 (f i))
theorem RdI.kept {w w' : World} {ao : Option Addr} {f : Nat → Int} {n : Nat} {ks : List Nat} (h : RdI w ao f n) (hk : Kept ks w w') (hn : ∀ g off, ao = some ⟨g, off, none⟩ → g ∉ ks) : RdI w' ao f n := by
  rcases h with h | ⟨g, off, e, hc⟩
  · exact .inl h
  · exact .inr ⟨g, off, e, fun i hi => cell_keep hk (hc i hi) (hn g off e)⟩
theorem RdI.keep {w w' : World} {ao : Option Addr} {f : Nat → Int} {n : Nat} (h : RdI w ao f n) (hk : Kept [] w w') : RdI w' ao f n := h.kept hk (by simp)
theorem RdI.at {w : World} {ao : Option Addr} {f : Nat → Int} {n : Nat} (h : RdI w ao f n) {i : Nat} (hi : i < n) : ∃ g off, ao = some ⟨g, off, none⟩ ∧ w.cell? ⟨g, off + i, none⟩ = some (.int .i64 (f i)) := by
  rcases h with h | ⟨g, off, e, hc⟩
  · omega
  · exact ⟨g, off, e, hc i hi⟩

theorem Tryz.infoI : (Tryz.prog.info? 3).map (fun i => (i.zero, i.size, i.bytes)) = some (some (.int .i64 0), 1, 8) := by kernel_rfl

/-- Numbers of which n are W, the rest nought. -/
def repC (W : Int) (n p : Nat) : List Value := List.replicate n (.int .i64 W) ++ List.replicate (p - n) (.int .i64 0)

theorem madeInts (n : Nat) : (madeCells (Value.int .i64 0).cells (n * 1)).toList = List.replicate n (.int .i64 0) := by
  rw [Nat.mul_one]; exact toList_madeCells_one _ _
theorem repC_length (W : Int) (n p : Nat) (h : n ≤ p) : (repC W n p).length = p := by simp only [repC, List.length_append, List.length_replicate]; omega
theorem repC_at (W : Int) (n p i : Nat) (h : i < n) : (repC W n p)[i]? = some (.int .i64 W) := by
  unfold repC
  rw [List.getElem?_append_left (by simpa using h), List.getElem?_replicate, if_pos h]
theorem repC_zero (W : Int) (p : Nat) : List.replicate p (Value.int .i64 0) = repC W 0 p := by simp [repC]
theorem repC_next (W : Int) (n p k : Nat) : (repC W n p).take n ++ List.replicate k (Value.int .i64 W) ++ (repC W n p).drop (n + k) = repC W (n + k) p := by
  unfold repC
  rw [List.take_append_of_le_length (by simp), List.take_of_length_le (by simp), List.drop_append, List.drop_of_length_le (by simp)]
  simp [← List.replicate_append_replicate, Nat.sub_sub]

theorem icopy (w : World) (g o dLen dCap sg so sLen sCap : Nat) (W : Int) (cur : List Value) (k : Nat) (hk : k = min sLen dLen) (hg : w.heap[g]? = some (.cells cur.toArray 3 (0, 0))) (hs : ∀ j, j < k → w.cell? ⟨sg, so + j, none⟩ = some (.int .i64 W)) (hf : o + k ≤ cur.length) :
    ∃ w2, Sem.run Tryz.prog (Builtin.copy_ #[117, 117] 3 #[.slice (some ⟨g, o, none⟩) dLen dCap, .slice (some ⟨sg, so, none⟩) sLen sCap]) w = .ok (.int .i64 (k : Int)) w2 ∧ w2.heap[g]? = some (.cells (cur.take o ++ List.replicate k (Value.int .i64 W) ++ cur.drop (o + k)).toArray 3 (0, 0)) ∧ Kept [g] w w2 := by
  obtain ⟨i0, hi, hz0, hz1, hz2⟩ := info_parts Tryz.infoI
  have hsz : (Tryz.prog.info? 3).map (·.size) = some 1 := by rw [hi]; simp [hz1]
  have h := run_copy_row (P := Tryz.prog) w 117 117 3 3 g o dLen dCap ⟨sg, so, none⟩ sLen sCap cur.toArray 3 (List.replicate k (.int .i64 W)) Tryz.underlying117 hsz hg (by rw [List.length_replicate]; exact hk) (fun j v hv => by
    have hj : j < k := by
      rcases Nat.lt_or_ge j k with h | h
      · exact h
      · rw [List.getElem?_eq_none (by simpa using h)] at hv; cases hv
    rw [List.getElem?_replicate, if_pos hj] at hv
    cases hv
    have hadd : (⟨sg, so, none⟩ : Addr).add j = ⟨sg, so + j, none⟩ := by unfold Addr.add; split <;> simp_all
    rw [hadd]
    exact hs j hj) (by simpa using hf) (fun v hv => by rw [List.eq_of_mem_replicate hv]; rfl)
  rw [List.length_replicate] at h
  refine ⟨_, h, ?_, setRow_kept _ _ _⟩
  exact setRow_heap w g _ _ 3 _ hg

set_option maxHeartbeats 4000000 in
set_option maxRecDepth 1000000 in
theorem repeat_any (xg xo cx p : Nat) (W : Int) (hp : p ≤ 16) (w : World) (hx : w.cell? ⟨xg, xo, none⟩ = some (.int .i64 W)) :
    Calls Tryz.prog 89 #[.slice (some ⟨xg, xo, none⟩) 1 cx, .int .i64 (p : Int)] w fun e w' => ∃ g, e = .returned (.slice (some ⟨g, 0, none⟩) p p) ∧ RdI w' (some ⟨g, 0, none⟩) (fun _ => W) p ∧ w.heap.size ≤ g ∧ Kept [] w w' := by
  obtain ⟨i0, hi, hz0, hz1, hz2⟩ := info_parts Tryz.infoI
  have C := Hid.mk (bmul_any p hp)
  have HH : Hid (∀ w2, w2.ownsRow 0 3 1 (.slice (some ⟨w.heap.size, 0, none⟩) p p) p (madeCells (Value.int .i64 0).cells (p * 1)).toList → w.grownBy w2 none →
      ∃ w3, Sem.run Tryz.prog (Builtin.copy_ #[117, 117] 3 #[.slice (some ⟨w.heap.size, 0, none⟩) p p, .slice (some ⟨xg, xo, none⟩) 1 cx]) w2 = .ok (.int .i64 ((min 1 p : Nat) : Int)) w3 ∧ w3.heap[w.heap.size]? = some (.cells (repC W (min 1 p) p).toArray 3 (0, 0)) ∧ Kept [] w w3) := Hid.mk (by
    intro w2 ho2 hg2
    have hk2 := Kept.of_grown hg2
    have hr2 := row_heap ho2 rfl
    rw [madeInts, repC_zero W] at hr2
    have hx2 := cell_keep hk2 hx (by simp)
    obtain ⟨w3, hc3, hr3, hk3⟩ := icopy w2 w.heap.size 0 p p xg xo 1 cx W _ (min 1 p) rfl hr2 (fun j hj => by
      have : j = 0 := by omega
      subst this; exact hx2) (by rw [repC_length _ _ _ (by omega)]; omega)
    rw [repC_next W 0 p _, Nat.zero_add] at hr3
    exact ⟨w3, hc3, hr3, (hk2.mono (by simp)).step hk3 (l := []) (fun x hx => by simp at hx; right; omega)⟩)
  clear hx
  have Hn : Hid (min 1 p ≤ p ∧ (p = 0 ∨ 0 < min 1 p)) := Hid.mk (by omega)
  obtain ⟨n0, hn0⟩ : ∃ n0, n0 = min 1 p := ⟨_, rfl⟩
  rw [← hn0] at HH Hn
  clear hn0
  go_enter Tryz.func89, Tryz.ntmps89
  go_wp2_with (first | (go_at_call 109; refine (C.out _).mono ?_; rintro e w' ⟨rfl, hw⟩; obtain rfl := hw.symm) | (at_make; refine wpList_make_full _ rfl _ _ 117 rfl 0 3 i0 (.int .i64 0) 1 Tryz.underlying117 hi hz0 hz1 _ _ _ _ p rfl rfl (by omega) (by omega) (by rw [hz2]; omega) (by unfold maxLen; omega) (by omega) ?_; intro w2 ho2 hg2; obtain ⟨w3, hc3, hr3, hk3⟩ := HH.out w2 ho2 hg2; clear ho2 hg2))
  clear hi hz0 hz1 hz2 C HH
  obtain ⟨G, hG⟩ : ∃ G, G = w.heap.size := ⟨_, rfl⟩
  rw [← hG] at hr3 ⊢
  have HG := Hid.mk hG
  have Hr := Hid.mk hr3
  have Hk := Hid.mk hk3
  clear hr3 hk3 hG
  go_loopw [8] (fun v wr => ∃ n : Nat, n ≤ p ∧ (p = 0 ∨ 0 < n) ∧ v = .int .i64 (n : Int) ∧ wr.heap[G]? = some (.cells (repC W n p).toArray 3 (0, 0)) ∧ Kept [] w wr) (fun v _ => p - (intOf v).toNat)
  case atStart => exact ⟨n0, Hn.out.1, Hn.out.2, rfl, Hr.out, Hk.out⟩
  case round =>
    obtain ⟨n, hn, hpn, rfl, hrow, hkr⟩ := hrel
    by_cases hlt : n < p
    · obtain ⟨w4, hc4, hr4, hk4⟩ := icopy wr.drew G n (p - n) (p - n) G 0 n p W _ (min n (p - n)) rfl (show wr.drew.heap[G]? = _ from hrow) (fun j hj => by
        have : j < n := by omega
        rw [cell_of_row _ _ _ _ _ _ (show wr.drew.heap[G]? = _ from hrow), List.getElem?_toArray, Nat.zero_add, repC_at _ _ _ _ this]) (by rw [repC_length _ _ _ (by omega)]; omega)
      rw [repC_next W n p _] at hr4
      have Hr4 := Hid.mk hr4
      have Hk4 := Hid.mk (hkr.drew.step hk4 (fun x hx => by simp at hx; right; have := HG.out; omega))
      have hm : min n (p - n) ≤ p - n ∧ 0 < min n (p - n) := by omega
      obtain ⟨m, em⟩ : ∃ m, m = min n (p - n) := ⟨_, rfl⟩
      rw [← em] at Hr4 hm hc4
      clear hr4 hk4 hrow hkr em
      have hnp : ¬ p = n := by omega
      go_wp2
      go_region_law (fail)
      all_goals go_simp
      have hwr : IntKind.i64.wrap ((n : Int) + (m : Int)) = ((n + m : Nat) : Int) := by
        have : IntKind.i64.wrap ((n : Int) + (m : Int)) = (n : Int) + (m : Int) := by rw [IntKind.wrap_i64]; omega
        omega
      all_goals rw [hwr]
      all_goals go_roundw
      case rel =>
        (repeat apply Exists.intro)
        exact ⟨⟨n + m, by omega, by omega, rfl, Hr4.out, Hk4.out⟩, rfl⟩
      case measure =>
        show p - (((n + m : Nat) : Int)).toNat < p - ((n : Int)).toNat
        omega
    · obtain rfl : p = n := by omega
      have Hrow := Hid.mk hrow
      have Hkr := Hid.mk hkr
      clear hrow hkr
      go_wp2
      go_ret
      exact ⟨G, rfl, .inr ⟨G, 0, rfl, fun i hi => by rw [cell_of_row _ _ _ _ _ _ Hrow.out, List.getElem?_toArray, Nat.zero_add, repC_at _ _ _ _ hi]⟩, by have := HG.out; omega, Hkr.out⟩
end Go.Proofs.YtbhhkcgicajlcaaGreatDoor.Py
