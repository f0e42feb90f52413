import Derived.Test.YtmgfapooanpgfaaPb
namespace Go.Proofs.Ytmgfapooanpgfaa
open Go.RowKit

/-- A list of rows: where each lies, how long it is. -/
def Rv (w : World) (ao : Option Addr) (N : Nat) (bo : Nat → Option Addr) (ln cp : Nat → Nat) : Prop :=
  N = 0 ∨ ∃ g off, ao = some ⟨g, off, none⟩ ∧ ∀ j, j < N → w.cell? ⟨g, off + j, none⟩ = some (.slice (bo j) (ln j) (cp j))

/-- A flat row, to a part of which sums of products are added. -/
def asm (Z : Nat → Nat) (o n N : Nat) (f : Nat → Nat) (L : Nat → List Nat) : Nat → Nat := fun q => if o ≤ q ∧ q < o + n then Z q ^^^ sm (fun j => mu (f j) ((L j).getD (q - o) 0)) N else Z q
theorem asm_zero (Z : Nat → Nat) (o n : Nat) (f : Nat → Nat) (L : Nat → List Nat) : asm Z o n 0 f L = Z := by
  funext q
  unfold asm
  split
  · exact Nat.xor_zero _
  · rfl
theorem asm_next (Z : Nat → Nat) (o n k : Nat) (f : Nat → Nat) (L : Nat → List Nat) : adm (asm Z o n k f L) o n (f k) (L k) = asm Z o n (k + 1) f L := by
  funext q
  unfold adm asm
  by_cases h : o ≤ q ∧ q < o + n
  · simp only [if_pos h, sm, Nat.xor_assoc]
  · simp only [if_neg h]
theorem asm_out (Z : Nat → Nat) (o n N : Nat) (f : Nat → Nat) (L : Nat → List Nat) (q : Nat) (h : ¬ (o ≤ q ∧ q < o + n)) : asm Z o n N f L q = Z q := if_neg h
theorem asm_lo {Z : Nat → Nat} (h : ∀ q, Z q < 256) (o n N : Nat) (f : Nat → Nat) (L : Nat → List Nat) : ∀ q, asm Z o n N f L q < 256 := by
  intro q
  unfold asm
  split
  · exact xor_lt (h q) (sm_lt _ _ (fun _ _ => mu_lt _ _))
  · exact h q

theorem row_cell_is {w : World} {b T q : Nat} {Z : Nat → Nat} {u : Value} (h : Row w b (rg Z T)) (hc : w.cell? ⟨b, q, none⟩ = some u) : q < T := by
  unfold Row at h
  rcases Nat.lt_or_ge q T with h1 | h1
  · exact h1
  · simp [World.cell?, h, rg_length, h1] at hc

theorem Reads.through {w w' : World} {bo : Option Addr} {l : List Nat} {b o n T : Nat} {Z Z' : Nat → Nat} (h : Reads w bo l) (hr : Row w b (rg Z T)) (hr' : Row w' b (rg Z' T)) (hZ : ∀ q, ¬ (o ≤ q ∧ q < o + n) → Z' q = Z q) (hk : Kept [b] w w') (ha : Apt bo l.length b o n) : Reads w' bo l := by
  rcases h with h | ⟨g, off, rfl, hc⟩
  · exact .inl h
  · refine .inr ⟨g, off, rfl, fun i hi => ?_⟩
    have h1 := hc i hi
    by_cases e : g = b
    · subst e
      have hq := row_cell_is hr h1
      have h2 := hr.at (j := off + i) (by rw [rg_length]; exact hq)
      have h3 := hr'.at (j := off + i) (by rw [rg_length]; exact hq)
      rw [rg_getD _ _ _ hq] at h2 h3
      rw [h3, hZ (off + i) (by rcases ha (by omega) g off rfl with h | h | h; exact absurd rfl h; omega; omega), ← h2]
      exact h1
    · exact cell_keep hk h1 (by simpa using e)

set_option maxHeartbeats 2000000 in
set_option maxRecDepth 1000000 in
theorem addSum_any (b o n cap T nf cf N ca : Nat) (fo ao : Option Addr) (bo : Nat → Option Addr) (cp : Nat → Nat) (Z : Nat → Nat) (lf : List Nat) (L : Nat → List Nat) (w : World) (hr : Row w b (rg Z T)) (hoT : o + n ≤ T) (hZ : ∀ q, Z q < 256)
    (hlf : Byts lf) (hnf : lf.length = nf) (hN : N ≤ nf) (hrf : Reads w fo lf) (hfb : 0 < nf → ∀ g off, fo = some ⟨g, off, none⟩ → g ≠ b)
    (hv : Rv w ao N bo (fun j => (L j).length) cp) (hab : 0 < N → ∀ g off, ao = some ⟨g, off, none⟩ → g ≠ b) (hL : ∀ j, j < N → Byts (L j) ∧ (L j).length ≤ cp j ∧ (L j).length ≤ 140737488355328)
    (hR : ∀ j, j < N → lf.getD j 0 ≠ 0 → Reads w (bo j) (L j) ∧ Apt (bo j) (L j).length b o n) (hn : n ≤ 140737488355328) (hNl : N ≤ 140737488355328) :
    Calls Try.prog 30 #[.slice (some ⟨b, o, none⟩) n cap, .slice fo nf cf, .slice ao N ca] w fun e w' => e = .returned (.tuple #[]) ∧ Row w' b (rg (asm Z o n N (fun j => lf.getD j 0) L) T) ∧ Kept [b] w w' := by
  have Hr := Hid.mk hr
  have Hlf := Hid.mk hlf
  have Hnf := Hid.mk hnf
  have Hrf := Hid.mk hrf
  have Hfb := Hid.mk hfb
  have Hv := Hid.mk hv
  have Hab := Hid.mk hab
  have HL := Hid.mk hL
  have HR := Hid.mk hR
  have HZ := Hid.mk hZ
  clear hr hlf hnf hrf hfb hv hab hL hR hZ
  go_enter Try.func30, Try.ntmps30
  go_wp2
  go_loopw [10] (fun i wr => ∃ k : Nat, k ≤ N ∧ i = .int .i64 (k : Int) ∧ Row wr b (rg (asm Z o n k (fun j => lf.getD j 0) L) T) ∧ Kept [b] w wr) (fun i _ => N - (intOf i).toNat)
  case atStart => exact ⟨0, by omega, rfl, by rw [asm_zero]; exact Hr.out, Kept.refl _ _⟩
  case round =>
    obtain ⟨k, hk, rfl, hrow, hkr⟩ := hrel
    by_cases hlt : k < N
    · obtain ⟨gf, of_, hgf, hcf⟩ := (Hrf.out.kept hkr (fun g off e => by simpa using Hfb.out (by omega) g off e)).cell (j := k) (by rw [Hnf.out]; omega)
      obtain ⟨ga, oa, hga, hca⟩ : ∃ g off, ao = some ⟨g, off, none⟩ ∧ wr.cell? ⟨g, off + k, none⟩ = some (.slice (bo k) (L k).length (cp k)) := by
        rcases Hv.out with h | ⟨g, off, h, hc⟩
        · omega
        · exact ⟨g, off, h, cell_keep hkr (hc k hlt) (by simpa using Hab.out (by omega) g off h)⟩
      have Hc := Hid.mk (fun w' (e : w' = wr) => padd_any b o n cap (lf.getD k 0) (L k).length (cp k) T (bo k) (asm Z o n k (fun j => lf.getD j 0) L) (L k) (getD_lt _ _ Hlf.out) w' (by rw [e]; exact hrow) hoT (asm_lo HZ.out _ _ _ _ _) (HL.out k hlt).1 rfl (fun hf => by rw [e]; exact (HR.out k hlt hf).1.through Hr.out hrow (fun q hq => asm_out _ _ _ _ _ _ q hq) hkr (HR.out k hlt hf).2) (HL.out k hlt).2.1 (fun hf => (HR.out k hlt hf).2) hn (HL.out k hlt).2.2)
      rw [asm_next Z o n k (fun j => lf.getD j 0) L] at Hc
      have Hkr := Hid.mk hkr
      clear hrow hkr
      obtain ⟨y, e⟩ : ∃ y, y = lf.getD k 0 := ⟨_, rfl⟩
      rw [← e] at hcf Hc
      clear e
      obtain ⟨m, e⟩ : ∃ m, m = (L k).length := ⟨_, rfl⟩
      rw [← e] at hca Hc
      clear e
      obtain ⟨bk, e⟩ : ∃ bk, bk = bo k := ⟨_, rfl⟩
      rw [← e] at hca Hc
      clear e
      obtain ⟨ck, e⟩ : ∃ ck, ck = cp k := ⟨_, rfl⟩
      rw [← e] at hca Hc
      clear e
      subst hgf hga
      have ix : (k : Int) < (N : Int) := by omega
      have ixf : (k : Int) < (nf : Int) := by omega
      go_wp2_with (go_at_call 49; refine (Hc.out _ rfl).mono ?_; rintro e w1 ⟨rfl, hrow, hk1⟩)
      exact ⟨⟨k + 1, by omega, by go_num, hrow, Hkr.out.trans hk1⟩, by simp [intOf]; omega⟩
    · obtain rfl : N = k := by omega
      have Hrow := Hid.mk hrow
      have Hkr := Hid.mk hkr
      clear hrow hkr
      go_wp2
      go_end0
      exact ⟨rfl, Hrow.out, Hkr.out⟩
end Go.Proofs.Ytmgfapooanpgfaa
