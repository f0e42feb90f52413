import Derived.Test.YtlkbpimlofgflaaDoorxB
namespace Go.Proofs.YtlkbpimlofgflaaDoor
open Go.RowKit

theorem big_num (l : List Nat) (h : Byts l) : big l.length (num l) = l := by
  induction hn : l.length generalizing l with
  | zero => rw [List.eq_nil_of_length_eq_zero hn]; rfl
  | succ n ih =>
    have hne : l ≠ [] := by intro e; subst e; simp at hn
    obtain ⟨a, b, rfl⟩ : ∃ a b, l = a ++ [b] := ⟨l.dropLast, l.getLast hne, (List.dropLast_concat_getLast hne).symm⟩
    have hl : a.length = n := by simp at hn; exact hn
    have hb : b < 256 := h b (by simp)
    rw [num_snoc, big, show (num a * 256 + b) / 256 = num a by omega, show (num a * 256 + b) % 256 = b by omega, ih a (fun x hx => h x (by simp [hx])) hl]

/-- What is told of a slice of bytes that came in. -/
def IsRow (k : IntKind) (w : World) (a : Option Addr) (len cap : Nat) (zs : List Int) : Prop :=
  (a = none ∧ len = 0 ∧ cap = 0 ∧ zs = []) ∨
  ∃ x, a = some x ∧ len ≤ cap ∧ cap ≤ maxLen ∧ zs.length = cap ∧ (∀ i, i < zs.length → w.cell? (x.add i) = some (.int k (zs.getD i 0))) ∧ ∀ n ∈ zs, (Lit.int k n).wf = true

theorem isRow_reads {w : World} {a : Option Addr} {len cap : Nat} {zs : List Int} (h : IsRow .u8 w a len cap zs) : ∃ l, l.length = len ∧ Byts l ∧ Reads w a l ∧ len ≤ 9223372036854775807 := by
  rcases h with ⟨rfl, rfl, rfl, rfl⟩ | ⟨x, rfl, hl, hm, hz, hc, hw⟩
  · exact ⟨[], rfl, by simp [Byts], .inl rfl, by decide⟩
  · have hwf : ∀ n ∈ zs, 0 ≤ n ∧ n < 256 := fun n hn => by
      have := hw n hn
      simp [Lit.wf] at this
      have h1 : IntKind.u8.min = 0 := by decide
      have h2 : IntKind.u8.max = 255 := by decide
      omega
    refine ⟨(zs.take len).map Int.toNat, by simp; omega, ?_, ?_, by unfold maxLen at hm; omega⟩
    · intro b hb
      simp only [List.mem_map] at hb
      obtain ⟨z, hz1, rfl⟩ := hb
      have := hwf z (List.mem_of_mem_take hz1)
      omega
    · by_cases h0 : len = 0
      · subst h0; exact .inl (by simp)
      · right
        obtain ⟨b, off, spot⟩ := x
        have hc0 := hc 0 (by omega)
        have hspot : spot = none := by simpa [Addr.add] using World.cell?_spot hc0
        subst hspot
        refine ⟨b, off, rfl, fun i hi => ?_⟩
        have hil : i < len := by simp at hi; omega
        have h1 := hc i (by omega)
        have hadd : (⟨b, off, none⟩ : Addr).add i = ⟨b, off + i, none⟩ := by unfold Addr.add; split <;> simp_all
        rw [hadd] at h1
        rw [h1]
        have hiz : i < zs.length := by omega
        have := hwf zs[i] (List.getElem_mem hiz)
        simp [byt, hiz, hil]
        omega

theorem shl_one (p : Int) (p0 : 0 ≤ p) (p1 : p < 7) : IntKind.u64.wrap (2 ^ (8 * (1 + p)).toNat) = (2 : Int) ^ (8 * (1 + p)).toNat := by
  have h : (2 : Nat) ^ (8 * (1 + p)).toNat ≤ 2 ^ 56 := Nat.pow_le_pow_right (by decide) (by omega)
  rw [IntKind.wrap_u64, pow_two_int]
  generalize (2 : Nat) ^ (8 * (1 + p)).toNat = q at *
  have h3 : (2 : Nat) ^ 56 < 18446744073709551616 := by decide
  omega

theorem fits_lt (n : Int) (k : Nat) (n0 : 0 ≤ n) : (n / 2 ^ k == 0) = decide (n < 2 ^ k) := by
  obtain ⟨x, rfl⟩ := Int.eq_ofNat_of_zero_le n0
  rw [pow_two_int, Bool.eq_iff_iff, beq_iff_eq, decide_eq_true_iff, ← Int.natCast_ediv]
  have := Nat.div_eq_zero_iff (a := x) (b := 2 ^ k)
  have hp := Nat.two_pow_pos k
  omega

theorem big_at (n b : Int) (m : Nat) (w : World) (hbm : b = (m : Int)) (h1 : 1 ≤ m) (h2 : m ≤ 8) (n0 : 0 ≤ n) (hv : (n / 2 ^ (8 * m) == 0) = true) :
    Calls Tryd.prog 44 #[.int .u64 n, .int .i64 b] w fun e w' => ∃ g cap, e = .returned (.tuple #[.slice (some ⟨g, 0, none⟩) m cap, .int .i64 0]) ∧
      w.heap.size ≤ g ∧ w'.ownsRow 0 5 1 (.slice (some ⟨g, 0, none⟩) m cap) m ((big m n.toNat).map byt) ∧ Kept [] w w' := by
  subst hbm
  have e : (8 * (m : Int)).toNat = 8 * m := by omega
  have h := big_any n (m : Int) w (by omega) (by omega) n0 (by rw [e]; exact hv)
  rw [Int.toNat_natCast] at h
  exact h

theorem number_at (ao : Option Addr) (cap m : Nat) (l : List Nat) (X : Int) (w : World) (hr : Reads w ao l) (hb : Byts l) (hm : l.length = m) (hX : (num l : Int) = X) (h1 : 1 ≤ m) (hl : m ≤ 8) :
    Calls Tryd.prog 47 #[.slice ao m cap] w fun e w' => e = .returned (.tuple #[.int .u64 X, .int .i64 0]) ∧ w' = w := by
  subst hm
  subst hX
  exact number_any ao cap l w hr hb h1 hl

theorem num_big_fits (n : Int) (m : Nat) (n0 : 0 ≤ n) (hv : (n / 2 ^ (8 * m) == 0) = true) : (num (big m n.toNat) : Int) = n := by
  rw [fits_lt n _ n0] at hv
  have h : n < 2 ^ (8 * m) := by simpa using hv
  rw [num_big, pow256, Nat.mod_eq_of_lt (by rw [pow_two_int] at h; omega)]
  omega

theorem fits_num (l : List Nat) (h : Byts l) : ((num l : Int) / 2 ^ (8 * l.length) == 0) = true := by
  rw [fits_lt _ _ (by omega), pow_two_int]
  have := num_lt l h
  rw [pow256] at this
  simp only [decide_eq_true_iff]
  omega

theorem reads_str' {w : World} {ao : Option Addr} {l : List Nat} {m : Nat} (h : Reads w ao l) (hm : l.length = m) (cap : Nat) : Sem.run Tryd.prog (convert 44 9 (.slice ao m cap)) w = .ok (.string (bstr l)) w := by
  subst hm; exact reads_str h cap

end Go.Proofs.YtlkbpimlofgflaaDoor
