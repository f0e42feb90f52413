import Derived.Test.YtiojcfffhcipnaaW
namespace Go.Proofs.Ytiojcfffhcipnaa
open Go.RowKit

theorem pow_two_int (n : Nat) : ((2 : Int) ^ n) = (((2 : Nat) ^ n : Nat) : Int) := by simp

/-- The writer's or: the bits held, moved up, and the new ones. -/
theorem or_eq (H : Nat) (v n : Int) (f : Nat) (hH : H < 2 ^ f) (hf : f < 8) (h1 : n ≤ 32) (v0 : 0 ≤ v) (hv : v.toNat < 2 ^ n.toNat) :
    bits BinOp.or IntKind.u64 (IntKind.u64.wrap ((H : Int) * 2 ^ n.toNat)) (IntKind.u64.wrap v) = ((H * 2 ^ n.toNat + v.toNat : Nat) : Int) := by
  obtain ⟨x, rfl⟩ := Int.eq_ofNat_of_zero_le v0
  rw [Int.toNat_natCast] at hv ⊢
  have hn : n.toNat ≤ 32 := by omega
  generalize n.toNat = k at *
  have hk : 2 ^ k ≤ 2 ^ 32 := Nat.pow_le_pow_right (by decide) hn
  have hH2 : H < 2 ^ 8 := Nat.lt_of_lt_of_le hH (Nat.pow_le_pow_right (by decide) (by omega))
  have hHk : H * 2 ^ k < 2 ^ 40 := by
    have h1 : H * 2 ^ k ≤ H * 2 ^ 32 := Nat.mul_le_mul_left _ hk
    have h2 : H * 2 ^ 32 < 2 ^ 8 * 2 ^ 32 := Nat.mul_lt_mul_of_pos_right hH2 (by decide)
    have h3 : 2 ^ 8 * 2 ^ 32 = 2 ^ 40 := by decide
    omega
  rw [IntKind.wrap_u64, IntKind.wrap_u64, pow_two_int]
  have e1 : ((H : Int) * ((2 ^ k : Nat) : Int)) % 18446744073709551616 = ((H * 2 ^ k : Nat) : Int) := by
    rw [← Int.natCast_mul]; omega
  have e2 : ((x : Int)) % 18446744073709551616 = (x : Int) := by omega
  rw [e1, e2, u64_or_nat _ _ (by omega) (by omega), nat_join k _ _ (by simp) hv]

theorem fits_iff (v n : Int) (v0 : 0 ≤ v) : (v / 2 ^ n.toNat == 0) = decide (v.toNat < 2 ^ n.toNat) := by
  obtain ⟨x, rfl⟩ := Int.eq_ofNat_of_zero_le v0
  rw [pow_two_int, Int.toNat_natCast, Bool.eq_iff_iff, beq_iff_eq, decide_eq_true_iff, ← Int.natCast_ediv]
  have := Nat.div_eq_zero_iff (a := x) (b := 2 ^ n.toNat)
  have hp := Nat.two_pow_pos n.toNat
  omega

theorem madeBytes (n : Nat) : (madeCells (Value.int .u8 0).cells (n * 1)).toList = List.replicate n (byt 0) := by
  rw [Nat.mul_one]; exact toList_madeCells_one _ _

theorem row_heap {w : World} {base e n cap g : Nat} {xs : List Value} (h : w.ownsRow base e 1 (.slice (some ⟨g, 0, none⟩) n cap) n xs) (hc : cap = n) : w.heap[g]? = some (.cells xs.toArray e (0, 0)) := by
  subst hc
  rcases h.2 with ⟨h1, _⟩ | ⟨g', cap', cur, h1, _, hg, _, _, hs, ht⟩
  · simp at h1
  · simp at h1
    obtain ⟨rfl, rfl⟩ := h1
    rw [hg]
    have : cur.toList.take (cap * 1) = cur.toList := List.take_of_length_le (by simp; omega)
    rw [this] at ht
    rw [← ht]

theorem bytes_one (l : List Nat) : ∀ v ∈ l.map byt, v.oneCell' = true := by
  intro v hv
  simp only [List.mem_map] at hv
  obtain ⟨b, _, rfl⟩ := hv
  rfl

theorem row_src {w : World} {ao : Option Addr} {base e n cap : Nat} {xs : List Value} (h : w.ownsRow base e 1 (.slice ao n cap) n xs) : 0 < n → ∃ ad, ao = some ad ∧ ∀ j u, xs[j]? = some u → w.cell? (ad.add j) = some u := by
  intro hn
  rcases h.2 with ⟨_, h1⟩ | ⟨g, cap', cur, h1, _⟩
  · omega
  · simp at h1
    obtain ⟨rfl, rfl⟩ := h1
    exact ⟨_, rfl, h.cells rfl⟩

theorem Hid.mk {p : Prop} (h : p) : Hid p := h

theorem copy_run (w : World) (g n dcap : Nat) (ao : Option Addr) (m cp : Nat) (cur cs : List Value) (hr : w.heap[g]? = some (.cells cur.toArray 5 (0, 0))) (hcur : cur.length = n) (hm : cs.length = m) (hmn : m ≤ n)
    (hpos : 0 < m → ∃ ad, ao = some ad ∧ ∀ j u, cs[j]? = some u → w.cell? (ad.add j) = some u) (hone : ∀ v ∈ cs, v.oneCell' = true) :
    ∃ w2, Sem.run Try.prog (Builtin.copy_ #[29, 29] 3 #[.slice (some ⟨g, 0, none⟩) n dcap, .slice ao m cp]) w = .ok (goInt m) w2 ∧ w2.heap[g]? = some (.cells (cs ++ cur.drop m).toArray 5 (0, 0)) ∧ Kept [g] w w2 := by
  obtain ⟨i0, hi, hz0, hz1, hz2⟩ := info_parts Try.info5
  have hsz : (Try.prog.info? 5).map (·.size) = some 1 := by rw [hi]; simp [hz1]
  by_cases h0 : m = 0
  · subst h0
    have hcs : cs = [] := List.eq_nil_of_length_eq_zero hm
    subst hcs
    exact ⟨w, run_copy_none w 29 29 3 5 _ _ _ _ _ _ Try.underlying29 hsz (by simp), by simpa using hr, Kept.refl _ _⟩
  · obtain ⟨ad, rfl, hsrc⟩ := hpos (by omega)
    have h := run_copy_row (P := Try.prog) w 29 29 3 5 g 0 n dcap ad m cp cur.toArray 5 cs Try.underlying29 hsz hr (by show _ = min _ _; omega) hsrc (by simp; omega) hone
    rw [hm] at h
    refine ⟨w.setRow g (cs ++ cur.drop m).toArray, ?_, ?_, ?_⟩
    · refine h.trans ?_
      simp
    · exact setRow_heap w g _ _ 5 _ hr
    · exact ⟨rfl, rfl, rfl, by simp [World.setRow], fun k _ hk => setRow_other w g k _ (by simpa using hk)⟩

theorem bytes_even (N len : Nat) (h : len % 8 = 0) : (big (len / 8) (N / 2 ^ (len % 8))).map byt ++ (List.replicate ((len + 7) / 8) (Value.int .u8 0)).drop (len / 8) = (big ((len + 7) / 8) (N * 2 ^ (8 * ((len + 7) / 8) - len))).map byt := by
  have h1 : (len + 7) / 8 = len / 8 := by omega
  have h2 : 8 * (len / 8) - len = 0 := by omega
  rw [h, h1, h2]
  simp

theorem bytes_odd (N len : Nat) (h : len % 8 ≠ 0) (u : Nat) (hu : u = N % 2 ^ (len % 8) * 2 ^ (8 - len % 8)) :
    ((big (len / 8) (N / 2 ^ (len % 8))).map byt ++ (List.replicate ((len + 7) / 8) (Value.int .u8 0)).drop (len / 8)).set (len / 8) (byt u) = (big ((len + 7) / 8) (N * 2 ^ (8 * ((len + 7) / 8) - len))).map byt := by
  have h1 : (len + 7) / 8 = len / 8 + 1 := by omega
  have h2 : 8 * (len / 8 + 1) - len = 8 - len % 8 := by omega
  have h3 : 2 ^ (len % 8) * 2 ^ (8 - len % 8) = 256 := by rw [← Nat.pow_add, show len % 8 + (8 - len % 8) = 8 by omega]
  have e1 : N * 2 ^ (8 - len % 8) / 256 = N / 2 ^ (len % 8) := by rw [← h3, Nat.mul_div_mul_right _ _ (Nat.two_pow_pos _)]
  have e2 : N * 2 ^ (8 - len % 8) % 256 = u := by rw [← h3, Nat.mul_mod_mul_right, hu]
  rw [h1, h2, big, e1, e2]
  have e3 : (List.replicate (len / 8 + 1) (Value.int .u8 0)).drop (len / 8) = [Value.int .u8 0] := by simp
  rw [e3, List.set_append_right _ _ (by simp [big_length])]
  simp [big_length]

theorem byte_last (N len : Nat) : IntKind.u8.wrap (IntKind.u64.wrap ((N : Int) % 2 ^ (len % 8) * 2 ^ (8 - (len : Int) % 8).toNat)) = ((N % 2 ^ (len % 8) * 2 ^ (8 - len % 8) : Nat) : Int) := by
  have e : (8 - (len : Int) % 8).toNat = 8 - len % 8 := by omega
  have h3 : 2 ^ (len % 8) * 2 ^ (8 - len % 8) = 256 := by rw [← Nat.pow_add, show len % 8 + (8 - len % 8) = 8 by omega]
  have h4 : N % 2 ^ (len % 8) * 2 ^ (8 - len % 8) < 256 := by
    rw [← h3]; exact Nat.mul_lt_mul_of_pos_right (Nat.mod_lt _ (Nat.two_pow_pos _)) (Nat.two_pow_pos _)
  rw [e, pow_two_int, pow_two_int, ← Int.natCast_emod, ← Int.natCast_mul, IntKind.wrap_u64, IntKind.wrap_u8']
  omega

theorem row_cell_at {w : World} {g j e : Nat} {cs : List Value} (h : w.heap[g]? = some (.cells cs.toArray e (0, 0))) (hj : j < cs.length) : ∃ u, w.cell? ⟨g, j, none⟩ = some u := by
  exact ⟨cs[j], by simp [World.cell?, h, hj]⟩

end Go.Proofs.Ytiojcfffhcipnaa
