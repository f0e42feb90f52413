import Derived.Test.YtoghkbajdljheaaB
namespace Go.Proofs.Ytoghkbajdljheaa
open Go.RowKit

theorem Reads.kept {w w' : World} {ao : Option Addr} {l : List Nat} {ks : List Nat} (h : Reads w ao l) (hk : Kept ks w w') (hn : ∀ g off, ao = some ⟨g, off, none⟩ → g ∉ ks) : Reads w' ao l := by
  rcases h with h | ⟨g, off, rfl, hc⟩
  · exact .inl h
  · refine .inr ⟨g, off, rfl, fun i hi => ?_⟩
    have h1 := hc i hi
    have hlt := World.block_lt_of_cell? w _ h1
    exact (World.cell?_of_block (a := ⟨g, off + i, none⟩) (hk.block g hlt (hn g off rfl))).trans h1

theorem Reads.keep {w w' : World} {ao : Option Addr} {l : List Nat} (h : Reads w ao l) (hk : Kept [] w w') : Reads w' ao l := h.kept hk (by simp)

theorem reads_row {w : World} {ao : Option Addr} {base n cap : Nat} {l : List Nat} (h : w.ownsRow base 5 1 (.slice ao n cap) n (l.map byt)) : Reads w ao l := by
  rcases h.2 with ⟨h1, hn⟩ | ⟨g, cap', cur, h1, _⟩
  · left
    have := h.1
    simp at this
    apply List.eq_nil_of_length_eq_zero
    omega
  · right
    simp at h1
    obtain ⟨rfl, rfl⟩ := h1
    refine ⟨g, 0, rfl, fun i hi => ?_⟩
    have hc := h.cells (g := g) rfl i (byt (l.getD i 0)) (by simp [hi])
    have hadd : (⟨g, 0, none⟩ : Addr).add i = ⟨g, 0 + i, none⟩ := by unfold Addr.add; split <;> simp_all
    rw [hadd] at hc
    exact hc

theorem reads_str {w : World} {ao : Option Addr} {l : List Nat} (h : Reads w ao l) (cap : Nat) : Sem.run Try.prog (convert 43 9 (.slice ao l.length cap)) w = .ok (.string (bstr l)) w := by
  rcases h with rfl | ⟨g, off, rfl, hc⟩
  · rcases ao with _ | a
    · exact run_convert_bytes_nil w 43 5 Try.underlying43 Try.underlying5 0 cap 9 Try.underlying9
    · have hl : (loadCells a 0).run Try.prog w = .ok #[] w := by simpa using run_loadCells_list (P := Try.prog) w a [] (by simp)
      have h1 := run_convert_bytes_string (P := Try.prog) w 43 9 5 (some a) 0 cap Try.underlying43 Try.underlying5 Try.underlying9
      have h2 := run_bytesToString (P := Try.prog) w a 0 cap [] hl
      rw [h2] at h1
      exact h1
  · exact run_convert_bytes_arg w 43 5 Try.underlying43 Try.underlying5 g off l.length cap (l.map fun b : Nat => (b : Int)) (by simp) (fun i hi => by rw [hc i hi]; simp [byt, hi]) 9 Try.underlying9

theorem big_num (l : List Nat) (h : Byts l) : big l.length (num l) = l := by
  induction hn : l.length generalizing l with
  | zero => rw [List.eq_nil_of_length_eq_zero hn]; rfl
  | succ n ih =>
    have hne : l ≠ [] := by intro e; subst e; simp at hn
    obtain ⟨a, b, rfl⟩ : ∃ a b, l = a ++ [b] := ⟨l.dropLast, l.getLast hne, (List.dropLast_concat_getLast hne).symm⟩
    have hl : a.length = n := by simp at hn; exact hn
    have hb : b < 256 := h b (by simp)
    rw [num_snoc, big, show (num a * 256 + b) / 256 = num a by omega, show (num a * 256 + b) % 256 = b by omega, ih a (fun x hx => h x (by simp [hx])) hl]

/-- What is told of a slice of bytes that came in. -/
def IsRow (k : IntKind) (w : World) (a : Option Addr) (len cap : Nat) (zs : List Int) : Prop :=
  (a = none ∧ len = 0 ∧ cap = 0 ∧ zs = []) ∨
  ∃ x, a = some x ∧ len ≤ cap ∧ cap ≤ maxLen ∧ zs.length = cap ∧ (∀ i, i < zs.length → w.cell? (x.add i) = some (.int k (zs.getD i 0))) ∧ ∀ n ∈ zs, (Lit.int k n).wf = true

theorem isRow_reads {w : World} {a : Option Addr} {len cap : Nat} {zs : List Int} (h : IsRow .u8 w a len cap zs) : ∃ l, l.length = len ∧ Byts l ∧ Reads w a l ∧ len ≤ 9223372036854775807 := by
  rcases h with ⟨rfl, rfl, rfl, rfl⟩ | ⟨x, rfl, hl, hm, hz, hc, hw⟩
  · exact ⟨[], rfl, by simp [Byts], .inl rfl, by decide⟩
  · have hwf : ∀ n ∈ zs, 0 ≤ n ∧ n < 256 := fun n hn => by
      have := hw n hn
      simp [Lit.wf] at this
      have h1 : IntKind.u8.min = 0 := by decide
      have h2 : IntKind.u8.max = 255 := by decide
      omega
    refine ⟨(zs.take len).map Int.toNat, by simp; omega, ?_, ?_, by unfold maxLen at hm; omega⟩
    · intro b hb
      simp only [List.mem_map] at hb
      obtain ⟨z, hz1, rfl⟩ := hb
      have := hwf z (List.mem_of_mem_take hz1)
      omega
    · by_cases h0 : len = 0
      · subst h0; exact .inl (by simp)
      · right
        obtain ⟨b, off, spot⟩ := x
        have hc0 := hc 0 (by omega)
        have hspot : spot = none := by simpa [Addr.add] using World.cell?_spot hc0
        subst hspot
        refine ⟨b, off, rfl, fun i hi => ?_⟩
        have hil : i < len := by simp at hi; omega
        have h1 := hc i (by omega)
        have hadd : (⟨b, off, none⟩ : Addr).add i = ⟨b, off + i, none⟩ := by unfold Addr.add; split <;> simp_all
        rw [hadd] at h1
        rw [h1]
        have hiz : i < zs.length := by omega
        have := hwf zs[i] (List.getElem_mem hiz)
        simp [byt, hiz, hil]
        omega

theorem shl_one (p : Int) (p0 : 0 ≤ p) (p1 : p < 7) : IntKind.u64.wrap (2 ^ (8 * (1 + p)).toNat) = (2 : Int) ^ (8 * (1 + p)).toNat := by
  have h : (2 : Nat) ^ (8 * (1 + p)).toNat ≤ 2 ^ 56 := Nat.pow_le_pow_right (by decide) (by omega)
  rw [IntKind.wrap_u64, pow_two_int]
  generalize (2 : Nat) ^ (8 * (1 + p)).toNat = q at *
  have h3 : (2 : Nat) ^ 56 < 18446744073709551616 := by decide
  omega

theorem fits_lt (n : Int) (k : Nat) (n0 : 0 ≤ n) : (n / 2 ^ k == 0) = decide (n < 2 ^ k) := by
  obtain ⟨x, rfl⟩ := Int.eq_ofNat_of_zero_le n0
  rw [pow_two_int, Bool.eq_iff_iff, beq_iff_eq, decide_eq_true_iff, ← Int.natCast_ediv]
  have := Nat.div_eq_zero_iff (a := x) (b := 2 ^ k)
  have hp := Nat.two_pow_pos k
  omega

theorem big_at (n b : Int) (m : Nat) (w : World) (hbm : b = (m : Int)) (h1 : 1 ≤ m) (h2 : m ≤ 8) (n0 : 0 ≤ n) (hv : (n / 2 ^ (8 * m) == 0) = true) :
    Calls Try.prog 15 #[.int .u64 n, .int .i64 b] w fun e w' => ∃ g cap, e = .returned (.tuple #[.slice (some ⟨g, 0, none⟩) m cap, .int .i64 0]) ∧
      w.heap.size ≤ g ∧ w'.ownsRow 0 5 1 (.slice (some ⟨g, 0, none⟩) m cap) m ((big m n.toNat).map byt) ∧ Kept [] w w' := by
  subst hbm
  have e : (8 * (m : Int)).toNat = 8 * m := by omega
  have h := big_any n (m : Int) w (by omega) (by omega) n0 (by rw [e]; exact hv)
  rw [Int.toNat_natCast] at h
  exact h

theorem number_at (ao : Option Addr) (cap m : Nat) (l : List Nat) (X : Int) (w : World) (hr : Reads w ao l) (hb : Byts l) (hm : l.length = m) (hX : (num l : Int) = X) (h1 : 1 ≤ m) (hl : m ≤ 8) :
    Calls Try.prog 19 #[.slice ao m cap] w fun e w' => e = .returned (.tuple #[.int .u64 X, .int .i64 0]) ∧ w' = w := by
  subst hm
  subst hX
  exact number_any ao cap l w hr hb h1 hl

theorem num_big_fits (n : Int) (m : Nat) (n0 : 0 ≤ n) (hv : (n / 2 ^ (8 * m) == 0) = true) : (num (big m n.toNat) : Int) = n := by
  rw [fits_lt n _ n0] at hv
  have h : n < 2 ^ (8 * m) := by simpa using hv
  rw [num_big, pow256, Nat.mod_eq_of_lt (by rw [pow_two_int] at h; omega)]
  omega

theorem fits_num (l : List Nat) (h : Byts l) : ((num l : Int) / 2 ^ (8 * l.length) == 0) = true := by
  rw [fits_lt _ _ (by omega), pow_two_int]
  have := num_lt l h
  rw [pow256] at this
  simp only [decide_eq_true_iff]
  omega

theorem reads_str' {w : World} {ao : Option Addr} {l : List Nat} {m : Nat} (h : Reads w ao l) (hm : l.length = m) (cap : Nat) : Sem.run Try.prog (convert 43 9 (.slice ao m cap)) w = .ok (.string (bstr l)) w := by
  subst hm; exact reads_str h cap

set_option maxHeartbeats 1000000 in
set_option maxRecDepth 1000000 in
theorem whole_any (n c : Int) (ao : Option Addr) (cap : Nat) (l : List Nat) (w : World) (n0 : 0 ≤ n) (n1 : n < 18446744073709551616) (c0 : -9223372036854775808 ≤ c) (c1 : c ≤ 9223372036854775807)
    (hr : Reads w ao l) (hb : Byts l) (hl : l.length ≤ 9223372036854775807) :
    Calls Try.prog 8 #[.int .u64 n, .int .i64 c, .slice ao l.length cap] w fun e w' => e = .returned (.bool true) ∧ Kept [] w w' := by
  have p0 := pick_lo c 8 (by decide)
  have p1 := pick_hi c 8 (by decide)
  have hpick := fun w => pick_any c 8 w c0 c1 (by decide)
  generalize pick c 8 = p at *
  have Hpick := Hid.mk hpick
  clear hpick
  obtain ⟨m, hm⟩ : ∃ m : Nat, m = (1 + p).toNat := ⟨_, rfl⟩
  have hpm : 1 + p = (m : Int) := by omega
  have HB := Hid.mk hb
  have HN := Hid.mk (fits_num l hb)
  have HL := Hid.mk (big_num l hb)
  have HR := Hid.mk hr
  clear hb hr
  obtain ⟨q, hq⟩ : ∃ q : Nat, l.length = q := ⟨_, rfl⟩
  have Hq := Hid.mk hq
  rw [hq] at hl ⊢
  rw [hq] at HN HL
  clear hq
  have key : q < 1 ∨ 8 < q ∨ (1 ≤ q ∧ q ≤ 8) := by omega
  by_cases hp : p = 7
  · subst hp
    obtain rfl : m = 8 := by omega
    have hf : (n / 2 ^ (8 * 8) == 0) = true := by rw [fits_lt n _ n0]; simpa using n1
    have HX := Hid.mk (num_big_fits n 8 n0 hf)
    have Hf := Hid.mk hf
    clear hf hpm hm
    go_enter Try.func8, Try.ntmps8
    go_wp2_with (first
      | (go_at_call 9; refine (alive_any _).mono ?_; rintro e w1 ⟨rfl, hk1⟩)
      | (go_at_call 22; refine (Hpick.out _).mono ?_; rintro e w2 ⟨rfl, rfl⟩))
    refine (big_at n _ 8 _ rfl (by decide) (by decide) n0 Hf.out).mono ?_
    rintro e w3 ⟨g, cp, rfl, hg, ho, hk3⟩
    go_wp2_with fail
    refine (number_at _ _ 8 _ n _ (reads_row ho) (big_lt _ _) (big_length _ _) HX.out (by decide) (by decide)).mono ?_
    rintro e w4 ⟨rfl, rfl⟩
    have hkk := hk1.trans hk3
    clear ho hg hk1 hk3
    rcases key with hq1 | hq8 | ⟨hq1, hq8⟩
    · go_wp2
      go_ret
      exact ⟨rfl, hkk⟩
    · go_wp2
      go_ret
      exact ⟨rfl, hkk⟩
    · have t1 : decide ((q : Int) < 1) = false := by simp; omega
      have HR2 := Hid.mk (HR.out.keep hkk)
      go_wp2_with fail
      refine (number_at _ _ q l _ _ HR2.out HB.out Hq.out rfl hq1 hq8).mono ?_
      rintro e w5 ⟨rfl, rfl⟩
      go_wp2_with fail
      refine (big_at _ _ q _ rfl hq1 hq8 (by omega) HN.out).mono ?_
      rintro e w6 ⟨g2, cp2, rfl, hg2, ho2, hk6⟩
      rw [Int.toNat_natCast, HL.out] at ho2
      have s1 := reads_str' (reads_row ho2) Hq.out cp2
      have s2 := reads_str' (HR2.out.keep hk6) Hq.out cap
      have hkf := hkk.trans hk6
      clear ho2 hg2 hk6 hkk
      go_wp2
      go_ret
      exact ⟨ret_bool (by simp), hkf⟩
  · have hp8 : ((1 + p : Int) == 8) = false := beq_eq_false_iff_ne.2 (by omega)
    have hsh := shl_one p p0 (by omega)
    have em : (8 * (1 + p)).toNat = 8 * m := by omega
    have Hpm := Hid.mk hpm
    have Hem := Hid.mk em
    clear hpm hm em
    by_cases hf : n < 2 ^ (8 * (1 + p)).toNat
    · have hff : (n / 2 ^ (8 * m) == 0) = true := by rw [fits_lt n _ n0, ← Hem.out]; simpa using hf
      have HX := Hid.mk (num_big_fits n m n0 hff)
      have Hf := Hid.mk hff
      clear hff
      go_enter Try.func8, Try.ntmps8
      go_wp2_with (first
        | (go_at_call 9; refine (alive_any _).mono ?_; rintro e w1 ⟨rfl, hk1⟩)
        | (go_at_call 22; refine (Hpick.out _).mono ?_; rintro e w2 ⟨rfl, rfl⟩))
      refine (big_at n _ m _ Hpm.out (by have := Hpm.out; omega) (by have := Hpm.out; omega) n0 Hf.out).mono ?_
      rintro e w3 ⟨g, cp, rfl, hg, ho, hk3⟩
      have hmm : ((m : Int) != 1 + p) = false := by have := Hpm.out; simp; omega
      go_wp2_with fail
      refine (number_at _ _ m _ n _ (reads_row ho) (big_lt _ _) (big_length _ _) HX.out (by have := Hpm.out; omega) (by have := Hpm.out; omega)).mono ?_
      rintro e w4 ⟨rfl, rfl⟩
      have hkk := hk1.trans hk3
      clear ho hg hk1 hk3
      rcases key with hq1 | hq8 | ⟨hq1, hq8⟩
      · go_wp2
        go_ret
        exact ⟨rfl, hkk⟩
      · go_wp2
        go_ret
        exact ⟨rfl, hkk⟩
      · have t1 : decide ((q : Int) < 1) = false := by simp; omega
        have HR2 := Hid.mk (HR.out.keep hkk)
        go_wp2_with fail
        refine (number_at _ _ q l _ _ HR2.out HB.out Hq.out rfl hq1 hq8).mono ?_
        rintro e w5 ⟨rfl, rfl⟩
        go_wp2_with fail
        refine (big_at _ _ q _ rfl hq1 hq8 (by omega) HN.out).mono ?_
        rintro e w6 ⟨g2, cp2, rfl, hg2, ho2, hk6⟩
        rw [Int.toNat_natCast, HL.out] at ho2
        have s1 := reads_str' (reads_row ho2) Hq.out cp2
        have s2 := reads_str' (HR2.out.keep hk6) Hq.out cap
        have hkf := hkk.trans hk6
        clear ho2 hg2 hk6 hkk
        go_wp2
        go_ret
        exact ⟨ret_bool (by simp), hkf⟩
    · have hff : (n / 2 ^ (8 * (1 + p)).toNat == 0) = false := by rw [fits_lt n _ n0]; simpa using hf
      have Hff := Hid.mk hff
      clear hff
      go_enter Try.func8, Try.ntmps8
      go_wp2_with (first
        | (go_at_call 9; refine (alive_any _).mono ?_; rintro e w1 ⟨rfl, hk1⟩)
        | (go_at_call 22; refine (Hpick.out _).mono ?_; rintro e w2 ⟨rfl, rfl⟩))
      refine (big_value n _ _ (by omega) (by omega) Hff.out).mono ?_
      rintro e w3 ⟨rfl, rfl⟩
      have hkk := hk1
      rcases key with hq1 | hq8 | ⟨hq1, hq8⟩
      · go_wp2
        go_ret
        exact ⟨rfl, hkk⟩
      · go_wp2
        go_ret
        exact ⟨rfl, hkk⟩
      · have t1 : decide ((q : Int) < 1) = false := by simp; omega
        have HR2 := Hid.mk (HR.out.keep hkk)
        go_wp2_with fail
        refine (number_at _ _ q l _ _ HR2.out HB.out Hq.out rfl hq1 hq8).mono ?_
        rintro e w5 ⟨rfl, rfl⟩
        go_wp2_with fail
        refine (big_at _ _ q _ rfl hq1 hq8 (by omega) HN.out).mono ?_
        rintro e w6 ⟨g2, cp2, rfl, hg2, ho2, hk6⟩
        rw [Int.toNat_natCast, HL.out] at ho2
        have s1 := reads_str' (reads_row ho2) Hq.out cp2
        have s2 := reads_str' (HR2.out.keep hk6) Hq.out cap
        have hkf := hkk.trans hk6
        clear ho2 hg2 hk6 hkk
        go_wp2
        go_ret
        exact ⟨ret_bool (by simp), hkf⟩
end Go.Proofs.Ytoghkbajdljheaa
