import Derived.Test.YthhegomjipbdbaaGreatDoorNZ
import Derived.Lib.Strings
import Derived.Lib.Slices
import Derived.Lib.Small
import Derived.Lib.Walk
import Derived.Lib.BitFns
import Derived.Test.YthhegomjipbdbaaGreatDoorWZ
import Derived.WalkKit
import Derived.WalkSpells
import Derived.WalkLawsBesides
import Derived.Maps.AppendAt
import Derived.Deep.RegionHeld3
import Derived.Deep.RegionWith
import Derived.Deep.DeepCutAuto
import Derived.Deep.QuietTactic
import Derived.BigQuiet
import Derived.Laws.CopyOwn
import Derived.Laws.OwnMore
import Derived.Test.YthhegomjipbdbaaGreatDoorcC1
namespace Go.Proofs.YthhegomjipbdbaaGreatDoor
open Go.RowKit

theorem tab_int (x : Int) (h0 : 0 ≤ x) (h : x.toNat < Lib.len8tab.size) : wrap64 ((Lib.len8tab[x.toNat]'h).toNat : Int) = (Lib.bitLen x.toNat : Int) ∧ Lib.bitLen x.toNat ≤ 8 := by
  have h2 : x.toNat < 256 := by rw [← Lib.len8tab_size]; exact h
  have hl : Lib.bitLen x.toNat ≤ 8 := Lib.bitLen_le8 ⟨x.toNat, h2⟩
  have e := Lib.len8_of x h0 (by omega)
  unfold Lib.len8 at e
  rw [getElem?_pos Lib.len8tab x.toNat h, Option.getD_some] at e
  refine ⟨?_, hl⟩
  rw [e]
  unfold wrap64
  omega

set_option maxHeartbeats 4000000 in
set_option maxRecDepth 100000 in
theorem len32_any (x : Int) (w : World) (h0 : 0 ≤ x) (h1 : x ≤ 4294967295) :
    Calls Tryz.prog 184 #[.int .u32 x] w fun e w' => e = .returned (.int .i64 (Lib.bitLen x.toNat)) ∧ w' = w := by
  have hsz := Lib.len8tab_size
  by_cases c1 : x < 65536
  · by_cases c2 : x < 256
    · go_enter Tryz.func184, Tryz.ntmps184
      go_wp2
      go_ret
      refine ⟨congrArg Ending.returned (congrArg (Value.int IntKind.i64) ?_), rfl⟩
      have t := tab_int (x) (by omega) (by rw [Lib.len8tab_size]; omega)
      rw [t.1]
      unfold wrap64
      omega
    · go_enter Tryz.func184, Tryz.ntmps184
      go_wp2
      go_ret
      refine ⟨congrArg Ending.returned (congrArg (Value.int IntKind.i64) ?_), rfl⟩
      have t := tab_int (x / 256) (by omega) (by rw [Lib.len8tab_size]; omega)
      rw [t.1]
      have s := Lib.bitLen_shift8 x.toNat (by omega) (by omega)
      have e : (x / 256).toNat = x.toNat / 256 := by omega
      have l := t.2
      rw [e] at l ⊢
      unfold wrap64
      omega
  · by_cases c2 : x / 65536 < 256
    · go_enter Tryz.func184, Tryz.ntmps184
      go_wp2
      go_ret
      refine ⟨congrArg Ending.returned (congrArg (Value.int IntKind.i64) ?_), rfl⟩
      have t := tab_int (x / 65536) (by omega) (by rw [Lib.len8tab_size]; omega)
      rw [t.1]
      have s := Lib.bitLen_shift16 x.toNat (by omega) (by omega)
      have e : (x / 65536).toNat = x.toNat / 65536 := by omega
      have l := t.2
      rw [e] at l ⊢
      unfold wrap64
      omega
    · go_enter Tryz.func184, Tryz.ntmps184
      go_wp2
      go_ret
      refine ⟨congrArg Ending.returned (congrArg (Value.int IntKind.i64) ?_), rfl⟩
      have t := tab_int (x / 65536 / 256) (by omega) (by rw [Lib.len8tab_size]; omega)
      rw [t.1]
      have s := Lib.bitLen_shift24 x.toNat (by omega) (by omega)
      have e : (x / 65536 / 256).toNat = x.toNat / 16777216 := by omega
      have l := t.2
      rw [e] at l ⊢
      unfold wrap64
      omega

theorem nextN_lt (l : List Nat) (t n : Nat) : nextN l t n < 2 ^ n := Nat.mod_lt _ (Nat.two_pow_pos _)

/-- Two numbers taken one behind the other. -/
theorem nextN_join (l : List Nat) (t a b : Nat) (h : t + a + b ≤ 8 * l.length) : nextN l t (a + b) = nextN l t a * 2 ^ b + nextN l (t + a) b := by
  unfold nextN
  have e1 : 8 * l.length - (t + a) = (8 * l.length - (t + (a + b))) + b := by omega
  have e2 : t + a + b = t + (a + b) := by omega
  have e3 : num l / 2 ^ (8 * l.length - (t + (a + b)) + b) = num l / 2 ^ (8 * l.length - (t + (a + b))) / 2 ^ b := by rw [Nat.pow_add, ← Nat.div_div_eq_div_mul]
  rw [e1, e2, e3]
  generalize num l / 2 ^ (8 * l.length - (t + (a + b))) = Y
  rw [Nat.add_comm a b, Nat.pow_add, Nat.mod_mul, Nat.mul_comm (2 ^ b), Nat.add_comm]

/-- One bit out of a number. -/
theorem nextN_bit (l : List Nat) (t m i : Nat) (hi : i < m) (h : t + m ≤ 8 * l.length) : nextN l (t + i) 1 = nextN l t m / 2 ^ (m - 1 - i) % 2 := by
  have h1 := nextN_join l t i (m - i) (by omega)
  have h2 := nextN_join l (t + i) 1 (m - i - 1) (by omega)
  rw [show i + (m - i) = m by omega] at h1
  rw [show 1 + (m - i - 1) = m - i by omega] at h2
  have l3 := nextN_lt l (t + i + 1) (m - i - 1)
  have l4 := nextN_lt l (t + i) 1
  have e : m - i = (m - 1 - i) + 1 := by omega
  have e' : m - i - 1 = m - 1 - i := by omega
  rw [e'] at h2 l3
  rw [h1, h2, e, Nat.pow_succ]
  generalize nextN l t i = A at *
  generalize nextN l (t + i) 1 = Bt at *
  generalize nextN l (t + i + 1) (m - 1 - i) = C at *
  generalize 2 ^ (m - 1 - i) = P at *
  have e3 : A * (P * 2) + (Bt * P + C) = (A * 2 + Bt) * P + C := by rw [Nat.add_mul, Nat.mul_assoc, Nat.mul_comm 2 P, Nat.add_assoc]
  rw [e3, Nat.add_comm, Nat.add_mul_div_right _ _ (by omega), Nat.div_eq_of_lt l3, Nat.zero_add]
  omega

theorem bitLen_zero : Lib.bitLen 0 = 0 := by decide
theorem bitLen_bounds (x : Nat) (h : x < 2 ^ 64) (h0 : x ≠ 0) : 1 ≤ Lib.bitLen x ∧ 2 ^ (Lib.bitLen x - 1) ≤ x ∧ x < 2 ^ Lib.bitLen x := by
  induction x using Nat.strongRecOn with
  | _ x ih =>
    have hh := Lib.bitLen_half x h0 h
    by_cases h1 : x / 2 = 0
    · have : x = 1 := by omega
      subst this
      decide
    · have := ih (x / 2) (by omega) (by omega) h1
      rw [hh]
      have e : 1 + Lib.bitLen (x / 2) - 1 = (Lib.bitLen (x / 2) - 1) + 1 := by omega
      rw [e, Nat.pow_succ, Nat.add_comm 1, Nat.pow_succ]
      omega

/-- What Get comes to. -/
def GetRes (l : List Nat) (t n : Nat) (X E : Int) (t' : Nat) : Prop :=
  (t + n ≤ 8 * l.length ∧ X = (nextN l t n : Int) ∧ E = 0 ∧ t' = t + n) ∨ (8 * l.length < t + n ∧ X = 0 ∧ E = 13 ∧ t' = t)

theorem getRes_ex (l : List Nat) (t n : Nat) : ∃ X E t', GetRes l t n X E t' := by
  by_cases h : t + n ≤ 8 * l.length
  · exact ⟨_, _, _, .inl ⟨h, rfl, rfl, rfl⟩⟩
  · exact ⟨_, _, _, .inr ⟨by omega, rfl, rfl, rfl⟩⟩

/-- What Zeros comes to. -/
def ZerosRes (l : List Nat) (t n : Nat) (Z E : Int) (t' : Nat) : Prop :=
  (∃ j, j < n ∧ t + j < 8 * l.length ∧ (∀ i, i < j → nextN l (t + i) 1 = 0) ∧ nextN l (t + j) 1 = 1 ∧ Z = (j : Int) ∧ E = 0 ∧ t' = t + j + 1) ∨
  (t + n ≤ 8 * l.length ∧ (∀ i, i < n → nextN l (t + i) 1 = 0) ∧ Z = (n : Int) ∧ E = 0 ∧ t' = t + n) ∨
  (8 * l.length < t + n ∧ (∀ i, t + i < 8 * l.length → nextN l (t + i) 1 = 0) ∧ Z = 0 ∧ E = 13 ∧ t' = t)

/-- The noughts ahead of the first one of m bits. -/
theorem lead (l : List Nat) (t m : Nat) (hm : m ≤ 32) (h : t + m ≤ 8 * l.length) (hx : nextN l t m ≠ 0) :
    Lib.bitLen (nextN l t m) ≤ m ∧ 1 ≤ Lib.bitLen (nextN l t m) ∧ (∀ i, i < m - Lib.bitLen (nextN l t m) → nextN l (t + i) 1 = 0) ∧ nextN l (t + (m - Lib.bitLen (nextN l t m))) 1 = 1 := by
  have hlt := nextN_lt l t m
  have h64 : nextN l t m < 2 ^ 64 := Nat.lt_of_lt_of_le hlt (Nat.pow_le_pow_right (by decide) (by omega))
  obtain ⟨b1, b2, b3⟩ := bitLen_bounds _ h64 hx
  have hle := Lib.bitLen_le (nextN l t m) m (by omega) hlt
  refine ⟨hle, b1, fun i hi => ?_, ?_⟩
  · rw [nextN_bit l t m i (by omega) h, Nat.div_eq_of_lt]
    exact Nat.lt_of_lt_of_le b3 (Nat.pow_le_pow_right (by decide) (by omega))
  · rw [nextN_bit l t m _ (by omega) h, show m - 1 - (m - Lib.bitLen (nextN l t m)) = Lib.bitLen (nextN l t m) - 1 by omega]
    have e : 2 ^ Lib.bitLen (nextN l t m) = 2 * 2 ^ (Lib.bitLen (nextN l t m) - 1) := by
      rw [← Nat.pow_succ']; congr 1; omega
    have : nextN l t m / 2 ^ (Lib.bitLen (nextN l t m) - 1) = 1 := by
      rw [Nat.div_eq_of_lt_le] <;> omega
    rw [this]

theorem lead_none (l : List Nat) (t m : Nat) (h : t + m ≤ 8 * l.length) (hx : nextN l t m = 0) : ∀ i, i < m → nextN l (t + i) 1 = 0 := by
  intro i hi
  rw [nextN_bit l t m i hi h, hx]
  simp

theorem len32_at (x : Int) (b : Nat) (w : World) (h0 : 0 ≤ x) (h1 : x ≤ 4294967295) (hb : b = Lib.bitLen x.toNat) :
    Calls Tryz.prog 184 #[.int .u32 x] w fun e w' => e = .returned (.int .i64 (b : Int)) ∧ w' = w := by
  subst hb
  exact len32_any x w h0 h1

theorem next_u32 (l : List Nat) (t k : Nat) (h : k ≤ 32) : (nextN l t k : Int) ≤ 4294967295 := by
  have h1 := nextN_lt l t k
  have h2 : (2 : Nat) ^ k ≤ 2 ^ 32 := Nat.pow_le_pow_right (by decide) h
  have h3 : (2 : Nat) ^ 32 = 4294967296 := by decide
  have h4 : nextN l t k < 4294967296 := by rw [← h3]; exact Nat.lt_of_lt_of_le h1 h2
  omega

end Go.Proofs.YthhegomjipbdbaaGreatDoor

namespace Go.Proofs.YthhegomjipbdbaaGreatDoor.Tl
open Go.RowKit

/-- A byte as a value. -/
def byt (b : Nat) : Value := .int .u16 (b : Int)

theorem Tryz.info93 : (Tryz.prog.info? 93).map (fun i => (i.zero, i.size, i.bytes)) = some (some (.int .u16 0), 1, 2) := by kernel_rfl

theorem madeBytes (n : Nat) : (madeCells (Value.int .u16 0).cells (n * 1)).toList = List.replicate n (byt 0) := by
  rw [Nat.mul_one]; exact toList_madeCells_one _ _

theorem bytes_one (l : List Nat) : ∀ v ∈ l.map byt, v.oneCell' = true := by
  intro v hv
  simp only [List.mem_map] at hv
  obtain ⟨b, _, rfl⟩ := hv
  rfl

theorem copy_run (w : World) (g n dcap : Nat) (ao : Option Addr) (m cp : Nat) (cur cs : List Value) (hr : w.heap[g]? = some (.cells cur.toArray 93 (0, 0))) (hcur : cur.length = n) (hm : cs.length = m) (hmn : m ≤ n)
    (hpos : 0 < m → ∃ ad, ao = some ad ∧ ∀ j u, cs[j]? = some u → w.cell? (ad.add j) = some u) (hone : ∀ v ∈ cs, v.oneCell' = true) :
    ∃ w2, Sem.run Tryz.prog (Builtin.copy_ #[94, 94] 3 #[.slice (some ⟨g, 0, none⟩) n dcap, .slice ao m cp]) w = .ok (goInt m) w2 ∧ w2.heap[g]? = some (.cells (cs ++ cur.drop m).toArray 93 (0, 0)) ∧ Kept [g] w w2 := by
  obtain ⟨i0, hi, hz0, hz1, hz2⟩ := info_parts Tryz.info93
  have hsz : (Tryz.prog.info? 93).map (·.size) = some 1 := by rw [hi]; simp [hz1]
  by_cases h0 : m = 0
  · subst h0
    have hcs : cs = [] := List.eq_nil_of_length_eq_zero hm
    subst hcs
    exact ⟨w, run_copy_none w 94 94 3 93 _ _ _ _ _ _ Tryz.underlying94 hsz (by simp), by simpa using hr, Kept.refl _ _⟩
  · obtain ⟨ad, rfl, hsrc⟩ := hpos (by omega)
    have h := run_copy_row (P := Tryz.prog) w 94 94 3 93 g 0 n dcap ad m cp cur.toArray 93 cs Tryz.underlying94 hsz hr (by show _ = min _ _; omega) hsrc (by simp; omega) hone
    rw [hm] at h
    refine ⟨w.setRow g (cs ++ cur.drop m).toArray, ?_, ?_, ?_⟩
    · refine h.trans ?_
      simp
    · exact setRow_heap w g _ _ 93 _ hr
    · exact ⟨rfl, rfl, rfl, by simp [World.setRow], fun k _ hk => setRow_other w g k _ (by simpa using hk)⟩

/-- A slice's elements are these bytes. -/
def Reads (w : World) (ao : Option Addr) (l : List Nat) : Prop :=
  l = [] ∨ ∃ g off, ao = some ⟨g, off, none⟩ ∧ ∀ i, i < l.length → w.cell? ⟨g, off + i, none⟩ = some (byt (l.getD i 0))

def Byts (l : List Nat) : Prop := ∀ b ∈ l, b < 65536

theorem getD_lt (l : List Nat) (k : Nat) (hb : Byts l) : l.getD k 0 < 65536 := by
  rw [List.getD_eq_getElem?_getD]
  rcases h : l[k]? with _ | x
  · simp
  · exact hb x (List.mem_of_getElem? h)

theorem Reads.kept {w w' : World} {ao : Option Addr} {l : List Nat} {ks : List Nat} (h : Reads w ao l) (hk : Kept ks w w') (hn : ∀ g off, ao = some ⟨g, off, none⟩ → g ∉ ks) : Reads w' ao l := by
  rcases h with h | ⟨g, off, rfl, hc⟩
  · exact .inl h
  · refine .inr ⟨g, off, rfl, fun i hi => ?_⟩
    have h1 := hc i hi
    have hlt := World.block_lt_of_cell? w _ h1
    exact (World.cell?_of_block (a := ⟨g, off + i, none⟩) (hk.block g hlt (hn g off rfl))).trans h1

theorem Reads.keep {w w' : World} {ao : Option Addr} {l : List Nat} (h : Reads w ao l) (hk : Kept [] w w') : Reads w' ao l := h.kept hk (by simp)

theorem reads_row {w : World} {ao : Option Addr} {base n cap : Nat} {l : List Nat} (h : w.ownsRow base 93 1 (.slice ao n cap) n (l.map byt)) : Reads w ao l := by
  rcases h.2 with ⟨h1, hn⟩ | ⟨g, cap', cur, h1, _⟩
  · left
    have := h.1
    simp at this
    apply List.eq_nil_of_length_eq_zero
    omega
  · right
    simp at h1
    obtain ⟨rfl, rfl⟩ := h1
    refine ⟨g, 0, rfl, fun i hi => ?_⟩
    have hc := h.cells (g := g) rfl i (byt (l.getD i 0)) (by simp [hi])
    have hadd : (⟨g, 0, none⟩ : Addr).add i = ⟨g, 0 + i, none⟩ := by unfold Addr.add; split <;> simp_all
    rw [hadd] at hc
    exact hc

/-- What is told of a slice of bytes that came in. -/
def IsRow (k : IntKind) (w : World) (a : Option Addr) (len cap : Nat) (zs : List Int) : Prop :=
  (a = none ∧ len = 0 ∧ cap = 0 ∧ zs = []) ∨
  ∃ x, a = some x ∧ len ≤ cap ∧ cap ≤ maxLen ∧ zs.length = cap ∧ (∀ i, i < zs.length → w.cell? (x.add i) = some (.int k (zs.getD i 0))) ∧ ∀ n ∈ zs, (Lit.int k n).wf = true

theorem isRow_reads {w : World} {a : Option Addr} {len cap : Nat} {zs : List Int} (h : IsRow .u16 w a len cap zs) : ∃ l, l.length = len ∧ Byts l ∧ Reads w a l ∧ len ≤ 9223372036854775807 := by
  rcases h with ⟨rfl, rfl, rfl, rfl⟩ | ⟨x, rfl, hl, hm, hz, hc, hw⟩
  · exact ⟨[], rfl, by simp [Byts], .inl rfl, by decide⟩
  · have hwf : ∀ n ∈ zs, 0 ≤ n ∧ n < 65536 := fun n hn => by
      have := hw n hn
      simp [Lit.wf] at this
      have h1 : IntKind.u16.min = 0 := by decide
      have h2 : IntKind.u16.max = 65535 := by decide
      omega
    refine ⟨(zs.take len).map Int.toNat, by simp; omega, ?_, ?_, by unfold maxLen at hm; omega⟩
    · intro b hb
      simp only [List.mem_map] at hb
      obtain ⟨z, hz1, rfl⟩ := hb
      have := hwf z (List.mem_of_mem_take hz1)
      omega
    · by_cases h0 : len = 0
      · subst h0; exact .inl (by simp)
      · right
        obtain ⟨b, off, spot⟩ := x
        have hc0 := hc 0 (by omega)
        have hspot : spot = none := by simpa [Addr.add] using World.cell?_spot hc0
        subst hspot
        refine ⟨b, off, rfl, fun i hi => ?_⟩
        have hil : i < len := by simp at hi; omega
        have h1 := hc i (by omega)
        have hadd : (⟨b, off, none⟩ : Addr).add i = ⟨b, off + i, none⟩ := by unfold Addr.add; split <;> simp_all
        rw [hadd] at h1
        rw [h1]
        have hiz : i < zs.length := by omega
        have := hwf zs[i] (List.getElem_mem hiz)
        simp [byt, hiz, hil]
        omega

theorem reads_src {w : World} {ao : Option Addr} {l : List Nat} (h : Reads w ao l) : 0 < l.length → ∃ ad, ao = some ad ∧ ∀ j u, (l.map byt)[j]? = some u → w.cell? (ad.add j) = some u := by
  intro hp
  rcases h with rfl | ⟨g, off, rfl, hc⟩
  · simp at hp
  · refine ⟨_, rfl, fun j u hu => ?_⟩
    have hj : j < l.length := by
      rcases Nat.lt_or_ge j l.length with h | h
      · exact h
      · rw [List.getElem?_eq_none (by simpa using h)] at hu; cases hu
    have hadd : (⟨g, off, none⟩ : Addr).add j = ⟨g, off + j, none⟩ := by unfold Addr.add; split <;> simp_all
    rw [hadd, hc j hj]
    simp [hj] at hu
    simp [hj, hu]

theorem row_at {w : World} {g e : Nat} {X : List Nat} (h : w.heap[g]? = some (.cells (X.map byt).toArray e (0, 0))) (j : Nat) (hj : j < X.length) : w.cell? ⟨g, j, none⟩ = some (byt (X.getD j 0)) := by
  simp [World.cell?, h, hj]

theorem own_ne {w : World} {B n : Nat} {V : Value} {xs : List Value} {cs : Array Value} {t : TypeId} (h : w.heap[B]? = some (.cells cs t (0, 0))) (ht : t ≠ 93) (ho : w.ownsRow 0 93 1 V n xs) : V.ownBlock ≠ some B := by
  intro e
  rcases ho.2 with ⟨rfl, _⟩ | ⟨g, cap, cur, rfl, _, hg, _⟩
  · simp [Value.ownBlock] at e
  · simp [Value.ownBlock] at e
    subst e
    rw [hg] at h
    simp at h
    exact ht h.2.symm

end Go.Proofs.YthhegomjipbdbaaGreatDoor.Tl

namespace Go.Proofs.YthhegomjipbdbaaGreatDoor.Cr
open Go.RowKit

/-- What is told of a slice of bytes that came in. -/
def IsRow (k : IntKind) (w : World) (a : Option Addr) (len cap : Nat) (zs : List Int) : Prop :=
  (a = none ∧ len = 0 ∧ cap = 0 ∧ zs = []) ∨
  ∃ x, a = some x ∧ len ≤ cap ∧ cap ≤ maxLen ∧ zs.length = cap ∧ (∀ i, i < zs.length → w.cell? (x.add i) = some (.int k (zs.getD i 0))) ∧ ∀ n ∈ zs, (Lit.int k n).wf = true

theorem isRow_reads {w : World} {a : Option Addr} {len cap : Nat} {zs : List Int} (h : IsRow .u8 w a len cap zs) : ∃ l, l.length = len ∧ Byts l ∧ Reads w a l ∧ len ≤ 9223372036854775807 := by
  rcases h with ⟨rfl, rfl, rfl, rfl⟩ | ⟨x, rfl, hl, hm, hz, hc, hw⟩
  · exact ⟨[], rfl, by simp [Byts], .inl rfl, by decide⟩
  · have hwf : ∀ n ∈ zs, 0 ≤ n ∧ n < 256 := fun n hn => by
      have := hw n hn
      simp [Lit.wf] at this
      have h1 : IntKind.u8.min = 0 := by decide
      have h2 : IntKind.u8.max = 255 := by decide
      omega
    refine ⟨(zs.take len).map Int.toNat, by simp; omega, ?_, ?_, by unfold maxLen at hm; omega⟩
    · intro b hb
      simp only [List.mem_map] at hb
      obtain ⟨z, hz1, rfl⟩ := hb
      have := hwf z (List.mem_of_mem_take hz1)
      omega
    · by_cases h0 : len = 0
      · subst h0; exact .inl (by simp)
      · right
        obtain ⟨b, off, spot⟩ := x
        have hc0 := hc 0 (by omega)
        have hspot : spot = none := by simpa [Addr.add] using World.cell?_spot hc0
        subst hspot
        refine ⟨b, off, rfl, fun i hi => ?_⟩
        have hil : i < len := by simp at hi; omega
        have h1 := hc i (by omega)
        have hadd : (⟨b, off, none⟩ : Addr).add i = ⟨b, off + i, none⟩ := by unfold Addr.add; split <;> simp_all
        rw [hadd] at h1
        rw [h1]
        have hiz : i < zs.length := by omega
        have := hwf zs[i] (List.getElem_mem hiz)
        simp [byt, hiz, hil]
        omega

theorem row_at {w : World} {g e : Nat} {X : List Nat} (h : w.heap[g]? = some (.cells (X.map byt).toArray e (0, 0))) (j : Nat) (hj : j < X.length) : w.cell? ⟨g, j, none⟩ = some (byt (X.getD j 0)) := by
  simp [World.cell?, h, hj]

end Go.Proofs.YthhegomjipbdbaaGreatDoor.Cr

namespace Go.Proofs.YthhegomjipbdbaaGreatDoor.Cr
open Go.RowKit

/-- A rest as a number of Go. -/
def nm (a : BitVec 32) : Int := (a.toNat : Int)

theorem nm_lo (a : BitVec 32) : 0 ≤ nm a := by unfold nm; omega
theorem nm_hi (a : BitVec 32) : nm a < 4294967296 := by have := a.isLt; unfold nm; omega
theorem nm_eq {a b : BitVec 32} : nm a = nm b ↔ a = b := by
  unfold nm
  constructor
  · intro h; exact BitVec.eq_of_toNat_eq (by omega)
  · rintro rfl; rfl

theorem nm_of (n : Int) (h0 : 0 ≤ n) (h1 : n < 4294967296) : ∃ a, n = nm a := ⟨BitVec.ofNat 32 n.toNat, by
  unfold nm
  rw [BitVec.toNat_ofNat]
  omega⟩

theorem nm_xor (a b : BitVec 32) : bits BinOp.xor IntKind.u32 (nm a) (nm b) = nm (a ^^^ b) := by
  unfold nm
  rw [u32_xor_nat _ _ a.isLt b.isLt, BitVec.toNat_xor]

theorem nm_P : (79764919 : Int) = nm P := by decide

theorem nm_shl (a : BitVec 32) (n : Nat) : nm a * 2 ^ n % 4294967296 = nm (a <<< n) := by
  unfold nm
  rw [BitVec.toNat_shiftLeft, Nat.shiftLeft_eq]
  have : ((a.toNat * 2 ^ n : Nat) : Int) = (a.toNat : Int) * 2 ^ n := by simp
  omega

theorem nm_msb (a : BitVec 32) : a.msb = decide (2147483648 ≤ nm a) := by
  rw [BitVec.msb_eq_decide]
  unfold nm
  simp only [show 2 ^ (32 - 1) = 2147483648 from rfl]
  congr 1
  apply propext; omega

theorem tx_nm_hi (a : BitVec 32) (h : 2147483648 ≤ nm a) : bits BinOp.xor IntKind.u32 (nm a * 2 % 4294967296) 79764919 = nm (tx a) := by
  have hs := nm_shl a 1
  rw [Int.pow_one] at hs
  rw [hs, nm_P, nm_xor]
  unfold tx
  rw [nm_msb]
  simp [h]

theorem tx_nm_lo (a : BitVec 32) (h : nm a < 2147483648) : nm a * 2 = nm (tx a) := by
  have hs := nm_shl a 1
  rw [Int.pow_one] at hs
  have h0 := nm_lo a
  have e : nm a * 2 % 4294967296 = nm a * 2 := by omega
  rw [e] at hs
  rw [hs]
  unfold tx
  rw [nm_msb]
  simp [show ¬ 2147483648 ≤ nm a by omega]

set_option maxHeartbeats 400000 in
theorem timesX_any (a : BitVec 32) (w : World) :
    Calls Tryz.prog 141 #[.int .u32 (nm a)] w fun e w' => e = .returned (.int .u32 (nm (tx a))) ∧ w' = w := by
  have h0 := nm_lo a
  have h1 := nm_hi a
  by_cases h : 2147483648 ≤ nm a
  · have hd : nm a / 2147483648 = 1 := by omega
    have hx := tx_nm_hi a h
    go_enter Tryz.func141, Tryz.ntmps141
    go_wp2
    go_ret
    exact ⟨rfl, rfl⟩
  · have hd : nm a / 2147483648 = 0 := by omega
    have hx := tx_nm_lo a (by omega)
    go_enter Tryz.func141, Tryz.ntmps141
    go_wp2
    go_ret
    exact ⟨rfl, rfl⟩

theorem nm_bit (a : BitVec 32) (j : Nat) : a.getLsbD j = decide (nm a / 2 ^ j % 2 = 1) := by
  have h : a.getLsbD j = a.toNat.testBit j := by rw [BitVec.testBit_toNat]
  rw [h, Nat.testBit_eq_decide_div_mod_eq]
  unfold nm
  have : ((a.toNat / 2 ^ j : Nat) : Int) = (a.toNat : Int) / 2 ^ j := by simp
  congr 1
  apply propext
  constructor <;> intro h <;> omega

theorem nm_top (a : BitVec 32) (k : Nat) (hk : k < 32) : nm a * 2 ^ k % 4294967296 / 2147483648 = if a.getLsbD (31 - k) then 1 else 0 := by
  rw [nm_shl]
  have h1 := nm_hi (a <<< k)
  have h0 := nm_lo (a <<< k)
  have hm := nm_msb (a <<< k)
  rw [BitVec.msb_eq_getLsbD_last, BitVec.getLsbD_shiftLeft] at hm
  simp only [show 32 - 1 = 31 from rfl] at hm
  rw [show decide (31 < 32) = true from rfl, show decide (31 < k) = false from by simp; omega] at hm
  simp only [Bool.not_false, Bool.true_and] at hm
  rw [hm]
  by_cases h : 2147483648 ≤ nm (a <<< k)
  · simp [h]; omega
  · simp [h]; omega

theorem mh_pos (a b : BitVec 32) (k : Nat) (h : a.getLsbD (31 - k) = true) : tx (mh a b k) ^^^ b = mh a b (k + 1) := by simp only [mh, h, if_true]
theorem mh_neg (a b : BitVec 32) (k : Nat) (h : a.getLsbD (31 - k) = false) : tx (mh a b k) = mh a b (k + 1) := by simp only [mh, h, Bool.false_eq_true, if_false, BitVec.xor_zero]

theorem nm_zero : (0 : Int) = nm 0#32 := rfl
theorem nm_one : (1 : Int) = nm 1#32 := rfl

/-- A coefficient as a number, as a rest. -/
def bi (c : Bool) : Int := if c then 1 else 0
def bv (c : Bool) : BitVec 32 := if c then 1#32 else 0#32

theorem bi_or (c : Bool) : bi c = 0 ∨ bi c = 1 := by cases c <;> simp [bi]

theorem nm_step (r : BitVec 32) (c : Bool) : (2 : Int) * nm r % (4294967296 : Int) + bi c = nm ((r <<< 1) ^^^ bv c) := by
  have hs := nm_shl r 1
  rw [Int.pow_one] at hs
  rw [Int.mul_comm, hs]
  cases c
  · simp [bi, bv]
  · simp only [bi, bv, if_true]
    have h : (r <<< 1) ^^^ 1#32 = (r <<< 1) + 1#32 := by
      rw [BitVec.add_eq_or_of_and_eq_zero]
      · ext i hi
        simp [BitVec.getElem_one]
        rcases i with _ | i <;> simp
      · ext i hi
        simp [BitVec.getElem_one]
        omega
    rw [h]
    unfold nm
    rw [BitVec.toNat_add]
    have h2 : (r <<< 1).toNat = r.toNat * 2 % 4294967296 := by simp [Nat.shiftLeft_eq]
    have h3 := r.isLt
    rw [h2]
    simp
    omega

theorem step_hi (r : BitVec 32) (c : Bool) (h : 2147483648 ≤ nm r) : bits BinOp.xor IntKind.u32 ((2 : Int) * nm r % (4294967296 : Int) + bi c) 79764919 = nm (tx r ^^^ bv c) := by
  rw [nm_step, nm_P, nm_xor]
  unfold tx
  rw [nm_msb]
  simp only [h, decide_true, if_true]
  rw [BitVec.xor_assoc, BitVec.xor_comm (bv c), ← BitVec.xor_assoc]

theorem step_lo (r : BitVec 32) (c : Bool) (h : nm r < 2147483648) : (2 : Int) * nm r + bi c = nm (tx r ^^^ bv c) := by
  have hs := nm_step r c
  have h0 := nm_lo r
  rw [show (2 : Int) * nm r % (4294967296 : Int) = 2 * nm r by omega] at hs
  rw [hs]
  unfold tx
  rw [nm_msb]
  simp [show ¬ 2147483648 ≤ nm r by omega]

set_option maxHeartbeats 400000 in
theorem step_any (r : BitVec 32) (c : Bool) (w : World) :
    Calls Tryz.prog 106 #[.int .u32 (nm r), .int .u32 (bi c)] w fun e w' => e = .returned (.int .u32 (nm (tx r ^^^ bv c))) ∧ w' = w := by
  have h0 := nm_lo r
  have h1 := nm_hi r
  have hc := bi_or c
  have hi := Hid.mk (step_hi r c)
  have lo := Hid.mk (step_lo r c)
  obtain ⟨q, hq⟩ : ∃ q, q = bi c := ⟨_, rfl⟩
  rw [← hq] at hi lo hc ⊢
  clear hq
  by_cases h : 2147483648 ≤ nm r
  · go_enter Tryz.func106, Tryz.ntmps106
    go_wp2
    go_ret
    exact ⟨ret_int (hi.out h), rfl⟩
  · go_enter Tryz.func106, Tryz.ntmps106
    go_wp2
    go_ret
    exact ⟨ret_int (lo.out (by omega)), rfl⟩

end Go.Proofs.YthhegomjipbdbaaGreatDoor.Cr

namespace Go.Proofs.YthhegomjipbdbaaGreatDoor.Cr
open Go.RowKit

/-- The rest of x^(8 n). -/
def far (n : Nat) : BitVec 32 := X (8 * n) 1#32

theorem far_mul (p q : Nat) : M (far p) (far q) = far (p + q) := by
  unfold far
  rw [M_X_X, Nat.mul_add]
theorem far_zero : nm (far 0) = 1 := rfl
theorem far_one : nm (far 1) = 256 := by decide +kernel

/-- What Join comes to. -/
def jn (a b : BitVec 32) (n : Nat) : BitVec 32 := b ^^^ X (8 * n) a

theorem jn_code (a b : BitVec 32) (n : Nat) : b ^^^ M a (far n) = jn a b n := by rw [far, M_X]; rfl
theorem jn_doc (a b : BitVec 32) (n : Nat) : b ^^^ M (far n) a = jn a b n := by rw [M_comm, jn_code]

end Go.Proofs.YthhegomjipbdbaaGreatDoor.Cr
