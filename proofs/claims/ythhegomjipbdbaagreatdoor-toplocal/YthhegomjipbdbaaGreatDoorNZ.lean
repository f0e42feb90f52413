import Derived.Test.YthhegomjipbdbaaGreatDoorWZ
namespace Go.Proofs.YthhegomjipbdbaaGreatDoor
open Go.RowKit

theorem newWriter_at (w : World) : WriterAt (w.alloc (.cells #[.slice none 0 0, .int .u64 0, .int .i64 0] 213)) w.heap.size (.slice none 0 0) 0 0 := by
  refine ⟨?_, ?_⟩
  · rw [heap_alloc_new]; simp
  · simpa [big] using World.ownsRow_nil _ 0 5 1

/-- The text that bytes are. -/
def bstr (l : List Nat) : ByteArray := strOfNums (l.map fun b : Nat => (b : Int))

theorem row_bytes {w : World} {g e : Nat} {l : List Nat} {rest : List Value} (h : w.heap[g]? = some (.cells (l.map byt ++ rest).toArray e (0, 0))) (i : Nat) (hi : i < l.length) : w.cell? ⟨g, 0 + i, none⟩ = some (.int .u8 ((l.map fun b : Nat => (b : Int)).getD i 0)) := by
  simp [World.cell?, h, byt, hi, List.getElem?_append_left]

theorem str_run {w : World} {g cap : Nat} {l : List Nat} {rest : List Value} (h : w.heap[g]? = some (.cells (l.map byt ++ rest).toArray 5 (0, 0))) :
    Sem.run Tryz.prog (convert 28 9 (.slice (some ⟨g, 0, none⟩) l.length cap)) w = .ok (.string (bstr l)) w :=
  run_convert_bytes_arg w 28 5 Tryz.underlying28 Tryz.underlying5 g 0 l.length cap (l.map fun b : Nat => (b : Int)) (by simp) (fun i hi => row_bytes h i hi) 9 Tryz.underlying9




end Go.Proofs.YthhegomjipbdbaaGreatDoor

namespace Go.Proofs.YthhegomjipbdbaaGreatDoor
open Go.RowKit

/-- A slice's elements are these bytes. -/
def Reads (w : World) (ao : Option Addr) (l : List Nat) : Prop :=
  l = [] ∨ ∃ g off, ao = some ⟨g, off, none⟩ ∧ ∀ i, i < l.length → w.cell? ⟨g, off + i, none⟩ = some (byt (l.getD i 0))

def Byts (l : List Nat) : Prop := ∀ b ∈ l, b < 256

theorem num_take_succ (l : List Nat) (k : Nat) (h : k < l.length) : num (l.take (k + 1)) = num (l.take k) * 256 + l.getD k 0 := by
  rw [List.take_succ_eq_append_getElem h, num_snoc]; simp [h]

theorem num_take_lt (l : List Nat) (k : Nat) (hk : k ≤ 8) (hb : Byts l) : num (l.take k) < 18446744073709551616 := by
  have h := num_lt (l.take k) (fun b h => hb b (List.mem_of_mem_take h))
  have h2 : 256 ^ (l.take k).length ≤ 256 ^ 8 := Nat.pow_le_pow_right (by decide) (by simp; omega)
  have h3 : 256 ^ 8 = 18446744073709551616 := by decide
  omega

theorem getD_lt (l : List Nat) (k : Nat) (hb : Byts l) : l.getD k 0 < 256 := by
  rw [List.getD_eq_getElem?_getD]
  rcases h : l[k]? with _ | x
  · simp
  · exact hb x (List.mem_of_getElem? h)

theorem or_byte (a b : Nat) (hb : b < 256) (h : a * 256 + b < 18446744073709551616) :
    bits BinOp.or IntKind.u64 ((a : Int) * 256) (IntKind.u64.wrap (b : Int)) = ((a * 256 + b : Nat) : Int) := by
  have h1 : a * 256 < 18446744073709551616 := Nat.lt_of_le_of_lt (Nat.le_add_right _ _) h
  have h2 : b < 18446744073709551616 := Nat.lt_of_le_of_lt (Nat.le_add_left _ _) h
  have e1 : ((a : Int) * 256) = ((a * 256 : Nat) : Int) := by omega
  have e2 : IntKind.u64.wrap (b : Int) = (b : Int) := by rw [IntKind.wrap_u64]; omega
  have e3 : a * 256 % 2 ^ 8 = 0 := by rw [show (2 : Nat) ^ 8 = 256 from rfl]; omega
  have e4 : b < 2 ^ 8 := by rw [show (2 : Nat) ^ 8 = 256 from rfl]; exact hb
  rw [e1, e2, u64_or_nat (a * 256) b h1 h2, nat_join 8 (a * 256) b e3 e4]

set_option maxHeartbeats 1000000 in
set_option maxRecDepth 1000000 in
theorem joined_any (ao : Option Addr) (cap : Nat) (l : List Nat) (w : World) (hr : Reads w ao l) (hb : Byts l) (hl : l.length ≤ 8) :
    Calls Tryz.prog 85 #[.slice ao l.length cap] w fun e w' => e = .returned (.int .u64 (num l : Int)) ∧ w' = w := by
  rcases hr with rfl | ⟨g, off, rfl, hc⟩
  · go_enter Tryz.func85, Tryz.ntmps85
    go_wp2
    refine wp_loop_rounds 1 ?_
    rw [rounds_succ]
    go_wp2
    go_ret
    exact ⟨ret_int (by simp [num]), rfl⟩
  · go_enter Tryz.func85, Tryz.ntmps85
    go_wp2
    go_loop [3, 8] (fun v i => ∃ k : Nat, k ≤ l.length ∧ i = .int .i64 k ∧ v = .int .u64 (num (l.take k) : Int)) (fun _ i => l.length - (intOf i).toNat)
    case atStart => exact ⟨0, Nat.zero_le _, rfl, by simp [num]⟩
    case round =>
      obtain ⟨k, hk, rfl, rfl⟩ := hrel
      by_cases hlt : k < l.length
      · have hcell := hc k hlt
        unfold byt at hcell
        have hbk := getD_lt l k hb
        have hs := num_take_succ l k hlt
        have ht := num_take_lt l (k + 1) (by omega) hb
        rw [hs] at ht
        have HO := Hid.mk (or_byte _ _ hbk ht)
        have HS := Hid.mk hs
        clear hs
        clear hc
        go_wp2
        go_round
        case rel =>
          refine ⟨k + 1, by omega, by go_num, ?_⟩
          have h := HO.out
          rw [← HS.out] at h
          rw [← h]
          simp [hlt]
        case measure => simp [intOf]; omega
      · go_wp2
        go_ret
        obtain rfl : k = l.length := by omega
        exact ⟨ret_int (by simp), rfl⟩





/-- Which of n things a raw number speaks of. -/
def pick (c : Int) (n : Int) : Int := if c < 0 then (-(c + 1)) % n else c % n
theorem pick_lo (c n : Int) (h : 0 < n) : 0 ≤ pick c n := by
  unfold pick; split <;> exact Int.emod_nonneg _ (by omega)
theorem pick_hi (c n : Int) (h : 0 < n) : pick c n < n := by
  unfold pick; split <;> exact Int.emod_lt_of_pos _ h

theorem row_some {w : World} {base e n : Nat} {v : Value} {xs : List Value} (h : w.ownsRow base e 1 v n xs) (hn : 0 < n) : ∃ g cap, v = .slice (some ⟨g, 0, none⟩) n cap := by
  rcases h.2 with ⟨_, h1⟩ | ⟨g, cap, cur, h1, _⟩
  · omega
  · exact ⟨g, cap, h1⟩


end Go.Proofs.YthhegomjipbdbaaGreatDoor

namespace Go.Proofs.YthhegomjipbdbaaGreatDoor
open Go.RowKit

theorem Reads.kept {w w' : World} {ao : Option Addr} {l : List Nat} {ks : List Nat} (h : Reads w ao l) (hk : Kept ks w w') (hn : ∀ g off, ao = some ⟨g, off, none⟩ → g ∉ ks) : Reads w' ao l := by
  rcases h with h | ⟨g, off, rfl, hc⟩
  · exact .inl h
  · refine .inr ⟨g, off, rfl, fun i hi => ?_⟩
    have h1 := hc i hi
    have hlt := World.block_lt_of_cell? w _ h1
    exact (World.cell?_of_block (a := ⟨g, off + i, none⟩) (hk.block g hlt (hn g off rfl))).trans h1

theorem Reads.keep {w w' : World} {ao : Option Addr} {l : List Nat} (h : Reads w ao l) (hk : Kept [] w w') : Reads w' ao l := h.kept hk (by simp)

theorem reads_row {w : World} {ao : Option Addr} {base n cap : Nat} {l : List Nat} (h : w.ownsRow base 5 1 (.slice ao n cap) n (l.map byt)) : Reads w ao l := by
  rcases h.2 with ⟨h1, hn⟩ | ⟨g, cap', cur, h1, _⟩
  · left
    have := h.1
    simp at this
    apply List.eq_nil_of_length_eq_zero
    omega
  · right
    simp at h1
    obtain ⟨rfl, rfl⟩ := h1
    refine ⟨g, 0, rfl, fun i hi => ?_⟩
    have hc := h.cells (g := g) rfl i (byt (l.getD i 0)) (by simp [hi])
    have hadd : (⟨g, 0, none⟩ : Addr).add i = ⟨g, 0 + i, none⟩ := by unfold Addr.add; split <;> simp_all
    rw [hadd] at hc
    exact hc

theorem reads_str {w : World} {ao : Option Addr} {l : List Nat} (h : Reads w ao l) (cap : Nat) : Sem.run Tryz.prog (convert 28 9 (.slice ao l.length cap)) w = .ok (.string (bstr l)) w := by
  rcases h with rfl | ⟨g, off, rfl, hc⟩
  · rcases ao with _ | a
    · exact run_convert_bytes_nil w 28 5 Tryz.underlying28 Tryz.underlying5 0 cap 9 Tryz.underlying9
    · have hl : (loadCells a 0).run Tryz.prog w = .ok #[] w := by simpa using run_loadCells_list (P := Tryz.prog) w a [] (by simp)
      have h1 := run_convert_bytes_string (P := Tryz.prog) w 28 9 5 (some a) 0 cap Tryz.underlying28 Tryz.underlying5 Tryz.underlying9
      have h2 := run_bytesToString (P := Tryz.prog) w a 0 cap [] hl
      rw [h2] at h1
      exact h1
  · exact run_convert_bytes_arg w 28 5 Tryz.underlying28 Tryz.underlying5 g off l.length cap (l.map fun b : Nat => (b : Int)) (by simp) (fun i hi => by rw [hc i hi]; simp [byt, hi]) 9 Tryz.underlying9


end Go.Proofs.YthhegomjipbdbaaGreatDoor

namespace Go.Proofs.YthhegomjipbdbaaGreatDoor
open Go.RowKit

/-- The n bits of bytes behind the first t, as a number. -/
def nextN (l : List Nat) (t n : Nat) : Nat := num l / 2 ^ (8 * l.length - (t + n)) % 2 ^ n

theorem num_mid (l : List Nat) (a b : Nat) (hab : a ≤ b) (hb : b ≤ l.length) (hl : Byts l) : num ((l.drop a).take (b - a)) = num l / 256 ^ (l.length - b) % 256 ^ (b - a) := by
  have h1 : l = l.take a ++ ((l.drop a).take (b - a) ++ l.drop b) := by
    have e : (l.drop a).drop (b - a) = l.drop b := by rw [List.drop_drop]; congr 1; omega
    rw [← e, List.take_append_drop, List.take_append_drop]
  have hm : ((l.drop a).take (b - a)).length = b - a := by simp; omega
  have hd : (l.drop b).length = l.length - b := by simp
  have l1 : num (l.drop b) < 256 ^ (l.length - b) := by rw [← hd]; exact num_lt _ (fun x hx => hl x (List.mem_of_mem_drop hx))
  have l2 : num ((l.drop a).take (b - a)) < 256 ^ (b - a) := by
    rw [← hm, hm]
    conv => rhs; rw [← hm]
    exact num_lt _ (fun x hx => hl x (List.mem_of_mem_drop (List.mem_of_mem_take hx)))
  have h2 : num l = (num (l.take a) * 256 ^ (b - a) + num ((l.drop a).take (b - a))) * 256 ^ (l.length - b) + num (l.drop b) := by
    conv => lhs; rw [h1]
    rw [num_append, num_append, List.length_append, hm, hd, Nat.pow_add, Nat.add_mul, ← Nat.mul_assoc, Nat.add_assoc]
  rw [h2, Nat.add_comm _ (num (l.drop b)), Nat.add_mul_div_right _ _ (Nat.pow_pos (by decide)), Nat.div_eq_of_lt l1, Nat.zero_add, Nat.mul_add_mod_self_right, Nat.mod_eq_of_lt l2]

theorem next_eq (l : List Nat) (t n : Nat) (hl : Byts l) (h : t + n ≤ 8 * l.length) :
    num ((l.drop (t / 8)).take ((t + n + 7) / 8 - t / 8)) / 2 ^ (8 * ((t + n + 7) / 8) - (t + n)) % 2 ^ n = nextN l t n := by
  rw [num_mid l _ _ (by omega) (by omega) hl, pow256, pow256, nextN]
  generalize hb : (t + n + 7) / 8 = b at *
  generalize ha : t / 8 = a at *
  have e1 : 8 * (b - a) = (8 * b - (t + n)) + (t + n - 8 * a) := by omega
  rw [e1, Nat.pow_add, Nat.mod_mul_right_div_self, Nat.div_div_eq_div_mul, ← Nat.pow_add]
  have e2 : 8 * (l.length - b) + (8 * b - (t + n)) = 8 * l.length - (t + n) := by omega
  rw [e2, Nat.mod_mod_of_dvd]
  exact Nat.pow_dvd_pow 2 (by omega)

/-- The reader whose struct is block B, over the bytes l in block g, of which t bits are taken. -/
def ReaderAt (w : World) (B g : Nat) (l : List Nat) (t : Nat) : Prop :=
  w.heap[B]? = some (.cells #[.slice (some ⟨g, 0, none⟩) l.length l.length, .int .i64 (t : Int)] 98765 (0, 0)) ∧ w.heap[g]? = some (.cells (l.map byt).toArray 5 (0, 0)) ∧ Byts l ∧ t ≤ 8 * l.length ∧ l.length ≤ 281474976710656

theorem cells_two {w : World} {B : Nat} {a b : Value} {t : TypeId} (h : w.heap[B]? = some (.cells #[a, b] t (0, 0))) :
    w.cell? ⟨B, 0, none⟩ = some a ∧ w.cell? ⟨B, 1, none⟩ = some b ∧ ∀ i, w.frozen? ⟨B, i, none⟩ = false := by
  refine ⟨?_, ?_, ?_⟩ <;> simp [World.cell?, World.frozen?, h]

theorem reads_src {w : World} {ao : Option Addr} {l : List Nat} (h : Reads w ao l) : 0 < l.length → ∃ ad, ao = some ad ∧ ∀ j u, (l.map byt)[j]? = some u → w.cell? (ad.add j) = some u := by
  intro hp
  rcases h with rfl | ⟨g, off, rfl, hc⟩
  · simp at hp
  · refine ⟨_, rfl, fun j u hu => ?_⟩
    have hj : j < l.length := by
      rcases Nat.lt_or_ge j l.length with h | h
      · exact h
      · rw [List.getElem?_eq_none (by simpa using h)] at hu; cases hu
    have hadd : (⟨g, off, none⟩ : Addr).add j = ⟨g, off + j, none⟩ := by unfold Addr.add; split <;> simp_all
    rw [hadd, hc j hj]
    simp [hj] at hu
    simp [hj, hu]

theorem mid_reads {w : World} {g : Nat} {l : List Nat} (a m : Nat) (hg : w.heap[g]? = some (.cells (l.map byt).toArray 5 (0, 0))) (_h : a + m ≤ l.length) :
    Reads w (if l.length = a then some ⟨g, 0, none⟩ else some ⟨g, a, none⟩) ((l.drop a).take m) := by
  by_cases he : l.length = a
  · left; rw [← he]; simp
  · right
    refine ⟨g, a, by simp [he], fun i hi => ?_⟩
    have hi' : i < m ∧ a + i < l.length := by simp at hi; omega
    simp [World.cell?, hg, hi'.1, hi'.2]

theorem reads_if {w : World} {g a : Nat} {l sub : List Nat} {_hd : Decidable (l.length = a)} (h1 : Hid (l.length = a → sub = [])) (h2 : Hid (∀ x, ¬ l.length = a → Reads (w.drewN x) (some ⟨g, a, none⟩) sub)) (x : Nat) :
    Reads (w.drewN x) (if l.length = a then some ⟨g, 0, none⟩ else some ⟨g, a, none⟩) sub := by
  split
  · exact .inl (h1 ‹_›)
  · exact h2 x ‹_›

theorem joined_at (ao : Option Addr) (cap m : Nat) (l : List Nat) (w : World) (hr : Reads w ao l) (hb : Byts l) (hm : l.length = m) (hl : m ≤ 8) :
    Calls Tryz.prog 85 #[.slice ao m cap] w fun e w' => e = .returned (.int .u64 (num l : Int)) ∧ w' = w := by
  subst hm
  exact joined_any ao cap l w hr hb hl

theorem reader_drewN {w : World} {B g : Nat} {l : List Nat} {t : Nat} (h : ReaderAt w B g l t) (q : Nat) : ReaderAt (w.drewN q) B g l t := by
  have hk := (Kept.refl [] w).drewN q
  exact ⟨hk.heap h.1 (by simp), hk.heap h.2.1 (by simp), h.2.2⟩

theorem reader_kept {w w' : World} {B g : Nat} {l : List Nat} {t : Nat} {ks : List Nat} (h : ReaderAt w B g l t) (hk : Kept ks w w') (h1 : B ∉ ks) (h2 : g ∉ ks) : ReaderAt w' B g l t :=
  ⟨hk.heap h.1 h1, hk.heap h.2.1 h2, h.2.2⟩

theorem heap_setCell_two {w : World} {B g : Nat} {l : List Nat} {t : Nat} (h : ReaderAt w B g l t) (t' : Nat) (ht : t' ≤ 8 * l.length) : ReaderAt (w.setCell ⟨B, 1, none⟩ (.int .i64 (t' : Int))) B g l t' := by
  obtain ⟨h1, h2, h3, h4, h5⟩ := h
  have hne : g ≠ B := by intro e; subst e; rw [h1] at h2; simp at h2
  refine ⟨by rw [heap_setCell_at h1]; simp, ?_, h3, ht, h5⟩
  rw [Below.heap_setCell _ _ _ _ (by exact hne)]; exact h2

end Go.Proofs.YthhegomjipbdbaaGreatDoor

namespace Go.Proofs.YthhegomjipbdbaaGreatDoor
open Go.RowKit

set_option maxHeartbeats 400000 in
theorem fits64_any (v n : Int) (w : World) (h0 : 0 ≤ n) (h1 : n ≤ 64) :
    Calls Tryz.prog 115 #[.int .u64 v, .int .i64 n] w fun e w' => e = .returned (.bool (v / 2 ^ n.toNat == 0)) ∧ w' = w := by
  go_enter Tryz.func115, Tryz.ntmps115
  go_wp2
  go_ret
  exact ⟨rfl, rfl⟩

end Go.Proofs.YthhegomjipbdbaaGreatDoor

namespace Go.Proofs.YthhegomjipbdbaaGreatDoor
open Go.RowKit

set_option maxHeartbeats 400000 in
theorem number_any (ao : Option Addr) (cap : Nat) (l : List Nat) (w : World) (hr : Reads w ao l) (hb : Byts l) (h1 : 1 ≤ l.length) (hl : l.length ≤ 8) :
    Calls Tryz.prog 58 #[.slice ao l.length cap] w fun e w' => e = .returned (.tuple #[.int .u64 (num l : Int), .int .i64 0]) ∧ w' = w := by
  have t1 : decide ((l.length : Int) < 1) = false := by simp; omega
  have t2 : ¬ (8 : Int) < (l.length : Int) := by omega
  go_enter Tryz.func58, Tryz.ntmps58
  go_wp2_with (go_at_call 85; refine (joined_any _ _ _ _ hr hb hl).mono ?_; rintro e w' ⟨rfl, rfl⟩)
  go_ret2
  exact ⟨rfl, rfl⟩

set_option maxHeartbeats 400000 in
theorem number_width (ao : Option Addr) (cap n : Nat) (w : World) (h : n < 1 ∨ 8 < n) (hn : n ≤ 9223372036854775807) :
    Calls Tryz.prog 58 #[.slice ao n cap] w fun e w' => e = .returned (.tuple #[.int .u64 0, .int .i64 11]) ∧ w' = w := by
  rcases h with h | h
  · have t1 : (n : Int) < 1 := by omega
    go_enter Tryz.func58, Tryz.ntmps58
    go_wp2
    go_ret2
    exact ⟨rfl, rfl⟩
  · have t1 : decide ((n : Int) < 1) = false := by simp; omega
    have t2 : (8 : Int) < (n : Int) := by omega
    go_enter Tryz.func58, Tryz.ntmps58
    go_wp2
    go_ret2
    exact ⟨rfl, rfl⟩

set_option maxHeartbeats 1000000 in
theorem big_width (n b : Int) (w : World) (h : b < 1 ∨ 8 < b) :
    Calls Tryz.prog 94 #[.int .u64 n, .int .i64 b] w fun e w' => e = .returned (.tuple #[.slice none 0 0, .int .i64 11]) ∧ w' = w := by
  rcases h with h | h
  · go_enter Tryz.func94, Tryz.ntmps94
    go_wp2
    go_ret2
    exact ⟨rfl, rfl⟩
  · have h' : ¬ b < 1 := by omega
    go_enter Tryz.func94, Tryz.ntmps94
    go_wp2
    go_ret2
    exact ⟨rfl, rfl⟩

set_option maxHeartbeats 1000000 in
theorem big_value (n b : Int) (w : World) (h1 : 1 ≤ b) (h2 : b ≤ 8) (hv : (n / 2 ^ (8 * b).toNat == 0) = false) :
    Calls Tryz.prog 94 #[.int .u64 n, .int .i64 b] w fun e w' => e = .returned (.tuple #[.slice none 0 0, .int .i64 12]) ∧ w' = w := by
  have t1 : decide (b < 1) = false := by simp; omega
  go_enter Tryz.func94, Tryz.ntmps94
  go_wp2_with (go_at_call 115; refine (fits64_any _ _ _ (by omega) (by omega)).mono ?_; rintro e w' ⟨rfl, rfl⟩)
  go_ret2
  exact ⟨rfl, rfl⟩

set_option maxHeartbeats 1000000 in
set_option maxRecDepth 1000000 in
theorem big_any (n b : Int) (w : World) (h1 : 1 ≤ b) (h2 : b ≤ 8) (n0 : 0 ≤ n) (hv : (n / 2 ^ (8 * b).toNat == 0) = true) :
    Calls Tryz.prog 94 #[.int .u64 n, .int .i64 b] w fun e w' => ∃ g cap, e = .returned (.tuple #[.slice (some ⟨g, 0, none⟩) b.toNat cap, .int .i64 0]) ∧
      w.heap.size ≤ g ∧ w'.ownsRow 0 5 1 (.slice (some ⟨g, 0, none⟩) b.toNat cap) b.toNat ((big b.toNat n.toNat).map byt) ∧ Kept [] w w' := by
  have t1 : decide (b < 1) = false := by simp; omega
  obtain ⟨i0, hi, hz0, hz1, hz2⟩ := info_parts Tryz.info5
  go_enter Tryz.func94, Tryz.ntmps94
  go_wp2_with (first
    | (go_at_call 115; refine (fits64_any _ _ _ (by omega) (by omega)).mono ?_; rintro e w' ⟨rfl, rfl⟩)
    | (at_make; refine wpList_make_own _ rfl _ _ 28 rfl 0 5 i0 (.int .u8 0) 1 Tryz.underlying28 hi hz0 hz1 _ _ _ b.toNat rfl rfl (by omega) ?b2 ?b3 (by omega) ?_))
  case b2 => rw [hz2]; omega
  case b3 => unfold maxLen; omega
  intro w1 ho1 hg1
  go_wp2_with (go_at_call 116; refine (appendBig_any _ 0 [] _ _ _ ho1 (by omega) (by omega) (by omega) (by decide)).mono ?_; rintro e w2 ⟨v', rfl, ho2, hk2, hl2⟩)
  simp only [Nat.zero_add, List.nil_append] at ho2
  obtain ⟨g, cap, rfl⟩ := row_some ho2 (by omega)
  go_ret2
  have hk1 := Kept.of_grown hg1
  refine ⟨g, cap, rfl, ?_, ho2, hk1.step hk2 ?_⟩
  · rcases hl2 with h | ⟨g', h, hs⟩
    · simp [Value.ownBlock] at h; omega
    · simp [Value.ownBlock] at h; have := hk1.size; omega
  · intro x hx
    simp [Value.ownBlock] at hx
    exact .inr (by omega)
end Go.Proofs.YthhegomjipbdbaaGreatDoor

namespace Go.Proofs.YthhegomjipbdbaaGreatDoor
open Go.RowKit

theorem big_num (l : List Nat) (h : Byts l) : big l.length (num l) = l := by
  induction hn : l.length generalizing l with
  | zero => rw [List.eq_nil_of_length_eq_zero hn]; rfl
  | succ n ih =>
    have hne : l ≠ [] := by intro e; subst e; simp at hn
    obtain ⟨a, b, rfl⟩ : ∃ a b, l = a ++ [b] := ⟨l.dropLast, l.getLast hne, (List.dropLast_concat_getLast hne).symm⟩
    have hl : a.length = n := by simp at hn; exact hn
    have hb : b < 256 := h b (by simp)
    rw [num_snoc, big, show (num a * 256 + b) / 256 = num a by omega, show (num a * 256 + b) % 256 = b by omega, ih a (fun x hx => h x (by simp [hx])) hl]

/-- What is told of a slice of bytes that came in. -/
def IsRow (k : IntKind) (w : World) (a : Option Addr) (len cap : Nat) (zs : List Int) : Prop :=
  (a = none ∧ len = 0 ∧ cap = 0 ∧ zs = []) ∨
  ∃ x, a = some x ∧ len ≤ cap ∧ cap ≤ maxLen ∧ zs.length = cap ∧ (∀ i, i < zs.length → w.cell? (x.add i) = some (.int k (zs.getD i 0))) ∧ ∀ n ∈ zs, (Lit.int k n).wf = true

theorem isRow_reads {w : World} {a : Option Addr} {len cap : Nat} {zs : List Int} (h : IsRow .u8 w a len cap zs) : ∃ l, l.length = len ∧ Byts l ∧ Reads w a l ∧ len ≤ 9223372036854775807 := by
  rcases h with ⟨rfl, rfl, rfl, rfl⟩ | ⟨x, rfl, hl, hm, hz, hc, hw⟩
  · exact ⟨[], rfl, by simp [Byts], .inl rfl, by decide⟩
  · have hwf : ∀ n ∈ zs, 0 ≤ n ∧ n < 256 := fun n hn => by
      have := hw n hn
      simp [Lit.wf] at this
      have h1 : IntKind.u8.min = 0 := by decide
      have h2 : IntKind.u8.max = 255 := by decide
      omega
    refine ⟨(zs.take len).map Int.toNat, by simp; omega, ?_, ?_, by unfold maxLen at hm; omega⟩
    · intro b hb
      simp only [List.mem_map] at hb
      obtain ⟨z, hz1, rfl⟩ := hb
      have := hwf z (List.mem_of_mem_take hz1)
      omega
    · by_cases h0 : len = 0
      · subst h0; exact .inl (by simp)
      · right
        obtain ⟨b, off, spot⟩ := x
        have hc0 := hc 0 (by omega)
        have hspot : spot = none := by simpa [Addr.add] using World.cell?_spot hc0
        subst hspot
        refine ⟨b, off, rfl, fun i hi => ?_⟩
        have hil : i < len := by simp at hi; omega
        have h1 := hc i (by omega)
        have hadd : (⟨b, off, none⟩ : Addr).add i = ⟨b, off + i, none⟩ := by unfold Addr.add; split <;> simp_all
        rw [hadd] at h1
        rw [h1]
        have hiz : i < zs.length := by omega
        have := hwf zs[i] (List.getElem_mem hiz)
        simp [byt, hiz, hil]
        omega

theorem shl_one (p : Int) (p0 : 0 ≤ p) (p1 : p < 7) : IntKind.u64.wrap (2 ^ (8 * (1 + p)).toNat) = (2 : Int) ^ (8 * (1 + p)).toNat := by
  have h : (2 : Nat) ^ (8 * (1 + p)).toNat ≤ 2 ^ 56 := Nat.pow_le_pow_right (by decide) (by omega)
  rw [IntKind.wrap_u64, pow_two_int]
  generalize (2 : Nat) ^ (8 * (1 + p)).toNat = q at *
  have h3 : (2 : Nat) ^ 56 < 18446744073709551616 := by decide
  omega

theorem fits_lt (n : Int) (k : Nat) (n0 : 0 ≤ n) : (n / 2 ^ k == 0) = decide (n < 2 ^ k) := by
  obtain ⟨x, rfl⟩ := Int.eq_ofNat_of_zero_le n0
  rw [pow_two_int, Bool.eq_iff_iff, beq_iff_eq, decide_eq_true_iff, ← Int.natCast_ediv]
  have := Nat.div_eq_zero_iff (a := x) (b := 2 ^ k)
  have hp := Nat.two_pow_pos k
  omega

theorem big_at (n b : Int) (m : Nat) (w : World) (hbm : b = (m : Int)) (h1 : 1 ≤ m) (h2 : m ≤ 8) (n0 : 0 ≤ n) (hv : (n / 2 ^ (8 * m) == 0) = true) :
    Calls Tryz.prog 94 #[.int .u64 n, .int .i64 b] w fun e w' => ∃ g cap, e = .returned (.tuple #[.slice (some ⟨g, 0, none⟩) m cap, .int .i64 0]) ∧
      w.heap.size ≤ g ∧ w'.ownsRow 0 5 1 (.slice (some ⟨g, 0, none⟩) m cap) m ((big m n.toNat).map byt) ∧ Kept [] w w' := by
  subst hbm
  have e : (8 * (m : Int)).toNat = 8 * m := by omega
  have h := big_any n (m : Int) w (by omega) (by omega) n0 (by rw [e]; exact hv)
  rw [Int.toNat_natCast] at h
  exact h

theorem number_at (ao : Option Addr) (cap m : Nat) (l : List Nat) (X : Int) (w : World) (hr : Reads w ao l) (hb : Byts l) (hm : l.length = m) (hX : (num l : Int) = X) (h1 : 1 ≤ m) (hl : m ≤ 8) :
    Calls Tryz.prog 58 #[.slice ao m cap] w fun e w' => e = .returned (.tuple #[.int .u64 X, .int .i64 0]) ∧ w' = w := by
  subst hm
  subst hX
  exact number_any ao cap l w hr hb h1 hl

theorem num_big_fits (n : Int) (m : Nat) (n0 : 0 ≤ n) (hv : (n / 2 ^ (8 * m) == 0) = true) : (num (big m n.toNat) : Int) = n := by
  rw [fits_lt n _ n0] at hv
  have h : n < 2 ^ (8 * m) := by simpa using hv
  rw [num_big, pow256, Nat.mod_eq_of_lt (by rw [pow_two_int] at h; omega)]
  omega

theorem fits_num (l : List Nat) (h : Byts l) : ((num l : Int) / 2 ^ (8 * l.length) == 0) = true := by
  rw [fits_lt _ _ (by omega), pow_two_int]
  have := num_lt l h
  rw [pow256] at this
  simp only [decide_eq_true_iff]
  omega

theorem reads_str' {w : World} {ao : Option Addr} {l : List Nat} {m : Nat} (h : Reads w ao l) (hm : l.length = m) (cap : Nat) : Sem.run Tryz.prog (convert 28 9 (.slice ao m cap)) w = .ok (.string (bstr l)) w := by
  subst hm; exact reads_str h cap

end Go.Proofs.YthhegomjipbdbaaGreatDoor
