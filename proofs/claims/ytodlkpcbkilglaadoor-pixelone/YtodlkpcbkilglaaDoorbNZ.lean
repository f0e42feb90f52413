import Derived.Test.YtodlkpcbkilglaaDoorbW2
namespace Go.Proofs.YtodlkpcbkilglaaDoor.Bt
open Go.RowKit

theorem newWriter_at (w : World) : WriterAt (w.alloc (.cells #[.slice none 0 0, .int .u64 0, .int .i64 0] 114)) w.heap.size (.slice none 0 0) 0 0 := by
  refine ⟨?_, ?_⟩
  · rw [heap_alloc_new]; simp
  · simpa [big] using World.ownsRow_nil _ 0 5 1

/-- The text that bytes are. -/
def bstr (l : List Nat) : ByteArray := strOfNums (l.map fun b : Nat => (b : Int))

theorem row_bytes {w : World} {g e : Nat} {l : List Nat} {rest : List Value} (h : w.heap[g]? = some (.cells (l.map byt ++ rest).toArray e (0, 0))) (i : Nat) (hi : i < l.length) : w.cell? ⟨g, 0 + i, none⟩ = some (.int .u8 ((l.map fun b : Nat => (b : Int)).getD i 0)) := by
  simp [World.cell?, h, byt, hi, List.getElem?_append_left]

theorem str_run {w : World} {g cap : Nat} {l : List Nat} {rest : List Value} (h : w.heap[g]? = some (.cells (l.map byt ++ rest).toArray 5 (0, 0))) :
    Sem.run Tryd.prog (convert 37 9 (.slice (some ⟨g, 0, none⟩) l.length cap)) w = .ok (.string (bstr l)) w :=
  run_convert_bytes_arg w 37 5 Tryd.underlying37 Tryd.underlying5 g 0 l.length cap (l.map fun b : Nat => (b : Int)) (by simp) (fun i hi => row_bytes h i hi) 9 Tryd.underlying9




end Go.Proofs.YtodlkpcbkilglaaDoor.Bt

namespace Go.Proofs.YtodlkpcbkilglaaDoor.Bt
open Go.RowKit

/-- A slice's elements are these bytes. -/
def Reads (w : World) (ao : Option Addr) (l : List Nat) : Prop :=
  l = [] ∨ ∃ g off, ao = some ⟨g, off, none⟩ ∧ ∀ i, i < l.length → w.cell? ⟨g, off + i, none⟩ = some (byt (l.getD i 0))

def Byts (l : List Nat) : Prop := ∀ b ∈ l, b < 256

theorem num_take_succ (l : List Nat) (k : Nat) (h : k < l.length) : num (l.take (k + 1)) = num (l.take k) * 256 + l.getD k 0 := by
  rw [List.take_succ_eq_append_getElem h, num_snoc]; simp [h]

theorem num_take_lt (l : List Nat) (k : Nat) (hk : k ≤ 8) (hb : Byts l) : num (l.take k) < 18446744073709551616 := by
  have h := num_lt (l.take k) (fun b h => hb b (List.mem_of_mem_take h))
  have h2 : 256 ^ (l.take k).length ≤ 256 ^ 8 := Nat.pow_le_pow_right (by decide) (by simp; omega)
  have h3 : 256 ^ 8 = 18446744073709551616 := by decide
  omega

theorem getD_lt (l : List Nat) (k : Nat) (hb : Byts l) : l.getD k 0 < 256 := by
  rw [List.getD_eq_getElem?_getD]
  rcases h : l[k]? with _ | x
  · simp
  · exact hb x (List.mem_of_getElem? h)

theorem or_byte (a b : Nat) (hb : b < 256) (h : a * 256 + b < 18446744073709551616) :
    bits BinOp.or IntKind.u64 ((a : Int) * 256) (IntKind.u64.wrap (b : Int)) = ((a * 256 + b : Nat) : Int) := by
  have h1 : a * 256 < 18446744073709551616 := Nat.lt_of_le_of_lt (Nat.le_add_right _ _) h
  have h2 : b < 18446744073709551616 := Nat.lt_of_le_of_lt (Nat.le_add_left _ _) h
  have e1 : ((a : Int) * 256) = ((a * 256 : Nat) : Int) := by omega
  have e2 : IntKind.u64.wrap (b : Int) = (b : Int) := by rw [IntKind.wrap_u64]; omega
  have e3 : a * 256 % 2 ^ 8 = 0 := by rw [show (2 : Nat) ^ 8 = 256 from rfl]; omega
  have e4 : b < 2 ^ 8 := by rw [show (2 : Nat) ^ 8 = 256 from rfl]; exact hb
  rw [e1, e2, u64_or_nat (a * 256) b h1 h2, nat_join 8 (a * 256) b e3 e4]

set_option maxHeartbeats 1000000 in
set_option maxRecDepth 1000000 in
theorem joined_any (ao : Option Addr) (cap : Nat) (l : List Nat) (w : World) (hr : Reads w ao l) (hb : Byts l) (hl : l.length ≤ 8) :
    Calls Tryd.prog 107 #[.slice ao l.length cap] w fun e w' => e = .returned (.int .u64 (num l : Int)) ∧ w' = w := by
  rcases hr with rfl | ⟨g, off, rfl, hc⟩
  · go_enter Tryd.func107, Tryd.ntmps107
    go_wp2
    refine wp_loop_rounds 1 ?_
    rw [rounds_succ]
    go_wp2
    go_ret
    exact ⟨ret_int (by simp [num]), rfl⟩
  · go_enter Tryd.func107, Tryd.ntmps107
    go_wp2
    go_loop [3, 8] (fun v i => ∃ k : Nat, k ≤ l.length ∧ i = .int .i64 k ∧ v = .int .u64 (num (l.take k) : Int)) (fun _ i => l.length - (intOf i).toNat)
    case atStart => exact ⟨0, Nat.zero_le _, rfl, by simp [num]⟩
    case round =>
      obtain ⟨k, hk, rfl, rfl⟩ := hrel
      by_cases hlt : k < l.length
      · have hcell := hc k hlt
        unfold byt at hcell
        have hbk := getD_lt l k hb
        have hs := num_take_succ l k hlt
        have ht := num_take_lt l (k + 1) (by omega) hb
        rw [hs] at ht
        have HO := Hid.mk (or_byte _ _ hbk ht)
        have HS := Hid.mk hs
        clear hs
        clear hc
        go_wp2
        go_round
        case rel =>
          refine ⟨k + 1, by omega, by go_num, ?_⟩
          have h := HO.out
          rw [← HS.out] at h
          rw [← h]
          simp [hlt]
        case measure => simp [intOf]; omega
      · go_wp2
        go_ret
        obtain rfl : k = l.length := by omega
        exact ⟨ret_int (by simp), rfl⟩





/-- Which of n things a raw number speaks of. -/
def pick (c : Int) (n : Int) : Int := if c < 0 then (-(c + 1)) % n else c % n
theorem pick_lo (c n : Int) (h : 0 < n) : 0 ≤ pick c n := by
  unfold pick; split <;> exact Int.emod_nonneg _ (by omega)
theorem pick_hi (c n : Int) (h : 0 < n) : pick c n < n := by
  unfold pick; split <;> exact Int.emod_lt_of_pos _ h

theorem row_some {w : World} {base e n : Nat} {v : Value} {xs : List Value} (h : w.ownsRow base e 1 v n xs) (hn : 0 < n) : ∃ g cap, v = .slice (some ⟨g, 0, none⟩) n cap := by
  rcases h.2 with ⟨_, h1⟩ | ⟨g, cap, cur, h1, _⟩
  · omega
  · exact ⟨g, cap, h1⟩


end Go.Proofs.YtodlkpcbkilglaaDoor.Bt

namespace Go.Proofs.YtodlkpcbkilglaaDoor.Bt
open Go.RowKit

theorem Reads.kept {w w' : World} {ao : Option Addr} {l : List Nat} {ks : List Nat} (h : Reads w ao l) (hk : Kept ks w w') (hn : ∀ g off, ao = some ⟨g, off, none⟩ → g ∉ ks) : Reads w' ao l := by
  rcases h with h | ⟨g, off, rfl, hc⟩
  · exact .inl h
  · refine .inr ⟨g, off, rfl, fun i hi => ?_⟩
    have h1 := hc i hi
    have hlt := World.block_lt_of_cell? w _ h1
    exact (World.cell?_of_block (a := ⟨g, off + i, none⟩) (hk.block g hlt (hn g off rfl))).trans h1

theorem Reads.keep {w w' : World} {ao : Option Addr} {l : List Nat} (h : Reads w ao l) (hk : Kept [] w w') : Reads w' ao l := h.kept hk (by simp)

theorem reads_row {w : World} {ao : Option Addr} {base n cap : Nat} {l : List Nat} (h : w.ownsRow base 5 1 (.slice ao n cap) n (l.map byt)) : Reads w ao l := by
  rcases h.2 with ⟨h1, hn⟩ | ⟨g, cap', cur, h1, _⟩
  · left
    have := h.1
    simp at this
    apply List.eq_nil_of_length_eq_zero
    omega
  · right
    simp at h1
    obtain ⟨rfl, rfl⟩ := h1
    refine ⟨g, 0, rfl, fun i hi => ?_⟩
    have hc := h.cells (g := g) rfl i (byt (l.getD i 0)) (by simp [hi])
    have hadd : (⟨g, 0, none⟩ : Addr).add i = ⟨g, 0 + i, none⟩ := by unfold Addr.add; split <;> simp_all
    rw [hadd] at hc
    exact hc

theorem reads_str {w : World} {ao : Option Addr} {l : List Nat} (h : Reads w ao l) (cap : Nat) : Sem.run Tryd.prog (convert 37 9 (.slice ao l.length cap)) w = .ok (.string (bstr l)) w := by
  rcases h with rfl | ⟨g, off, rfl, hc⟩
  · rcases ao with _ | a
    · exact run_convert_bytes_nil w 37 5 Tryd.underlying37 Tryd.underlying5 0 cap 9 Tryd.underlying9
    · have hl : (loadCells a 0).run Tryd.prog w = .ok #[] w := by simpa using run_loadCells_list (P := Tryd.prog) w a [] (by simp)
      have h1 := run_convert_bytes_string (P := Tryd.prog) w 37 9 5 (some a) 0 cap Tryd.underlying37 Tryd.underlying5 Tryd.underlying9
      have h2 := run_bytesToString (P := Tryd.prog) w a 0 cap [] hl
      rw [h2] at h1
      exact h1
  · exact run_convert_bytes_arg w 37 5 Tryd.underlying37 Tryd.underlying5 g off l.length cap (l.map fun b : Nat => (b : Int)) (by simp) (fun i hi => by rw [hc i hi]; simp [byt, hi]) 9 Tryd.underlying9


end Go.Proofs.YtodlkpcbkilglaaDoor.Bt
