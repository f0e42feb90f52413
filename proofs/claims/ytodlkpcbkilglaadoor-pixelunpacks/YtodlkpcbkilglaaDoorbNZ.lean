import Derived.Test.YtodlkpcbkilglaaDoorbWZ
namespace Go.Proofs.YtodlkpcbkilglaaDoor.Bt
open Go.RowKit

theorem newWriter_at (w : World) : WriterAt (w.alloc (.cells #[.slice none 0 0, .int .u64 0, .int .i64 0] 114)) w.heap.size (.slice none 0 0) 0 0 := by
  refine ⟨?_, ?_⟩
  · rw [heap_alloc_new]; simp
  · simpa [big] using World.ownsRow_nil _ 0 5 1

/-- The text that bytes are. -/
def bstr (l : List Nat) : ByteArray := strOfNums (l.map fun b : Nat => (b : Int))

theorem row_bytes {w : World} {g e : Nat} {l : List Nat} {rest : List Value} (h : w.heap[g]? = some (.cells (l.map byt ++ rest).toArray e (0, 0))) (i : Nat) (hi : i < l.length) : w.cell? ⟨g, 0 + i, none⟩ = some (.int .u8 ((l.map fun b : Nat => (b : Int)).getD i 0)) := by
  simp [World.cell?, h, byt, hi, List.getElem?_append_left]

theorem str_run {w : World} {g cap : Nat} {l : List Nat} {rest : List Value} (h : w.heap[g]? = some (.cells (l.map byt ++ rest).toArray 5 (0, 0))) :
    Sem.run Tryd.prog (convert 37 9 (.slice (some ⟨g, 0, none⟩) l.length cap)) w = .ok (.string (bstr l)) w :=
  run_convert_bytes_arg w 37 5 Tryd.underlying37 Tryd.underlying5 g 0 l.length cap (l.map fun b : Nat => (b : Int)) (by simp) (fun i hi => row_bytes h i hi) 9 Tryd.underlying9




end Go.Proofs.YtodlkpcbkilglaaDoor.Bt

namespace Go.Proofs.YtodlkpcbkilglaaDoor.Bt
open Go.RowKit

/-- A slice's elements are these bytes. -/
def Reads (w : World) (ao : Option Addr) (l : List Nat) : Prop :=
  l = [] ∨ ∃ g off, ao = some ⟨g, off, none⟩ ∧ ∀ i, i < l.length → w.cell? ⟨g, off + i, none⟩ = some (byt (l.getD i 0))

def Byts (l : List Nat) : Prop := ∀ b ∈ l, b < 256

theorem num_take_succ (l : List Nat) (k : Nat) (h : k < l.length) : num (l.take (k + 1)) = num (l.take k) * 256 + l.getD k 0 := by
  rw [List.take_succ_eq_append_getElem h, num_snoc]; simp [h]

theorem num_take_lt (l : List Nat) (k : Nat) (hk : k ≤ 8) (hb : Byts l) : num (l.take k) < 18446744073709551616 := by
  have h := num_lt (l.take k) (fun b h => hb b (List.mem_of_mem_take h))
  have h2 : 256 ^ (l.take k).length ≤ 256 ^ 8 := Nat.pow_le_pow_right (by decide) (by simp; omega)
  have h3 : 256 ^ 8 = 18446744073709551616 := by decide
  omega

theorem getD_lt (l : List Nat) (k : Nat) (hb : Byts l) : l.getD k 0 < 256 := by
  rw [List.getD_eq_getElem?_getD]
  rcases h : l[k]? with _ | x
  · simp
  · exact hb x (List.mem_of_getElem? h)

theorem or_byte (a b : Nat) (hb : b < 256) (h : a * 256 + b < 18446744073709551616) :
    bits BinOp.or IntKind.u64 ((a : Int) * 256) (IntKind.u64.wrap (b : Int)) = ((a * 256 + b : Nat) : Int) := by
  have h1 : a * 256 < 18446744073709551616 := Nat.lt_of_le_of_lt (Nat.le_add_right _ _) h
  have h2 : b < 18446744073709551616 := Nat.lt_of_le_of_lt (Nat.le_add_left _ _) h
  have e1 : ((a : Int) * 256) = ((a * 256 : Nat) : Int) := by omega
  have e2 : IntKind.u64.wrap (b : Int) = (b : Int) := by rw [IntKind.wrap_u64]; omega
  have e3 : a * 256 % 2 ^ 8 = 0 := by rw [show (2 : Nat) ^ 8 = 256 from rfl]; omega
  have e4 : b < 2 ^ 8 := by rw [show (2 : Nat) ^ 8 = 256 from rfl]; exact hb
  rw [e1, e2, u64_or_nat (a * 256) b h1 h2, nat_join 8 (a * 256) b e3 e4]

set_option maxHeartbeats 1000000 in
set_option maxRecDepth 1000000 in
theorem joined_any (ao : Option Addr) (cap : Nat) (l : List Nat) (w : World) (hr : Reads w ao l) (hb : Byts l) (hl : l.length ≤ 8) :
    Calls Tryd.prog 107 #[.slice ao l.length cap] w fun e w' => e = .returned (.int .u64 (num l : Int)) ∧ w' = w := by
  rcases hr with rfl | ⟨g, off, rfl, hc⟩
  · go_enter Tryd.func107, Tryd.ntmps107
    go_wp2
    refine wp_loop_rounds 1 ?_
    rw [rounds_succ]
    go_wp2
    go_ret
    exact ⟨ret_int (by simp [num]), rfl⟩
  · go_enter Tryd.func107, Tryd.ntmps107
    go_wp2
    go_loop [3, 8] (fun v i => ∃ k : Nat, k ≤ l.length ∧ i = .int .i64 k ∧ v = .int .u64 (num (l.take k) : Int)) (fun _ i => l.length - (intOf i).toNat)
    case atStart => exact ⟨0, Nat.zero_le _, rfl, by simp [num]⟩
    case round =>
      obtain ⟨k, hk, rfl, rfl⟩ := hrel
      by_cases hlt : k < l.length
      · have hcell := hc k hlt
        unfold byt at hcell
        have hbk := getD_lt l k hb
        have hs := num_take_succ l k hlt
        have ht := num_take_lt l (k + 1) (by omega) hb
        rw [hs] at ht
        have HO := Hid.mk (or_byte _ _ hbk ht)
        have HS := Hid.mk hs
        clear hs
        clear hc
        go_wp2
        go_round
        case rel =>
          refine ⟨k + 1, by omega, by go_num, ?_⟩
          have h := HO.out
          rw [← HS.out] at h
          rw [← h]
          simp [hlt]
        case measure => simp [intOf]; omega
      · go_wp2
        go_ret
        obtain rfl : k = l.length := by omega
        exact ⟨ret_int (by simp), rfl⟩





/-- Which of n things a raw number speaks of. -/
def pick (c : Int) (n : Int) : Int := if c < 0 then (-(c + 1)) % n else c % n
theorem pick_lo (c n : Int) (h : 0 < n) : 0 ≤ pick c n := by
  unfold pick; split <;> exact Int.emod_nonneg _ (by omega)
theorem pick_hi (c n : Int) (h : 0 < n) : pick c n < n := by
  unfold pick; split <;> exact Int.emod_lt_of_pos _ h

theorem row_some {w : World} {base e n : Nat} {v : Value} {xs : List Value} (h : w.ownsRow base e 1 v n xs) (hn : 0 < n) : ∃ g cap, v = .slice (some ⟨g, 0, none⟩) n cap := by
  rcases h.2 with ⟨_, h1⟩ | ⟨g, cap, cur, h1, _⟩
  · omega
  · exact ⟨g, cap, h1⟩


end Go.Proofs.YtodlkpcbkilglaaDoor.Bt

namespace Go.Proofs.YtodlkpcbkilglaaDoor.Bt
open Go.RowKit

theorem Reads.kept {w w' : World} {ao : Option Addr} {l : List Nat} {ks : List Nat} (h : Reads w ao l) (hk : Kept ks w w') (hn : ∀ g off, ao = some ⟨g, off, none⟩ → g ∉ ks) : Reads w' ao l := by
  rcases h with h | ⟨g, off, rfl, hc⟩
  · exact .inl h
  · refine .inr ⟨g, off, rfl, fun i hi => ?_⟩
    have h1 := hc i hi
    have hlt := World.block_lt_of_cell? w _ h1
    exact (World.cell?_of_block (a := ⟨g, off + i, none⟩) (hk.block g hlt (hn g off rfl))).trans h1

theorem Reads.keep {w w' : World} {ao : Option Addr} {l : List Nat} (h : Reads w ao l) (hk : Kept [] w w') : Reads w' ao l := h.kept hk (by simp)

theorem reads_row {w : World} {ao : Option Addr} {base n cap : Nat} {l : List Nat} (h : w.ownsRow base 5 1 (.slice ao n cap) n (l.map byt)) : Reads w ao l := by
  rcases h.2 with ⟨h1, hn⟩ | ⟨g, cap', cur, h1, _⟩
  · left
    have := h.1
    simp at this
    apply List.eq_nil_of_length_eq_zero
    omega
  · right
    simp at h1
    obtain ⟨rfl, rfl⟩ := h1
    refine ⟨g, 0, rfl, fun i hi => ?_⟩
    have hc := h.cells (g := g) rfl i (byt (l.getD i 0)) (by simp [hi])
    have hadd : (⟨g, 0, none⟩ : Addr).add i = ⟨g, 0 + i, none⟩ := by unfold Addr.add; split <;> simp_all
    rw [hadd] at hc
    exact hc

theorem reads_str {w : World} {ao : Option Addr} {l : List Nat} (h : Reads w ao l) (cap : Nat) : Sem.run Tryd.prog (convert 37 9 (.slice ao l.length cap)) w = .ok (.string (bstr l)) w := by
  rcases h with rfl | ⟨g, off, rfl, hc⟩
  · rcases ao with _ | a
    · exact run_convert_bytes_nil w 37 5 Tryd.underlying37 Tryd.underlying5 0 cap 9 Tryd.underlying9
    · have hl : (loadCells a 0).run Tryd.prog w = .ok #[] w := by simpa using run_loadCells_list (P := Tryd.prog) w a [] (by simp)
      have h1 := run_convert_bytes_string (P := Tryd.prog) w 37 9 5 (some a) 0 cap Tryd.underlying37 Tryd.underlying5 Tryd.underlying9
      have h2 := run_bytesToString (P := Tryd.prog) w a 0 cap [] hl
      rw [h2] at h1
      exact h1
  · exact run_convert_bytes_arg w 37 5 Tryd.underlying37 Tryd.underlying5 g off l.length cap (l.map fun b : Nat => (b : Int)) (by simp) (fun i hi => by rw [hc i hi]; simp [byt, hi]) 9 Tryd.underlying9


end Go.Proofs.YtodlkpcbkilglaaDoor.Bt

namespace Go.Proofs.YtodlkpcbkilglaaDoor.Bt
open Go.RowKit

/-- The n bits of bytes behind the first t, as a number. -/
def nextN (l : List Nat) (t n : Nat) : Nat := num l / 2 ^ (8 * l.length - (t + n)) % 2 ^ n

theorem num_mid (l : List Nat) (a b : Nat) (hab : a ≤ b) (hb : b ≤ l.length) (hl : Byts l) : num ((l.drop a).take (b - a)) = num l / 256 ^ (l.length - b) % 256 ^ (b - a) := by
  have h1 : l = l.take a ++ ((l.drop a).take (b - a) ++ l.drop b) := by
    have e : (l.drop a).drop (b - a) = l.drop b := by rw [List.drop_drop]; congr 1; omega
    rw [← e, List.take_append_drop, List.take_append_drop]
  have hm : ((l.drop a).take (b - a)).length = b - a := by simp; omega
  have hd : (l.drop b).length = l.length - b := by simp
  have l1 : num (l.drop b) < 256 ^ (l.length - b) := by rw [← hd]; exact num_lt _ (fun x hx => hl x (List.mem_of_mem_drop hx))
  have l2 : num ((l.drop a).take (b - a)) < 256 ^ (b - a) := by
    rw [← hm, hm]
    conv => rhs; rw [← hm]
    exact num_lt _ (fun x hx => hl x (List.mem_of_mem_drop (List.mem_of_mem_take hx)))
  have h2 : num l = (num (l.take a) * 256 ^ (b - a) + num ((l.drop a).take (b - a))) * 256 ^ (l.length - b) + num (l.drop b) := by
    conv => lhs; rw [h1]
    rw [num_append, num_append, List.length_append, hm, hd, Nat.pow_add, Nat.add_mul, ← Nat.mul_assoc, Nat.add_assoc]
  rw [h2, Nat.add_comm _ (num (l.drop b)), Nat.add_mul_div_right _ _ (Nat.pow_pos (by decide)), Nat.div_eq_of_lt l1, Nat.zero_add, Nat.mul_add_mod_self_right, Nat.mod_eq_of_lt l2]

theorem next_eq (l : List Nat) (t n : Nat) (hl : Byts l) (h : t + n ≤ 8 * l.length) :
    num ((l.drop (t / 8)).take ((t + n + 7) / 8 - t / 8)) / 2 ^ (8 * ((t + n + 7) / 8) - (t + n)) % 2 ^ n = nextN l t n := by
  rw [num_mid l _ _ (by omega) (by omega) hl, pow256, pow256, nextN]
  generalize hb : (t + n + 7) / 8 = b at *
  generalize ha : t / 8 = a at *
  have e1 : 8 * (b - a) = (8 * b - (t + n)) + (t + n - 8 * a) := by omega
  rw [e1, Nat.pow_add, Nat.mod_mul_right_div_self, Nat.div_div_eq_div_mul, ← Nat.pow_add]
  have e2 : 8 * (l.length - b) + (8 * b - (t + n)) = 8 * l.length - (t + n) := by omega
  rw [e2, Nat.mod_mod_of_dvd]
  exact Nat.pow_dvd_pow 2 (by omega)

/-- The reader whose struct is block B, over the bytes l in block g, of which t bits are taken. -/
def ReaderAt (w : World) (B g : Nat) (l : List Nat) (t : Nat) : Prop :=
  w.heap[B]? = some (.cells #[.slice (some ⟨g, 0, none⟩) l.length l.length, .int .i64 (t : Int)] 121 (0, 0)) ∧ w.heap[g]? = some (.cells (l.map byt).toArray 5 (0, 0)) ∧ Byts l ∧ t ≤ 8 * l.length ∧ l.length ≤ 281474976710656

theorem cells_two {w : World} {B : Nat} {a b : Value} {t : TypeId} (h : w.heap[B]? = some (.cells #[a, b] t (0, 0))) :
    w.cell? ⟨B, 0, none⟩ = some a ∧ w.cell? ⟨B, 1, none⟩ = some b ∧ ∀ i, w.frozen? ⟨B, i, none⟩ = false := by
  refine ⟨?_, ?_, ?_⟩ <;> simp [World.cell?, World.frozen?, h]

theorem reads_src {w : World} {ao : Option Addr} {l : List Nat} (h : Reads w ao l) : 0 < l.length → ∃ ad, ao = some ad ∧ ∀ j u, (l.map byt)[j]? = some u → w.cell? (ad.add j) = some u := by
  intro hp
  rcases h with rfl | ⟨g, off, rfl, hc⟩
  · simp at hp
  · refine ⟨_, rfl, fun j u hu => ?_⟩
    have hj : j < l.length := by
      rcases Nat.lt_or_ge j l.length with h | h
      · exact h
      · rw [List.getElem?_eq_none (by simpa using h)] at hu; cases hu
    have hadd : (⟨g, off, none⟩ : Addr).add j = ⟨g, off + j, none⟩ := by unfold Addr.add; split <;> simp_all
    rw [hadd, hc j hj]
    simp [hj] at hu
    simp [hj, hu]

set_option maxHeartbeats 1000000 in
set_option maxRecDepth 1000000 in
theorem newReader_any (ao : Option Addr) (cap m : Nat) (l : List Nat) (w : World) (hr : Reads w ao l) (hb : Byts l) (hm : l.length = m) (hl : m ≤ 281474976710656) :
    Calls Tryd.prog 84 #[.slice ao m cap] w fun e w' => ∃ B g, e = .returned (.pointer (some ⟨B, 0, none⟩)) ∧ w.heap.size ≤ B ∧ w.heap.size ≤ g ∧ ReaderAt w' B g l 0 ∧ Kept [] w w' := by
  obtain ⟨i0, hi, hz0, hz1, hz2⟩ := info_parts Tryd.info5
  go_enter Tryd.func84, Tryd.ntmps84
  go_wp2_with (at_make; refine wpList_make_full _ rfl _ _ 37 rfl 0 5 i0 (.int .u8 0) 1 Tryd.underlying37 hi hz0 hz1 _ _ _ _ m rfl rfl (by omega) (by omega) ?b2 ?b3 (by omega) ?_)
  case b2 => rw [hz2]; omega
  case b3 => unfold maxLen; omega
  intro w1 ho1 hg1
  have hk1 := Kept.of_grown hg1
  have hr1 := row_heap ho1 rfl
  rw [toList_madeCells_one] at hr1
  have Hsrc := Hid.mk (reads_src (hr.keep hk1))
  rw [hm] at Hsrc
  obtain ⟨w2, hrun, hr2, hk2⟩ := copy_run w1 w.heap.size m m ao m cap _ (l.map byt) hr1 (by simp) (by simpa using hm) (Nat.le_refl _) Hsrc.out (bytes_one l)
  have hK : Kept [] w w2 := hk1.step hk2 (by simp)
  have hr3 : w2.heap[w.heap.size]? = some (.cells (l.map byt).toArray 5 (0, 0)) := by rw [hr2]; simp
  have Hr3 := Hid.mk hr3
  have hsz := hK.size
  have Hm := Hid.mk hm
  have HK := Hid.mk hK
  clear hr2 hr3 hr1 ho1 hg1 hk1 hk2 hK hm hr
  go_wp2
  go_ret
  refine ⟨w2.heap.size, w.heap.size, rfl, hsz, Nat.le_refl _, ⟨?_, ?_, hb, by omega, by rw [Hm.out]; exact hl⟩, HK.out.alloc _⟩
  · rw [heap_alloc_new, Hm.out]; simp
  · rw [Below.heap_alloc _ _ _ (lt_of_block Hr3.out)]; exact Hr3.out

set_option maxHeartbeats 400000 in
theorem left_any (B g : Nat) (l : List Nat) (t : Nat) (w : World) (hw : ReaderAt w B g l t) :
    Calls Tryd.prog 103 #[.pointer (some ⟨B, 0, none⟩)] w fun e w' => e = .returned (.int .i64 (8 * (l.length : Int) - (t : Int))) ∧ ∃ q, w' = w.drewN q := by
  obtain ⟨hB, hg, hb, ht, hl⟩ := hw
  obtain ⟨c0, c1, fz⟩ := cells_two hB
  go_enter Tryd.func103, Tryd.ntmps103
  go_wp2_with fail
  go_quiet (fail)
  go_wp2
  go_ret
  exact ⟨ret_int (by omega), _, rfl⟩

theorem mid_reads {w : World} {g : Nat} {l : List Nat} (a m : Nat) (hg : w.heap[g]? = some (.cells (l.map byt).toArray 5 (0, 0))) (_h : a + m ≤ l.length) :
    Reads w (if l.length = a then some ⟨g, 0, none⟩ else some ⟨g, a, none⟩) ((l.drop a).take m) := by
  by_cases he : l.length = a
  · left; rw [← he]; simp
  · right
    refine ⟨g, a, by simp [he], fun i hi => ?_⟩
    have hi' : i < m ∧ a + i < l.length := by simp at hi; omega
    simp [World.cell?, hg, hi'.1, hi'.2]

theorem reads_if {w : World} {g a : Nat} {l sub : List Nat} {_hd : Decidable (l.length = a)} (h1 : Hid (l.length = a → sub = [])) (h2 : Hid (∀ x, ¬ l.length = a → Reads (w.drewN x) (some ⟨g, a, none⟩) sub)) (x : Nat) :
    Reads (w.drewN x) (if l.length = a then some ⟨g, 0, none⟩ else some ⟨g, a, none⟩) sub := by
  split
  · exact .inl (h1 ‹_›)
  · exact h2 x ‹_›

theorem joined_at (ao : Option Addr) (cap m : Nat) (l : List Nat) (w : World) (hr : Reads w ao l) (hb : Byts l) (hm : l.length = m) (hl : m ≤ 8) :
    Calls Tryd.prog 107 #[.slice ao m cap] w fun e w' => e = .returned (.int .u64 (num l : Int)) ∧ w' = w := by
  subst hm
  exact joined_any ao cap l w hr hb hl

set_option maxHeartbeats 600000 in
set_option maxRecDepth 1000000 in
theorem next_any (B g : Nat) (l : List Nat) (t : Nat) (n : Int) (w : World) (hw : ReaderAt w B g l t) (h0 : 0 ≤ n) (h1 : n ≤ 32) (h : (t : Int) + n ≤ 8 * (l.length : Int)) :
    Calls Tryd.prog 104 #[.pointer (some ⟨B, 0, none⟩), .int .i64 n] w fun e w' => e = .returned (.int .u32 (nextN l t n.toNat : Int)) ∧ ∃ q, w' = w.drewN q := by
  obtain ⟨hB, hg, hb, ht, hl⟩ := hw
  obtain ⟨c0, c1, fz⟩ := cells_two hB
  obtain ⟨k, rfl⟩ := Int.eq_ofNat_of_zero_le h0
  obtain ⟨a, ha⟩ : ∃ a, a = t / 8 := ⟨_, rfl⟩
  obtain ⟨b, hbb⟩ : ∃ b, b = (t + k + 7) / 8 := ⟨_, rfl⟩
  have hsub := fun x => (mid_reads a (b - a) hg (by omega)).keep ((Kept.refl [] w).drewN x)
  have hlen : ((l.drop a).take (b - a)).length = b - a := by simp; omega
  have hsb : Byts ((l.drop a).take (b - a)) := fun x hx => hb x (List.mem_of_mem_drop (List.mem_of_mem_take hx))
  have hS : num ((l.drop a).take (b - a)) < 1099511627776 := by
    have h1 := num_lt _ hsb
    rw [hlen] at h1
    have h2 : 256 ^ (b - a) ≤ 256 ^ 5 := Nat.pow_le_pow_right (by decide) (by omega)
    have h3 : 256 ^ 5 = 1099511627776 := by decide
    omega
  have hnx := next_eq l t k hb (by omega)
  rw [← ha, ← hbb] at hnx
  generalize (l.drop a).take (b - a) = sub at *
  have Hs1 : Hid (l.length = a → sub = []) := fun he => by
    apply List.eq_nil_of_length_eq_zero; omega
  have Hs2 : Hid (∀ x, ¬ l.length = a → Reads (w.drewN x) (some ⟨g, a, none⟩) sub) := fun x he => by
    have := hsub x; rw [if_neg he] at this; exact this
  have Hlen := Hid.mk hlen
  have Hnx := Hid.mk hnx
  have HB := Hid.mk hB
  have ea : (t : Int) / 8 = (a : Int) := by omega
  have eb : ((t : Int) + (k : Int) + 7) / 8 = (b : Int) := by omega
  have hab : (a : Int) ≤ (b : Int) := by omega
  have hbl : (b : Int) ≤ (l.length : Int) := by omega
  have hba : b - a ≤ 8 := by omega
  obtain ⟨S, hS0⟩ : ∃ S : Int, S = (num sub : Int) := ⟨_, rfl⟩
  obtain ⟨E, hE⟩ : ∃ E : Int, E = (t : Int) + (k : Int) := ⟨_, rfl⟩
  obtain ⟨L, hL⟩ : ∃ L : Int, L = ((t : Int) + (k : Int) + 7) / 8 := ⟨_, rfl⟩
  have HS0 := Hid.mk hS0
  have HE := Hid.mk hE
  have HL : Hid (L = (b : Int)) := by rw [hL]; exact eb
  have s0 : 0 ≤ S := by omega
  have s1 : S < 1099511627776 := by omega
  have hx0 : 0 ≤ 8 * L - E := by omega
  have hx1 : 8 * L - E ≤ 7 := by omega
  have l0 : 0 ≤ L := by omega
  have l1 : L ≤ 281474976710656 := by omega
  have e0 : 0 ≤ E := by omega
  have hv0 : 0 ≤ S / 2 ^ (8 * L - E).toNat := Int.ediv_nonneg (by omega) (Int.le_of_lt (Int.pow_pos (by decide)))
  have hv1 : S / 2 ^ (8 * L - E).toNat < 18446744073709551616 := Int.lt_of_le_of_lt (Int.ediv_le_self _ (by omega)) (by omega)
  have Hv0 := Hid.mk hv0
  have Hv1 := Hid.mk hv1
  have hfin : IntKind.u32.wrap (S / 2 ^ (8 * L - E).toNat % 2 ^ k) = (nextN l t k : Int) := by
    have e1 : (8 * L - E).toNat = 8 * b - (t + k) := by omega
    rw [e1, hS0, pow_two_int, pow_two_int, ← Int.natCast_ediv, ← Int.natCast_emod, hnx, IntKind.wrap_u32']
    have h1 : nextN l t k < 2 ^ k := by unfold nextN; exact Nat.mod_lt _ (Nat.two_pow_pos _)
    have h2 : (2 : Nat) ^ k ≤ 2 ^ 32 := Nat.pow_le_pow_right (by decide) (by omega)
    have h3 : (2 : Nat) ^ 32 = 4294967296 := by decide
    have h4 : nextN l t k < 4294967296 := by rw [← h3]; exact Nat.lt_of_lt_of_le h1 h2
    clear hnx h1 h2 h3
    omega
  have Hfin := Hid.mk hfin
  clear hfin
  clear hv0 hv1 hS fz hsub hlen hnx hg hB ha hbb ht hS0 hE hL
  go_enter Tryd.func104, Tryd.ntmps104
  go_wp2_with fail
  go_cut [5, 6, 7] (fun s5 s6 s7 wc => s5 = .int .i64 E ∧ s6 = .int .i64 L ∧ s7 = .int .u64 S ∧ ∃ q, wc = w.drewN q)
  case first =>
    go_quiet ((go_at_call 107; refine Calls.quiet_of_same (joined_at _ _ _ sub _ ?_ hsb Hlen.out hba); exact reads_if Hs1 Hs2 _))
    go_wp2
    all_goals go_meet
    all_goals exact ⟨by rw [HE.out], by rw [HL.out], by rw [HS0.out], _, rfl⟩
  case rest =>
    obtain ⟨rfl, rfl, rfl, q, rfl⟩ := hcut
    clear c0 c1 ea eb hab hbl hba h hsb
    go_wp2_with (go_at_call 99; refine (lowest_any _ _ _ (by omega) (by omega) Hv0.out Hv1.out).mono ?_; rintro e w1 ⟨rfl, rfl⟩)
    go_ret
    exact ⟨ret_int (by rw [Int.toNat_natCast]; exact Hfin.out), _, rfl⟩

theorem reader_drewN {w : World} {B g : Nat} {l : List Nat} {t : Nat} (h : ReaderAt w B g l t) (q : Nat) : ReaderAt (w.drewN q) B g l t := by
  have hk := (Kept.refl [] w).drewN q
  exact ⟨hk.heap h.1 (by simp), hk.heap h.2.1 (by simp), h.2.2⟩

theorem reader_kept {w w' : World} {B g : Nat} {l : List Nat} {t : Nat} {ks : List Nat} (h : ReaderAt w B g l t) (hk : Kept ks w w') (h1 : B ∉ ks) (h2 : g ∉ ks) : ReaderAt w' B g l t :=
  ⟨hk.heap h.1 h1, hk.heap h.2.1 h2, h.2.2⟩

set_option maxHeartbeats 1000000 in
theorem get_width (B : Nat) (n : Int) (w : World) (h : n < 0 ∨ 32 < n) :
    Calls Tryd.prog 85 #[.pointer (some ⟨B, 0, none⟩), .int .i64 n] w fun e w' => e = .returned (.tuple #[.int .u32 0, .int .i64 11]) ∧ w' = w := by
  rcases h with h | h
  · go_enter Tryd.func85, Tryd.ntmps85
    go_wp2
    go_ret2
    exact ⟨rfl, rfl⟩
  · have h' : ¬ n < 0 := by omega
    go_enter Tryd.func85, Tryd.ntmps85
    go_wp2
    go_ret2
    exact ⟨rfl, rfl⟩

set_option maxHeartbeats 1000000 in
theorem get_end (B g : Nat) (l : List Nat) (t : Nat) (n : Int) (w : World) (hw : ReaderAt w B g l t) (h0 : 0 ≤ n) (h1 : n ≤ 32) (h : 8 * (l.length : Int) - (t : Int) < n) :
    Calls Tryd.prog 85 #[.pointer (some ⟨B, 0, none⟩), .int .i64 n] w fun e w' => e = .returned (.tuple #[.int .u32 0, .int .i64 13]) ∧ ∃ q, w' = w.drewN q := by
  have h' : decide (n < 0) = false := by simp; omega
  have HW := Hid.mk hw
  clear hw
  go_enter Tryd.func85, Tryd.ntmps85
  go_wp2_with (go_at_call 103; refine (left_any B g l t _ HW.out).mono ?_; rintro e w1 ⟨rfl, q, rfl⟩)
  go_ret2
  exact ⟨rfl, q, rfl⟩

theorem heap_setCell_two {w : World} {B g : Nat} {l : List Nat} {t : Nat} (h : ReaderAt w B g l t) (t' : Nat) (ht : t' ≤ 8 * l.length) : ReaderAt (w.setCell ⟨B, 1, none⟩ (.int .i64 (t' : Int))) B g l t' := by
  obtain ⟨h1, h2, h3, h4, h5⟩ := h
  have hne : g ≠ B := by intro e; subst e; rw [h1] at h2; simp at h2
  refine ⟨by rw [heap_setCell_at h1]; simp, ?_, h3, ht, h5⟩
  rw [Below.heap_setCell _ _ _ _ (by exact hne)]; exact h2

set_option maxHeartbeats 1000000 in
theorem get_any (B g : Nat) (l : List Nat) (t : Nat) (n : Int) (w : World) (hw : ReaderAt w B g l t) (h0 : 0 ≤ n) (h1 : n ≤ 32) (h : n ≤ 8 * (l.length : Int) - (t : Int)) :
    Calls Tryd.prog 85 #[.pointer (some ⟨B, 0, none⟩), .int .i64 n] w fun e w' => e = .returned (.tuple #[.int .u32 (nextN l t n.toNat : Int), .int .i64 0]) ∧ ReaderAt w' B g l (t + n.toNat) ∧ Kept [B] w w' := by
  have h' : decide (n < 0) = false := by simp; omega
  have HW := Hid.mk hw
  obtain ⟨c0, c1, fz⟩ := cells_two hw.1
  have f1 := fz 1
  have hl := hw.2.2.2.2
  have ht := hw.2.2.2.1
  clear hw fz
  go_enter Tryd.func85, Tryd.ntmps85
  go_wp2_with (first
    | (go_at_call 103; refine (left_any B g l t _ HW.out).mono ?_; rintro e w1 ⟨rfl, q, rfl⟩)
    | (go_at_call 104; refine (next_any B g l t n _ (reader_drewN HW.out _) h0 h1 (by omega)).mono ?_; rintro e w2 ⟨rfl, q2, rfl⟩))
  go_ret2
  have e : (t : Int) + n = ((t + n.toNat : Nat) : Int) := by omega
  refine ⟨rfl, ?_, ?_⟩
  · rw [e]
    exact heap_setCell_two (reader_drewN HW.out _) _ (by omega)
  · exact ((Kept.refl _ _).drewN _).setCell (p := ⟨B, 1, none⟩) (by simp) _

end Go.Proofs.YtodlkpcbkilglaaDoor.Bt
