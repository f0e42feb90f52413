import Derived.Test.YtahoeodpjdbdkaaDoorV01
import Derived.Lib.Strings
import Derived.Lib.Slices
import Derived.Lib.Small
import Derived.Lib.Walk
import Derived.Lib.BitFns
namespace Go.Proofs.YtahoeodpjdbdkaaDoor
open Go.RowKit

/-- A slice's elements are these bytes. -/
def Reads (w : World) (ao : Option Addr) (l : List Nat) : Prop :=
  l = [] ∨ ∃ g off, ao = some ⟨g, off, none⟩ ∧ ∀ i, i < l.length → w.cell? ⟨g, off + i, none⟩ = some (byt (l.getD i 0))

def Byts (l : List Nat) : Prop := ∀ b ∈ l, b < 256

theorem num_take_succ (l : List Nat) (k : Nat) (h : k < l.length) : num (l.take (k + 1)) = num (l.take k) * 256 + l.getD k 0 := by
  rw [List.take_succ_eq_append_getElem h, num_snoc]; simp [h]

theorem num_take_lt (l : List Nat) (k : Nat) (hk : k ≤ 8) (hb : Byts l) : num (l.take k) < 18446744073709551616 := by
  have h := num_lt (l.take k) (fun b h => hb b (List.mem_of_mem_take h))
  have h2 : 256 ^ (l.take k).length ≤ 256 ^ 8 := Nat.pow_le_pow_right (by decide) (by simp; omega)
  have h3 : 256 ^ 8 = 18446744073709551616 := by decide
  omega

theorem getD_lt (l : List Nat) (k : Nat) (hb : Byts l) : l.getD k 0 < 256 := by
  rw [List.getD_eq_getElem?_getD]
  rcases h : l[k]? with _ | x
  · simp
  · exact hb x (List.mem_of_getElem? h)

theorem or_byte (a b : Nat) (hb : b < 256) (h : a * 256 + b < 18446744073709551616) :
    bits BinOp.or IntKind.u64 ((a : Int) * 256) (IntKind.u64.wrap (b : Int)) = ((a * 256 + b : Nat) : Int) := by
  have h1 : a * 256 < 18446744073709551616 := Nat.lt_of_le_of_lt (Nat.le_add_right _ _) h
  have h2 : b < 18446744073709551616 := Nat.lt_of_le_of_lt (Nat.le_add_left _ _) h
  have e1 : ((a : Int) * 256) = ((a * 256 : Nat) : Int) := by omega
  have e2 : IntKind.u64.wrap (b : Int) = (b : Int) := by rw [IntKind.wrap_u64]; omega
  have e3 : a * 256 % 2 ^ 8 = 0 := by rw [show (2 : Nat) ^ 8 = 256 from rfl]; omega
  have e4 : b < 2 ^ 8 := by rw [show (2 : Nat) ^ 8 = 256 from rfl]; exact hb
  rw [e1, e2, u64_or_nat (a * 256) b h1 h2, nat_join 8 (a * 256) b e3 e4]

set_option maxHeartbeats 1000000 in
set_option maxRecDepth 1000000 in
theorem joined_any (ao : Option Addr) (cap : Nat) (l : List Nat) (w : World) (hr : Reads w ao l) (hb : Byts l) (hl : l.length ≤ 8) :
    Calls Tryd.prog 70 #[.slice ao l.length cap] w fun e w' => e = .returned (.int .u64 (num l : Int)) ∧ w' = w := by
  rcases hr with rfl | ⟨g, off, rfl, hc⟩
  · go_enter Tryd.func70, Tryd.ntmps70
    go_wp2
    refine wp_loop_rounds 1 ?_
    rw [rounds_succ]
    go_wp2
    go_ret
    exact ⟨ret_int (by simp [num]), rfl⟩
  · go_enter Tryd.func70, Tryd.ntmps70
    go_wp2
    go_loop [3, 8] (fun v i => ∃ k : Nat, k ≤ l.length ∧ i = .int .i64 k ∧ v = .int .u64 (num (l.take k) : Int)) (fun _ i => l.length - (intOf i).toNat)
    case atStart => exact ⟨0, Nat.zero_le _, rfl, by simp [num]⟩
    case round =>
      obtain ⟨k, hk, rfl, rfl⟩ := hrel
      by_cases hlt : k < l.length
      · have hcell := hc k hlt
        unfold byt at hcell
        have hbk := getD_lt l k hb
        have hs := num_take_succ l k hlt
        have ht := num_take_lt l (k + 1) (by omega) hb
        rw [hs] at ht
        have HO := Hid.mk (or_byte _ _ hbk ht)
        have HS := Hid.mk hs
        clear hs
        clear hc
        go_wp2
        go_round
        case rel =>
          refine ⟨k + 1, by omega, by go_num, ?_⟩
          have h := HO.out
          rw [← HS.out] at h
          rw [← h]
          simp [hlt]
        case measure => simp [intOf]; omega
      · go_wp2
        go_ret
        obtain rfl : k = l.length := by omega
        exact ⟨ret_int (by simp), rfl⟩





/-- Which of n things a raw number speaks of. -/
def pick (c : Int) (n : Int) : Int := if c < 0 then (-(c + 1)) % n else c % n
theorem pick_lo (c n : Int) (h : 0 < n) : 0 ≤ pick c n := by
  unfold pick; split <;> exact Int.emod_nonneg _ (by omega)
theorem pick_hi (c n : Int) (h : 0 < n) : pick c n < n := by
  unfold pick; split <;> exact Int.emod_lt_of_pos _ h

theorem row_some {w : World} {base e n : Nat} {v : Value} {xs : List Value} (h : w.ownsRow base e 1 v n xs) (hn : 0 < n) : ∃ g cap, v = .slice (some ⟨g, 0, none⟩) n cap := by
  rcases h.2 with ⟨_, h1⟩ | ⟨g, cap, cur, h1, _⟩
  · omega
  · exact ⟨g, cap, h1⟩


end Go.Proofs.YtahoeodpjdbdkaaDoor

namespace Go.Proofs.YtahoeodpjdbdkaaDoor
open Go.RowKit

theorem Reads.kept {w w' : World} {ao : Option Addr} {l : List Nat} {ks : List Nat} (h : Reads w ao l) (hk : Kept ks w w') (hn : ∀ g off, ao = some ⟨g, off, none⟩ → g ∉ ks) : Reads w' ao l := by
  rcases h with h | ⟨g, off, rfl, hc⟩
  · exact .inl h
  · refine .inr ⟨g, off, rfl, fun i hi => ?_⟩
    have h1 := hc i hi
    have hlt := World.block_lt_of_cell? w _ h1
    exact (World.cell?_of_block (a := ⟨g, off + i, none⟩) (hk.block g hlt (hn g off rfl))).trans h1

theorem Reads.keep {w w' : World} {ao : Option Addr} {l : List Nat} (h : Reads w ao l) (hk : Kept [] w w') : Reads w' ao l := h.kept hk (by simp)

theorem reads_row {w : World} {ao : Option Addr} {base n cap : Nat} {l : List Nat} (h : w.ownsRow base 5 1 (.slice ao n cap) n (l.map byt)) : Reads w ao l := by
  rcases h.2 with ⟨h1, hn⟩ | ⟨g, cap', cur, h1, _⟩
  · left
    have := h.1
    simp at this
    apply List.eq_nil_of_length_eq_zero
    omega
  · right
    simp at h1
    obtain ⟨rfl, rfl⟩ := h1
    refine ⟨g, 0, rfl, fun i hi => ?_⟩
    have hc := h.cells (g := g) rfl i (byt (l.getD i 0)) (by simp [hi])
    have hadd : (⟨g, 0, none⟩ : Addr).add i = ⟨g, 0 + i, none⟩ := by unfold Addr.add; split <;> simp_all
    rw [hadd] at hc
    exact hc

theorem reads_str {w : World} {ao : Option Addr} {l : List Nat} (h : Reads w ao l) (cap : Nat) : Sem.run Tryd.prog (convert 32 9 (.slice ao l.length cap)) w = .ok (.string (bstr l)) w := by
  rcases h with rfl | ⟨g, off, rfl, hc⟩
  · rcases ao with _ | a
    · exact run_convert_bytes_nil w 32 5 Tryd.underlying32 Tryd.underlying5 0 cap 9 Tryd.underlying9
    · have hl : (loadCells a 0).run Tryd.prog w = .ok #[] w := by simpa using run_loadCells_list (P := Tryd.prog) w a [] (by simp)
      have h1 := run_convert_bytes_string (P := Tryd.prog) w 32 9 5 (some a) 0 cap Tryd.underlying32 Tryd.underlying5 Tryd.underlying9
      have h2 := run_bytesToString (P := Tryd.prog) w a 0 cap [] hl
      rw [h2] at h1
      exact h1
  · exact run_convert_bytes_arg w 32 5 Tryd.underlying32 Tryd.underlying5 g off l.length cap (l.map fun b : Nat => (b : Int)) (by simp) (fun i hi => by rw [hc i hi]; simp [byt, hi]) 9 Tryd.underlying9


end Go.Proofs.YtahoeodpjdbdkaaDoor

namespace Go.Proofs.YtahoeodpjdbdkaaDoor
open Go.RowKit

/-- The n bits of bytes behind the first t, as a number. -/
def nextN (l : List Nat) (t n : Nat) : Nat := num l / 2 ^ (8 * l.length - (t + n)) % 2 ^ n

theorem num_mid (l : List Nat) (a b : Nat) (hab : a ≤ b) (hb : b ≤ l.length) (hl : Byts l) : num ((l.drop a).take (b - a)) = num l / 256 ^ (l.length - b) % 256 ^ (b - a) := by
  have h1 : l = l.take a ++ ((l.drop a).take (b - a) ++ l.drop b) := by
    have e : (l.drop a).drop (b - a) = l.drop b := by rw [List.drop_drop]; congr 1; omega
    rw [← e, List.take_append_drop, List.take_append_drop]
  have hm : ((l.drop a).take (b - a)).length = b - a := by simp; omega
  have hd : (l.drop b).length = l.length - b := by simp
  have l1 : num (l.drop b) < 256 ^ (l.length - b) := by rw [← hd]; exact num_lt _ (fun x hx => hl x (List.mem_of_mem_drop hx))
  have l2 : num ((l.drop a).take (b - a)) < 256 ^ (b - a) := by
    rw [← hm, hm]
    conv => rhs; rw [← hm]
    exact num_lt _ (fun x hx => hl x (List.mem_of_mem_drop (List.mem_of_mem_take hx)))
  have h2 : num l = (num (l.take a) * 256 ^ (b - a) + num ((l.drop a).take (b - a))) * 256 ^ (l.length - b) + num (l.drop b) := by
    conv => lhs; rw [h1]
    rw [num_append, num_append, List.length_append, hm, hd, Nat.pow_add, Nat.add_mul, ← Nat.mul_assoc, Nat.add_assoc]
  rw [h2, Nat.add_comm _ (num (l.drop b)), Nat.add_mul_div_right _ _ (Nat.pow_pos (by decide)), Nat.div_eq_of_lt l1, Nat.zero_add, Nat.mul_add_mod_self_right, Nat.mod_eq_of_lt l2]

theorem next_eq (l : List Nat) (t n : Nat) (hl : Byts l) (h : t + n ≤ 8 * l.length) :
    num ((l.drop (t / 8)).take ((t + n + 7) / 8 - t / 8)) / 2 ^ (8 * ((t + n + 7) / 8) - (t + n)) % 2 ^ n = nextN l t n := by
  rw [num_mid l _ _ (by omega) (by omega) hl, pow256, pow256, nextN]
  generalize hb : (t + n + 7) / 8 = b at *
  generalize ha : t / 8 = a at *
  have e1 : 8 * (b - a) = (8 * b - (t + n)) + (t + n - 8 * a) := by omega
  rw [e1, Nat.pow_add, Nat.mod_mul_right_div_self, Nat.div_div_eq_div_mul, ← Nat.pow_add]
  have e2 : 8 * (l.length - b) + (8 * b - (t + n)) = 8 * l.length - (t + n) := by omega
  rw [e2, Nat.mod_mod_of_dvd]
  exact Nat.pow_dvd_pow 2 (by omega)

/-- The reader whose struct is block B, over the bytes l in block g, of which t bits are taken. -/
def ReaderAt (w : World) (B g : Nat) (l : List Nat) (t : Nat) : Prop :=
  w.heap[B]? = some (.cells #[.slice (some ⟨g, 0, none⟩) l.length l.length, .int .i64 (t : Int)] 90 (0, 0)) ∧ w.heap[g]? = some (.cells (l.map byt).toArray 5 (0, 0)) ∧ Byts l ∧ t ≤ 8 * l.length ∧ l.length ≤ 281474976710656

theorem cells_two {w : World} {B : Nat} {a b : Value} {t : TypeId} (h : w.heap[B]? = some (.cells #[a, b] t (0, 0))) :
    w.cell? ⟨B, 0, none⟩ = some a ∧ w.cell? ⟨B, 1, none⟩ = some b ∧ ∀ i, w.frozen? ⟨B, i, none⟩ = false := by
  refine ⟨?_, ?_, ?_⟩ <;> simp [World.cell?, World.frozen?, h]

theorem reads_src {w : World} {ao : Option Addr} {l : List Nat} (h : Reads w ao l) : 0 < l.length → ∃ ad, ao = some ad ∧ ∀ j u, (l.map byt)[j]? = some u → w.cell? (ad.add j) = some u := by
  intro hp
  rcases h with rfl | ⟨g, off, rfl, hc⟩
  · simp at hp
  · refine ⟨_, rfl, fun j u hu => ?_⟩
    have hj : j < l.length := by
      rcases Nat.lt_or_ge j l.length with h | h
      · exact h
      · rw [List.getElem?_eq_none (by simpa using h)] at hu; cases hu
    have hadd : (⟨g, off, none⟩ : Addr).add j = ⟨g, off + j, none⟩ := by unfold Addr.add; split <;> simp_all
    rw [hadd, hc j hj]
    simp [hj] at hu
    simp [hj, hu]

set_option maxHeartbeats 1000000 in
set_option maxRecDepth 1000000 in
theorem newReader_any (ao : Option Addr) (cap m : Nat) (l : List Nat) (w : World) (hr : Reads w ao l) (hb : Byts l) (hm : l.length = m) (hl : m ≤ 281474976710656) :
    Calls Tryd.prog 31 #[.slice ao m cap] w fun e w' => ∃ B g, e = .returned (.pointer (some ⟨B, 0, none⟩)) ∧ w.heap.size ≤ B ∧ w.heap.size ≤ g ∧ ReaderAt w' B g l 0 ∧ Kept [] w w' := by
  obtain ⟨i0, hi, hz0, hz1, hz2⟩ := info_parts Tryd.info5
  go_enter Tryd.func31, Tryd.ntmps31
  go_wp2_with (at_make; refine wpList_make_full _ rfl _ _ 32 rfl 0 5 i0 (.int .u8 0) 1 Tryd.underlying32 hi hz0 hz1 _ _ _ _ m rfl rfl (by omega) (by omega) ?b2 ?b3 (by omega) ?_)
  case b2 => rw [hz2]; omega
  case b3 => unfold maxLen; omega
  intro w1 ho1 hg1
  have hk1 := Kept.of_grown hg1
  have hr1 := row_heap ho1 rfl
  rw [toList_madeCells_one] at hr1
  have Hsrc := Hid.mk (reads_src (hr.keep hk1))
  rw [hm] at Hsrc
  obtain ⟨w2, hrun, hr2, hk2⟩ := copy_run w1 w.heap.size m m ao m cap _ (l.map byt) hr1 (by simp) (by simpa using hm) (Nat.le_refl _) Hsrc.out (bytes_one l)
  have hK : Kept [] w w2 := hk1.step hk2 (by simp)
  have hr3 : w2.heap[w.heap.size]? = some (.cells (l.map byt).toArray 5 (0, 0)) := by rw [hr2]; simp
  have Hr3 := Hid.mk hr3
  have hsz := hK.size
  have Hm := Hid.mk hm
  have HK := Hid.mk hK
  clear hr2 hr3 hr1 ho1 hg1 hk1 hk2 hK hm hr
  go_wp2
  go_ret
  refine ⟨w2.heap.size, w.heap.size, rfl, hsz, Nat.le_refl _, ⟨?_, ?_, hb, by omega, by rw [Hm.out]; exact hl⟩, HK.out.alloc _⟩
  · rw [heap_alloc_new, Hm.out]; simp
  · rw [Below.heap_alloc _ _ _ (lt_of_block Hr3.out)]; exact Hr3.out

set_option maxHeartbeats 400000 in
theorem left_any (B g : Nat) (l : List Nat) (t : Nat) (w : World) (hw : ReaderAt w B g l t) :
    Calls Tryd.prog 47 #[.pointer (some ⟨B, 0, none⟩)] w fun e w' => e = .returned (.int .i64 (8 * (l.length : Int) - (t : Int))) ∧ ∃ q, w' = w.drewN q := by
  obtain ⟨hB, hg, hb, ht, hl⟩ := hw
  obtain ⟨c0, c1, fz⟩ := cells_two hB
  go_enter Tryd.func47, Tryd.ntmps47
  go_wp2_with fail
  go_quiet (fail)
  go_wp2
  go_ret
  exact ⟨ret_int (by omega), _, rfl⟩

theorem mid_reads {w : World} {g : Nat} {l : List Nat} (a m : Nat) (hg : w.heap[g]? = some (.cells (l.map byt).toArray 5 (0, 0))) (_h : a + m ≤ l.length) :
    Reads w (if l.length = a then some ⟨g, 0, none⟩ else some ⟨g, a, none⟩) ((l.drop a).take m) := by
  by_cases he : l.length = a
  · left; rw [← he]; simp
  · right
    refine ⟨g, a, by simp [he], fun i hi => ?_⟩
    have hi' : i < m ∧ a + i < l.length := by simp at hi; omega
    simp [World.cell?, hg, hi'.1, hi'.2]

theorem reads_if {w : World} {g a : Nat} {l sub : List Nat} {_hd : Decidable (l.length = a)} (h1 : Hid (l.length = a → sub = [])) (h2 : Hid (∀ x, ¬ l.length = a → Reads (w.drewN x) (some ⟨g, a, none⟩) sub)) (x : Nat) :
    Reads (w.drewN x) (if l.length = a then some ⟨g, 0, none⟩ else some ⟨g, a, none⟩) sub := by
  split
  · exact .inl (h1 ‹_›)
  · exact h2 x ‹_›

theorem joined_at (ao : Option Addr) (cap m : Nat) (l : List Nat) (w : World) (hr : Reads w ao l) (hb : Byts l) (hm : l.length = m) (hl : m ≤ 8) :
    Calls Tryd.prog 70 #[.slice ao m cap] w fun e w' => e = .returned (.int .u64 (num l : Int)) ∧ w' = w := by
  subst hm
  exact joined_any ao cap l w hr hb hl

set_option maxHeartbeats 600000 in
set_option maxRecDepth 1000000 in
theorem next_any (B g : Nat) (l : List Nat) (t : Nat) (n : Int) (w : World) (hw : ReaderAt w B g l t) (h0 : 0 ≤ n) (h1 : n ≤ 32) (h : (t : Int) + n ≤ 8 * (l.length : Int)) :
    Calls Tryd.prog 48 #[.pointer (some ⟨B, 0, none⟩), .int .i64 n] w fun e w' => e = .returned (.int .u32 (nextN l t n.toNat : Int)) ∧ ∃ q, w' = w.drewN q := by
  obtain ⟨hB, hg, hb, ht, hl⟩ := hw
  obtain ⟨c0, c1, fz⟩ := cells_two hB
  obtain ⟨k, rfl⟩ := Int.eq_ofNat_of_zero_le h0
  obtain ⟨a, ha⟩ : ∃ a, a = t / 8 := ⟨_, rfl⟩
  obtain ⟨b, hbb⟩ : ∃ b, b = (t + k + 7) / 8 := ⟨_, rfl⟩
  have hsub := fun x => (mid_reads a (b - a) hg (by omega)).keep ((Kept.refl [] w).drewN x)
  have hlen : ((l.drop a).take (b - a)).length = b - a := by simp; omega
  have hsb : Byts ((l.drop a).take (b - a)) := fun x hx => hb x (List.mem_of_mem_drop (List.mem_of_mem_take hx))
  have hS : num ((l.drop a).take (b - a)) < 1099511627776 := by
    have h1 := num_lt _ hsb
    rw [hlen] at h1
    have h2 : 256 ^ (b - a) ≤ 256 ^ 5 := Nat.pow_le_pow_right (by decide) (by omega)
    have h3 : 256 ^ 5 = 1099511627776 := by decide
    omega
  have hnx := next_eq l t k hb (by omega)
  rw [← ha, ← hbb] at hnx
  generalize (l.drop a).take (b - a) = sub at *
  have Hs1 : Hid (l.length = a → sub = []) := fun he => by
    apply List.eq_nil_of_length_eq_zero; omega
  have Hs2 : Hid (∀ x, ¬ l.length = a → Reads (w.drewN x) (some ⟨g, a, none⟩) sub) := fun x he => by
    have := hsub x; rw [if_neg he] at this; exact this
  have Hlen := Hid.mk hlen
  have Hnx := Hid.mk hnx
  have HB := Hid.mk hB
  have ea : (t : Int) / 8 = (a : Int) := by omega
  have eb : ((t : Int) + (k : Int) + 7) / 8 = (b : Int) := by omega
  have hab : (a : Int) ≤ (b : Int) := by omega
  have hbl : (b : Int) ≤ (l.length : Int) := by omega
  have hba : b - a ≤ 8 := by omega
  obtain ⟨S, hS0⟩ : ∃ S : Int, S = (num sub : Int) := ⟨_, rfl⟩
  obtain ⟨E, hE⟩ : ∃ E : Int, E = (t : Int) + (k : Int) := ⟨_, rfl⟩
  obtain ⟨L, hL⟩ : ∃ L : Int, L = ((t : Int) + (k : Int) + 7) / 8 := ⟨_, rfl⟩
  have HS0 := Hid.mk hS0
  have HE := Hid.mk hE
  have HL : Hid (L = (b : Int)) := by rw [hL]; exact eb
  have s0 : 0 ≤ S := by omega
  have s1 : S < 1099511627776 := by omega
  have hx0 : 0 ≤ 8 * L - E := by omega
  have hx1 : 8 * L - E ≤ 7 := by omega
  have l0 : 0 ≤ L := by omega
  have l1 : L ≤ 281474976710656 := by omega
  have e0 : 0 ≤ E := by omega
  have hv0 : 0 ≤ S / 2 ^ (8 * L - E).toNat := Int.ediv_nonneg (by omega) (Int.le_of_lt (Int.pow_pos (by decide)))
  have hv1 : S / 2 ^ (8 * L - E).toNat < 18446744073709551616 := Int.lt_of_le_of_lt (Int.ediv_le_self _ (by omega)) (by omega)
  have Hv0 := Hid.mk hv0
  have Hv1 := Hid.mk hv1
  have hfin : IntKind.u32.wrap (S / 2 ^ (8 * L - E).toNat % 2 ^ k) = (nextN l t k : Int) := by
    have e1 : (8 * L - E).toNat = 8 * b - (t + k) := by omega
    rw [e1, hS0, pow_two_int, pow_two_int, ← Int.natCast_ediv, ← Int.natCast_emod, hnx, IntKind.wrap_u32']
    have h1 : nextN l t k < 2 ^ k := by unfold nextN; exact Nat.mod_lt _ (Nat.two_pow_pos _)
    have h2 : (2 : Nat) ^ k ≤ 2 ^ 32 := Nat.pow_le_pow_right (by decide) (by omega)
    have h3 : (2 : Nat) ^ 32 = 4294967296 := by decide
    have h4 : nextN l t k < 4294967296 := by rw [← h3]; exact Nat.lt_of_lt_of_le h1 h2
    clear hnx h1 h2 h3
    omega
  have Hfin := Hid.mk hfin
  clear hfin
  clear hv0 hv1 hS fz hsub hlen hnx hg hB ha hbb ht hS0 hE hL
  go_enter Tryd.func48, Tryd.ntmps48
  go_wp2_with fail
  go_cut [5, 6, 7] (fun s5 s6 s7 wc => s5 = .int .i64 E ∧ s6 = .int .i64 L ∧ s7 = .int .u64 S ∧ ∃ q, wc = w.drewN q)
  case first =>
    go_quiet ((go_at_call 70; refine Calls.quiet_of_same (joined_at _ _ _ sub _ ?_ hsb Hlen.out hba); exact reads_if Hs1 Hs2 _))
    go_wp2
    all_goals go_meet
    all_goals exact ⟨by rw [HE.out], by rw [HL.out], by rw [HS0.out], _, rfl⟩
  case rest =>
    obtain ⟨rfl, rfl, rfl, q, rfl⟩ := hcut
    clear c0 c1 ea eb hab hbl hba h hsb
    go_wp2_with (go_at_call 63; refine (lowest_any _ _ _ (by omega) (by omega) Hv0.out Hv1.out).mono ?_; rintro e w1 ⟨rfl, rfl⟩)
    go_ret
    exact ⟨ret_int (by rw [Int.toNat_natCast]; exact Hfin.out), _, rfl⟩

theorem reader_drewN {w : World} {B g : Nat} {l : List Nat} {t : Nat} (h : ReaderAt w B g l t) (q : Nat) : ReaderAt (w.drewN q) B g l t := by
  have hk := (Kept.refl [] w).drewN q
  exact ⟨hk.heap h.1 (by simp), hk.heap h.2.1 (by simp), h.2.2⟩

theorem reader_kept {w w' : World} {B g : Nat} {l : List Nat} {t : Nat} {ks : List Nat} (h : ReaderAt w B g l t) (hk : Kept ks w w') (h1 : B ∉ ks) (h2 : g ∉ ks) : ReaderAt w' B g l t :=
  ⟨hk.heap h.1 h1, hk.heap h.2.1 h2, h.2.2⟩

set_option maxHeartbeats 1000000 in
theorem get_width (B : Nat) (n : Int) (w : World) (h : n < 0 ∨ 32 < n) :
    Calls Tryd.prog 35 #[.pointer (some ⟨B, 0, none⟩), .int .i64 n] w fun e w' => e = .returned (.tuple #[.int .u32 0, .int .i64 11]) ∧ w' = w := by
  rcases h with h | h
  · go_enter Tryd.func35, Tryd.ntmps35
    go_wp2
    go_ret2
    exact ⟨rfl, rfl⟩
  · have h' : ¬ n < 0 := by omega
    go_enter Tryd.func35, Tryd.ntmps35
    go_wp2
    go_ret2
    exact ⟨rfl, rfl⟩

set_option maxHeartbeats 1000000 in
theorem get_end (B g : Nat) (l : List Nat) (t : Nat) (n : Int) (w : World) (hw : ReaderAt w B g l t) (h0 : 0 ≤ n) (h1 : n ≤ 32) (h : 8 * (l.length : Int) - (t : Int) < n) :
    Calls Tryd.prog 35 #[.pointer (some ⟨B, 0, none⟩), .int .i64 n] w fun e w' => e = .returned (.tuple #[.int .u32 0, .int .i64 13]) ∧ ∃ q, w' = w.drewN q := by
  have h' : decide (n < 0) = false := by simp; omega
  have HW := Hid.mk hw
  clear hw
  go_enter Tryd.func35, Tryd.ntmps35
  go_wp2_with (go_at_call 47; refine (left_any B g l t _ HW.out).mono ?_; rintro e w1 ⟨rfl, q, rfl⟩)
  go_ret2
  exact ⟨rfl, q, rfl⟩

theorem heap_setCell_two {w : World} {B g : Nat} {l : List Nat} {t : Nat} (h : ReaderAt w B g l t) (t' : Nat) (ht : t' ≤ 8 * l.length) : ReaderAt (w.setCell ⟨B, 1, none⟩ (.int .i64 (t' : Int))) B g l t' := by
  obtain ⟨h1, h2, h3, h4, h5⟩ := h
  have hne : g ≠ B := by intro e; subst e; rw [h1] at h2; simp at h2
  refine ⟨by rw [heap_setCell_at h1]; simp, ?_, h3, ht, h5⟩
  rw [Below.heap_setCell _ _ _ _ (by exact hne)]; exact h2

set_option maxHeartbeats 1000000 in
theorem get_any (B g : Nat) (l : List Nat) (t : Nat) (n : Int) (w : World) (hw : ReaderAt w B g l t) (h0 : 0 ≤ n) (h1 : n ≤ 32) (h : n ≤ 8 * (l.length : Int) - (t : Int)) :
    Calls Tryd.prog 35 #[.pointer (some ⟨B, 0, none⟩), .int .i64 n] w fun e w' => e = .returned (.tuple #[.int .u32 (nextN l t n.toNat : Int), .int .i64 0]) ∧ ReaderAt w' B g l (t + n.toNat) ∧ Kept [B] w w' := by
  have h' : decide (n < 0) = false := by simp; omega
  have HW := Hid.mk hw
  obtain ⟨c0, c1, fz⟩ := cells_two hw.1
  have f1 := fz 1
  have hl := hw.2.2.2.2
  have ht := hw.2.2.2.1
  clear hw fz
  go_enter Tryd.func35, Tryd.ntmps35
  go_wp2_with (first
    | (go_at_call 47; refine (left_any B g l t _ HW.out).mono ?_; rintro e w1 ⟨rfl, q, rfl⟩)
    | (go_at_call 48; refine (next_any B g l t n _ (reader_drewN HW.out _) h0 h1 (by omega)).mono ?_; rintro e w2 ⟨rfl, q2, rfl⟩))
  go_ret2
  have e : (t : Int) + n = ((t + n.toNat : Nat) : Int) := by omega
  refine ⟨rfl, ?_, ?_⟩
  · rw [e]
    exact heap_setCell_two (reader_drewN HW.out _) _ (by omega)
  · exact ((Kept.refl _ _).drewN _).setCell (p := ⟨B, 1, none⟩) (by simp) _

end Go.Proofs.YtahoeodpjdbdkaaDoor

namespace Go.Proofs.YtahoeodpjdbdkaaDoor
open Go.RowKit

theorem tab_int (x : Int) (h0 : 0 ≤ x) (h : x.toNat < Lib.len8tab.size) : wrap64 ((Lib.len8tab[x.toNat]'h).toNat : Int) = (Lib.bitLen x.toNat : Int) ∧ Lib.bitLen x.toNat ≤ 8 := by
  have h2 : x.toNat < 256 := by rw [← Lib.len8tab_size]; exact h
  have hl : Lib.bitLen x.toNat ≤ 8 := Lib.bitLen_le8 ⟨x.toNat, h2⟩
  have e := Lib.len8_of x h0 (by omega)
  unfold Lib.len8 at e
  rw [getElem?_pos Lib.len8tab x.toNat h, Option.getD_some] at e
  refine ⟨?_, hl⟩
  rw [e]
  unfold wrap64
  omega

set_option maxHeartbeats 4000000 in
set_option maxRecDepth 100000 in
theorem len32_any (x : Int) (w : World) (h0 : 0 ≤ x) (h1 : x ≤ 4294967295) :
    Calls Tryd.prog 96 #[.int .u32 x] w fun e w' => e = .returned (.int .i64 (Lib.bitLen x.toNat)) ∧ w' = w := by
  have hsz := Lib.len8tab_size
  by_cases c1 : x < 65536
  · by_cases c2 : x < 256
    · go_enter Tryd.func96, Tryd.ntmps96
      go_wp2
      go_ret
      refine ⟨congrArg Ending.returned (congrArg (Value.int IntKind.i64) ?_), rfl⟩
      have t := tab_int (x) (by omega) (by rw [Lib.len8tab_size]; omega)
      rw [t.1]
      unfold wrap64
      omega
    · go_enter Tryd.func96, Tryd.ntmps96
      go_wp2
      go_ret
      refine ⟨congrArg Ending.returned (congrArg (Value.int IntKind.i64) ?_), rfl⟩
      have t := tab_int (x / 256) (by omega) (by rw [Lib.len8tab_size]; omega)
      rw [t.1]
      have s := Lib.bitLen_shift8 x.toNat (by omega) (by omega)
      have e : (x / 256).toNat = x.toNat / 256 := by omega
      have l := t.2
      rw [e] at l ⊢
      unfold wrap64
      omega
  · by_cases c2 : x / 65536 < 256
    · go_enter Tryd.func96, Tryd.ntmps96
      go_wp2
      go_ret
      refine ⟨congrArg Ending.returned (congrArg (Value.int IntKind.i64) ?_), rfl⟩
      have t := tab_int (x / 65536) (by omega) (by rw [Lib.len8tab_size]; omega)
      rw [t.1]
      have s := Lib.bitLen_shift16 x.toNat (by omega) (by omega)
      have e : (x / 65536).toNat = x.toNat / 65536 := by omega
      have l := t.2
      rw [e] at l ⊢
      unfold wrap64
      omega
    · go_enter Tryd.func96, Tryd.ntmps96
      go_wp2
      go_ret
      refine ⟨congrArg Ending.returned (congrArg (Value.int IntKind.i64) ?_), rfl⟩
      have t := tab_int (x / 65536 / 256) (by omega) (by rw [Lib.len8tab_size]; omega)
      rw [t.1]
      have s := Lib.bitLen_shift24 x.toNat (by omega) (by omega)
      have e : (x / 65536 / 256).toNat = x.toNat / 16777216 := by omega
      have l := t.2
      rw [e] at l ⊢
      unfold wrap64
      omega

theorem nextN_lt (l : List Nat) (t n : Nat) : nextN l t n < 2 ^ n := Nat.mod_lt _ (Nat.two_pow_pos _)

/-- Two numbers taken one behind the other. -/
theorem nextN_join (l : List Nat) (t a b : Nat) (h : t + a + b ≤ 8 * l.length) : nextN l t (a + b) = nextN l t a * 2 ^ b + nextN l (t + a) b := by
  unfold nextN
  have e1 : 8 * l.length - (t + a) = (8 * l.length - (t + (a + b))) + b := by omega
  have e2 : t + a + b = t + (a + b) := by omega
  have e3 : num l / 2 ^ (8 * l.length - (t + (a + b)) + b) = num l / 2 ^ (8 * l.length - (t + (a + b))) / 2 ^ b := by rw [Nat.pow_add, ← Nat.div_div_eq_div_mul]
  rw [e1, e2, e3]
  generalize num l / 2 ^ (8 * l.length - (t + (a + b))) = Y
  rw [Nat.add_comm a b, Nat.pow_add, Nat.mod_mul, Nat.mul_comm (2 ^ b), Nat.add_comm]

/-- One bit out of a number. -/
theorem nextN_bit (l : List Nat) (t m i : Nat) (hi : i < m) (h : t + m ≤ 8 * l.length) : nextN l (t + i) 1 = nextN l t m / 2 ^ (m - 1 - i) % 2 := by
  have h1 := nextN_join l t i (m - i) (by omega)
  have h2 := nextN_join l (t + i) 1 (m - i - 1) (by omega)
  rw [show i + (m - i) = m by omega] at h1
  rw [show 1 + (m - i - 1) = m - i by omega] at h2
  have l3 := nextN_lt l (t + i + 1) (m - i - 1)
  have l4 := nextN_lt l (t + i) 1
  have e : m - i = (m - 1 - i) + 1 := by omega
  have e' : m - i - 1 = m - 1 - i := by omega
  rw [e'] at h2 l3
  rw [h1, h2, e, Nat.pow_succ]
  generalize nextN l t i = A at *
  generalize nextN l (t + i) 1 = Bt at *
  generalize nextN l (t + i + 1) (m - 1 - i) = C at *
  generalize 2 ^ (m - 1 - i) = P at *
  have e3 : A * (P * 2) + (Bt * P + C) = (A * 2 + Bt) * P + C := by rw [Nat.add_mul, Nat.mul_assoc, Nat.mul_comm 2 P, Nat.add_assoc]
  rw [e3, Nat.add_comm, Nat.add_mul_div_right _ _ (by omega), Nat.div_eq_of_lt l3, Nat.zero_add]
  omega

theorem bitLen_zero : Lib.bitLen 0 = 0 := by decide
theorem bitLen_bounds (x : Nat) (h : x < 2 ^ 64) (h0 : x ≠ 0) : 1 ≤ Lib.bitLen x ∧ 2 ^ (Lib.bitLen x - 1) ≤ x ∧ x < 2 ^ Lib.bitLen x := by
  induction x using Nat.strongRecOn with
  | _ x ih =>
    have hh := Lib.bitLen_half x h0 h
    by_cases h1 : x / 2 = 0
    · have : x = 1 := by omega
      subst this
      decide
    · have := ih (x / 2) (by omega) (by omega) h1
      rw [hh]
      have e : 1 + Lib.bitLen (x / 2) - 1 = (Lib.bitLen (x / 2) - 1) + 1 := by omega
      rw [e, Nat.pow_succ, Nat.add_comm 1, Nat.pow_succ]
      omega

/-- What Get comes to. -/
def GetRes (l : List Nat) (t n : Nat) (X E : Int) (t' : Nat) : Prop :=
  (t + n ≤ 8 * l.length ∧ X = (nextN l t n : Int) ∧ E = 0 ∧ t' = t + n) ∨ (8 * l.length < t + n ∧ X = 0 ∧ E = 13 ∧ t' = t)

theorem getRes_ex (l : List Nat) (t n : Nat) : ∃ X E t', GetRes l t n X E t' := by
  by_cases h : t + n ≤ 8 * l.length
  · exact ⟨_, _, _, .inl ⟨h, rfl, rfl, rfl⟩⟩
  · exact ⟨_, _, _, .inr ⟨by omega, rfl, rfl, rfl⟩⟩

theorem get_res (B g : Nat) (l : List Nat) (t : Nat) (n X E : Int) (t' : Nat) (w : World) (hw : ReaderAt w B g l t) (h0 : 0 ≤ n) (h1 : n ≤ 32) (h : GetRes l t n.toNat X E t') :
    Calls Tryd.prog 35 #[.pointer (some ⟨B, 0, none⟩), .int .i64 n] w fun e w' => e = .returned (.tuple #[.int .u32 X, .int .i64 E]) ∧ ReaderAt w' B g l t' ∧ Kept [B] w w' := by
  rcases h with ⟨h2, rfl, rfl, rfl⟩ | ⟨h2, rfl, rfl, rfl⟩
  · exact get_any B g l t n w hw h0 h1 (by omega)
  · refine (get_end B g l _ n w hw h0 h1 (by omega)).mono ?_
    rintro e w' ⟨rfl, q, rfl⟩
    exact ⟨rfl, reader_drewN hw q, (Kept.refl _ _).drewN q⟩

/-- What Zeros comes to. -/
def ZerosRes (l : List Nat) (t n : Nat) (Z E : Int) (t' : Nat) : Prop :=
  (∃ j, j < n ∧ t + j < 8 * l.length ∧ (∀ i, i < j → nextN l (t + i) 1 = 0) ∧ nextN l (t + j) 1 = 1 ∧ Z = (j : Int) ∧ E = 0 ∧ t' = t + j + 1) ∨
  (t + n ≤ 8 * l.length ∧ (∀ i, i < n → nextN l (t + i) 1 = 0) ∧ Z = (n : Int) ∧ E = 0 ∧ t' = t + n) ∨
  (8 * l.length < t + n ∧ (∀ i, t + i < 8 * l.length → nextN l (t + i) 1 = 0) ∧ Z = 0 ∧ E = 13 ∧ t' = t)

/-- The noughts ahead of the first one of m bits. -/
theorem lead (l : List Nat) (t m : Nat) (hm : m ≤ 32) (h : t + m ≤ 8 * l.length) (hx : nextN l t m ≠ 0) :
    Lib.bitLen (nextN l t m) ≤ m ∧ 1 ≤ Lib.bitLen (nextN l t m) ∧ (∀ i, i < m - Lib.bitLen (nextN l t m) → nextN l (t + i) 1 = 0) ∧ nextN l (t + (m - Lib.bitLen (nextN l t m))) 1 = 1 := by
  have hlt := nextN_lt l t m
  have h64 : nextN l t m < 2 ^ 64 := Nat.lt_of_lt_of_le hlt (Nat.pow_le_pow_right (by decide) (by omega))
  obtain ⟨b1, b2, b3⟩ := bitLen_bounds _ h64 hx
  have hle := Lib.bitLen_le (nextN l t m) m (by omega) hlt
  refine ⟨hle, b1, fun i hi => ?_, ?_⟩
  · rw [nextN_bit l t m i (by omega) h, Nat.div_eq_of_lt]
    exact Nat.lt_of_lt_of_le b3 (Nat.pow_le_pow_right (by decide) (by omega))
  · rw [nextN_bit l t m _ (by omega) h, show m - 1 - (m - Lib.bitLen (nextN l t m)) = Lib.bitLen (nextN l t m) - 1 by omega]
    have e : 2 ^ Lib.bitLen (nextN l t m) = 2 * 2 ^ (Lib.bitLen (nextN l t m) - 1) := by
      rw [← Nat.pow_succ']; congr 1; omega
    have : nextN l t m / 2 ^ (Lib.bitLen (nextN l t m) - 1) = 1 := by
      rw [Nat.div_eq_of_lt_le] <;> omega
    rw [this]

theorem lead_none (l : List Nat) (t m : Nat) (h : t + m ≤ 8 * l.length) (hx : nextN l t m = 0) : ∀ i, i < m → nextN l (t + i) 1 = 0 := by
  intro i hi
  rw [nextN_bit l t m i hi h, hx]
  simp

theorem len32_at (x : Int) (b : Nat) (w : World) (h0 : 0 ≤ x) (h1 : x ≤ 4294967295) (hb : b = Lib.bitLen x.toNat) :
    Calls Tryd.prog 96 #[.int .u32 x] w fun e w' => e = .returned (.int .i64 (b : Int)) ∧ w' = w := by
  subst hb
  exact len32_any x w h0 h1

theorem next_u32 (l : List Nat) (t k : Nat) (h : k ≤ 32) : (nextN l t k : Int) ≤ 4294967295 := by
  have h1 := nextN_lt l t k
  have h2 : (2 : Nat) ^ k ≤ 2 ^ 32 := Nat.pow_le_pow_right (by decide) h
  have h3 : (2 : Nat) ^ 32 = 4294967296 := by decide
  have h4 : nextN l t k < 4294967296 := by rw [← h3]; exact Nat.lt_of_lt_of_le h1 h2
  omega

set_option maxHeartbeats 2000000 in
set_option maxRecDepth 100000 in
theorem zeros_raw (B g : Nat) (l : List Nat) (t : Nat) (n : Int) (m : Int) (b : Nat) (w : World) (hw : ReaderAt w B g l t) (h0 : 0 ≤ n) (h1 : n ≤ 32) (hm : m = min n (8 * (l.length : Int) - (t : Int)))
    (hb : b = Lib.bitLen (nextN l t m.toNat)) (hbm : (b : Int) ≤ m) :
    Calls Tryd.prog 94 #[.pointer (some ⟨B, 0, none⟩), .int .i64 n] w fun e w' =>
      (1 ≤ b → e = .returned (.tuple #[.int .i64 (m - (b : Int)), .int .i64 0]) ∧ ReaderAt w' B g l (t + (m.toNat - b) + 1) ∧ Kept [B] w w') ∧
      (b = 0 → m < n → e = .returned (.tuple #[.int .i64 0, .int .i64 13]) ∧ ReaderAt w' B g l t ∧ Kept [B] w w') ∧
      (b = 0 → m = n → e = .returned (.tuple #[.int .i64 m, .int .i64 0]) ∧ ReaderAt w' B g l (t + m.toNat) ∧ Kept [B] w w') := by
  have h' : decide (n < 0) = false := by simp; omega
  have HW := Hid.mk hw
  obtain ⟨c0, c1, fz⟩ := cells_two hw.1
  have f1 := fz 1
  have hl := hw.2.2.2.2
  have ht := hw.2.2.2.1
  clear hw fz
  have m0 : 0 ≤ m := by omega
  have m1 : m ≤ 32 := by omega
  have m2 : (t : Int) + m ≤ 8 * (l.length : Int) := by omega
  have m3 : m ≤ n := by omega
  have hm' : min n (8 * (l.length : Int) - (t : Int)) = m := hm.symm
  have Hb : Hid (b = Lib.bitLen ((nextN l t m.toNat : Int)).toNat) := by rw [Int.toNat_natCast]; exact hb
  have Hu := Hid.mk (next_u32 l t m.toNat (by omega))
  clear hm hb
  by_cases hb1 : 1 ≤ b
  · have k1 : m - (b : Int) < m := by omega
    go_enter Tryd.func94, Tryd.ntmps94
    go_wp2_with (first
      | (go_at_call 47; refine (left_any B g l t _ HW.out).mono ?_; rintro e w1 ⟨rfl, q, rfl⟩)
      | (go_at_call 48; refine (next_any B g l t m _ (reader_drewN HW.out _) m0 m1 m2).mono ?_; rintro e w2 ⟨rfl, q2, rfl⟩)
      | (go_at_call 96; refine (len32_at _ b _ (by omega) Hu.out Hb.out).mono ?_; rintro e w3 ⟨rfl, rfl⟩))
    go_ret2
    refine ⟨fun _ => ⟨rfl, ?_, ((Kept.refl _ _).drewN _).setCell (p := ⟨B, 1, none⟩) (by simp) _⟩, fun h => by omega, fun h => by omega⟩
    have e : (t : Int) + (m - (b : Int) + 1) = ((t + (m.toNat - b) + 1 : Nat) : Int) := by omega
    rw [e]
    exact heap_setCell_two (reader_drewN HW.out _) _ (by omega)
  · obtain rfl : b = 0 := by omega
    by_cases hmn : m < n
    · have k2 : ¬ m = n := by omega
      go_enter Tryd.func94, Tryd.ntmps94
      go_wp2_with (first
        | (go_at_call 47; refine (left_any B g l t _ HW.out).mono ?_; rintro e w1 ⟨rfl, q, rfl⟩)
        | (go_at_call 48; refine (next_any B g l t m _ (reader_drewN HW.out _) m0 m1 m2).mono ?_; rintro e w2 ⟨rfl, q2, rfl⟩)
        | (go_at_call 96; refine (len32_at _ 0 _ (by omega) Hu.out Hb.out).mono ?_; rintro e w3 ⟨rfl, rfl⟩))
      go_ret2
      exact ⟨fun h => by omega, fun _ _ => ⟨rfl, reader_drewN HW.out _, (Kept.refl _ _).drewN _⟩, fun _ h => by omega⟩
    · go_enter Tryd.func94, Tryd.ntmps94
      go_wp2_with (first
        | (go_at_call 47; refine (left_any B g l t _ HW.out).mono ?_; rintro e w1 ⟨rfl, q, rfl⟩)
        | (go_at_call 48; refine (next_any B g l t m _ (reader_drewN HW.out _) m0 m1 m2).mono ?_; rintro e w2 ⟨rfl, q2, rfl⟩)
        | (go_at_call 96; refine (len32_at _ 0 _ (by omega) Hu.out Hb.out).mono ?_; rintro e w3 ⟨rfl, rfl⟩))
      go_ret2
      refine ⟨fun h => by omega, fun _ h => by omega, fun _ _ => ⟨?_, ?_, ((Kept.refl _ _).drewN _).setCell (p := ⟨B, 1, none⟩) (by simp) _⟩⟩
      · rfl
      · have e : (t : Int) + m = ((t + m.toNat : Nat) : Int) := by omega
        rw [e]
        exact heap_setCell_two (reader_drewN HW.out _) _ (by omega)

theorem zeros_res (l : List Nat) (t : Nat) (n : Int) (ht : t ≤ 8 * l.length) (h0 : 0 ≤ n) (h1 : n ≤ 32) : ∃ (Z E : Int) (t' : Nat), ZerosRes l t n.toNat Z E t' ∧
    ∀ (B g : Nat) (w : World), ReaderAt w B g l t → Calls Tryd.prog 94 #[.pointer (some ⟨B, 0, none⟩), .int .i64 n] w fun e w' => e = .returned (.tuple #[.int .i64 Z, .int .i64 E]) ∧ ReaderAt w' B g l t' ∧ Kept [B] w w' := by
  obtain ⟨m, hm⟩ : ∃ m : Int, m = min n (8 * (l.length : Int) - (t : Int)) := ⟨_, rfl⟩
  have m2 : t + m.toNat ≤ 8 * l.length := by omega
  by_cases hx : nextN l t m.toNat = 0
  · have hz := lead_none l t m.toNat m2 hx
    have hb : 0 = Lib.bitLen (nextN l t m.toNat) := by rw [hx]; rfl
    by_cases hmn : m < n
    · refine ⟨0, 13, t, .inr (.inr ⟨by omega, fun i hi => hz i (by omega), rfl, rfl, rfl⟩), fun B g w hw => ?_⟩
      exact (zeros_raw B g l t n m 0 w hw h0 h1 hm hb (by omega)).mono fun e w' h => h.2.1 rfl hmn
    · have hmn2 : m = n := by omega
      refine ⟨m, 0, t + m.toNat, .inr (.inl ⟨by omega, fun i hi => hz i (by omega), by omega, rfl, by omega⟩), fun B g w hw => ?_⟩
      exact (zeros_raw B g l t n m 0 w hw h0 h1 hm hb (by omega)).mono fun e w' h => h.2.2 rfl hmn2
  · obtain ⟨b1, b2, b3, b4⟩ := lead l t m.toNat (by omega) m2 hx
    generalize hbb : Lib.bitLen (nextN l t m.toNat) = b at *
    refine ⟨m - (b : Int), 0, t + (m.toNat - b) + 1, .inl ⟨m.toNat - b, by omega, by omega, b3, b4, by omega, rfl, rfl⟩, fun B g w hw => ?_⟩
    exact (zeros_raw B g l t n m b w hw h0 h1 hm hbb.symm (by omega)).mono fun e w' h => h.1 b2
end Go.Proofs.YtahoeodpjdbdkaaDoor

namespace Go.Proofs.YtahoeodpjdbdkaaDoor
open Go.RowKit

/-- How many bits the form of a number has. -/
def gw (v k wide : Nat) : Nat := if v / 2 ^ k < 24 then v / 2 ^ k + 1 + k else 24 + wide
/-- The form, as a number. -/
def gf (v k : Nat) : Nat := if v / 2 ^ k < 24 then 2 ^ k + v % 2 ^ k else v

theorem gf_lt (v k wide : Nat) (h : v < 2 ^ wide) : gf v k < 2 ^ gw v k wide := by
  unfold gf gw
  split
  · have h1 : v % 2 ^ k < 2 ^ k := Nat.mod_lt _ (Nat.two_pow_pos _)
    have h2 : 2 ^ (1 + k) ≤ 2 ^ (v / 2 ^ k + 1 + k) := Nat.pow_le_pow_right (by decide) (by rw [Nat.add_assoc]; exact Nat.le_add_left _ _)
    have h3 : 2 ^ (1 + k) = 2 * 2 ^ k := by rw [Nat.pow_add, Nat.pow_one]
    omega
  · have h2 : 2 ^ wide ≤ 2 ^ (24 + wide) := Nat.pow_le_pow_right (by decide) (by omega)
    omega

theorem gw_le (v k wide : Nat) (hk : k ≤ 15) (hw : wide ≤ 16) : 1 ≤ gw v k wide ∧ gw v k wide ≤ 40 := by
  unfold gw
  generalize v / 2 ^ k = u
  split <;> omega

/-- J of the chapter. -/
def jt : List Nat := [0, 0, 0, 0, 1, 1, 1, 1, 2, 2, 2, 3, 3, 4, 4, 5, 6, 7, 8, 9, 10, 11, 12]
def J (r : Nat) : Nat := jt.getD r 0

theorem J_le (r : Nat) : J r ≤ 12 := by
  by_cases h : r < 23
  · exact (show ∀ x : Fin 23, J x.1 ≤ 12 by decide) ⟨r, h⟩
  · unfold J
    rw [List.getD_eq_getElem?_getD, List.getElem?_eq_none (by simp [jt]; omega)]
    simp

/-- The samples of the first i stretches. -/
def S (r : Nat) : Nat → Nat
  | 0 => 0
  | i + 1 => S r i + 2 ^ J (min (r + i) 22)

theorem S_ge (r i : Nat) : i ≤ S r i := by
  induction i with
  | zero => simp [S]
  | succ i ih => have := Nat.two_pow_pos (J (min (r + i) 22)); simp only [S]; omega

theorem S_mono (r i j : Nat) (h : i ≤ j) : S r i ≤ S r j := by
  induction j with
  | zero => have : i = 0 := by omega
            subst this; exact Nat.le_refl _
  | succ j ih =>
    by_cases e : i = j + 1
    · subst e; exact Nat.le_refl _
    · have := ih (by omega)
      have h2 := Nat.zero_le (2 ^ J (min (r + j) 22))
      simp only [S]
      generalize 2 ^ J (min (r + j) 22) = q at *
      omega

def cntUp (r n : Nat) : Nat → Nat
  | 0 => 0
  | f + 1 => if S r (cntUp r n f + 1) ≤ n then cntUp r n f + 1 else cntUp r n f
/-- How many stretches a run has. -/
def cnt (r n : Nat) : Nat := cntUp r n (n + 1)

theorem cntUp_is (r n f : Nat) : S r (cntUp r n f) ≤ n ∧ (cntUp r n f = f ∨ n < S r (cntUp r n f + 1)) := by
  induction f with
  | zero => exact ⟨by simp [cntUp, S], .inl rfl⟩
  | succ f ih =>
    unfold cntUp
    split
    · refine ⟨by assumption, ?_⟩
      rcases ih.2 with h | h
      · left; rw [h]
      · omega
    · exact ⟨ih.1, .inr (by omega)⟩

theorem cnt_lo (r n : Nat) : S r (cnt r n) ≤ n := (cntUp_is r n (n + 1)).1
theorem cnt_hi (r n : Nat) : n < S r (cnt r n + 1) := by
  rcases (cntUp_is r n (n + 1)).2 with h | h
  · have h1 := cnt_lo r n
    have h2 := S_ge r (cnt r n)
    unfold cnt at h1 h2
    omega
  · exact h

theorem cnt_eq (r n m : Nat) (h1 : S r m ≤ n) (h2 : n < S r (m + 1)) : cnt r n = m := by
  have a := cnt_lo r n
  have b := cnt_hi r n
  rcases Nat.lt_trichotomy (cnt r n) m with h | h | h
  · have := S_mono r (cnt r n + 1) m (by omega); omega
  · exact h
  · have := S_mono r (m + 1) (cnt r n) (by omega); omega

theorem cnt_le (r n : Nat) : cnt r n ≤ n := Nat.le_trans (S_ge r _) (cnt_lo r n)

/-- The rate behind the stretches. -/
def rm (r n : Nat) : Nat := min (r + cnt r n) 22
/-- How many bits a run has; the bits as a number; the rate behind it. -/
def rw_ (r n room : Nat) : Nat := if n < room then cnt r n + 1 + J (rm r n) else if S r (cnt r n) < n then cnt r n + 1 else cnt r n
def rf (r n room : Nat) : Nat := if n < room then (2 ^ cnt r n - 1) * 2 ^ (1 + J (rm r n)) + (n - S r (cnt r n)) else 2 ^ rw_ r n room - 1
def rr (r n room : Nat) : Nat := if n < room then rm r n - 1 else rm r n

theorem rm_le (r n : Nat) : rm r n ≤ 22 := by unfold rm; omega
theorem rr_le (r n room : Nat) : rr r n room ≤ 22 := by have := rm_le r n; unfold rr; split <;> omega
theorem left_lt (r n : Nat) : n - S r (cnt r n) < 2 ^ J (rm r n) := by
  have h := cnt_hi r n
  have h2 := cnt_lo r n
  simp only [S] at h
  unfold rm
  omega

theorem rf_lt (r n room : Nat) : rf r n room < 2 ^ rw_ r n room := by
  unfold rf
  split
  · rename_i h
    have h1 := left_lt r n
    have h2 := Nat.two_pow_pos (cnt r n)
    have h3 : rw_ r n room = cnt r n + (1 + J (rm r n)) := by unfold rw_; rw [if_pos h]; omega
    have h4 : 2 ^ (1 + J (rm r n)) = 2 * 2 ^ J (rm r n) := by rw [Nat.pow_add, Nat.pow_one]
    have h6 : 2 ^ (cnt r n + (1 + J (rm r n))) = 2 ^ cnt r n * 2 ^ (1 + J (rm r n)) := Nat.pow_add _ _ _
    have h5 : 2 ^ (1 + J (rm r n)) ≤ 2 ^ cnt r n * 2 ^ (1 + J (rm r n)) := Nat.le_mul_of_pos_left _ h2
    rw [h3, h6, Nat.sub_mul, Nat.one_mul]
    generalize 2 ^ cnt r n * 2 ^ (1 + J (rm r n)) = A at *
    generalize 2 ^ (1 + J (rm r n)) = B at *
    generalize 2 ^ J (rm r n) = C at *
    omega
  · have := Nat.two_pow_pos (rw_ r n room); omega

theorem rw_le (r n room : Nat) (h : n ≤ room) (hr : room ≤ 4096) : rw_ r n room ≤ 4109 := by
  have h1 := cnt_le r n
  have h2 := J_le (rm r n)
  unfold rw_
  split
  · omega
  · split <;> omega
end Go.Proofs.YtahoeodpjdbdkaaDoor

namespace Go.Proofs.YtahoeodpjdbdkaaDoor
open Go.RowKit

theorem bit_lt (l : List Nat) (t : Nat) : nextN l t 1 < 2 := nextN_lt l t 1

/-- Noughts alone are nought. -/
theorem zeros_next (l : List Nat) (t u : Nat) (h : t + u ≤ 8 * l.length) (hz : ∀ i, i < u → nextN l (t + i) 1 = 0) : nextN l t u = 0 := by
  induction u with
  | zero => unfold nextN; rw [Nat.pow_zero, Nat.mod_one]
  | succ u ih =>
    rw [nextN_join l t u 1 (by omega), ih (by omega) (fun i hi => hz i (by omega)), hz u (by omega)]

/-- Ones alone. -/
theorem ones_next (l : List Nat) (t u : Nat) (h : t + u ≤ 8 * l.length) (hz : ∀ i, i < u → nextN l (t + i) 1 = 1) : nextN l t u = 2 ^ u - 1 := by
  induction u with
  | zero => unfold nextN; rw [Nat.pow_zero, Nat.mod_one]
  | succ u ih =>
    rw [nextN_join l t u 1 (by omega), ih (by omega) (fun i hi => hz i (by omega)), hz u (by omega)]
    have := Nat.two_pow_pos u
    rw [Nat.pow_succ]
    omega

theorem next_zeros (l : List Nat) (t u : Nat) (h : t + u ≤ 8 * l.length) (hz : nextN l t u = 0) : ∀ i, i < u → nextN l (t + i) 1 = 0 := lead_none l t u h hz

theorem next_ones (l : List Nat) (t u : Nat) (h : t + u ≤ 8 * l.length) (hz : nextN l t u = 2 ^ u - 1) : ∀ i, i < u → nextN l (t + i) 1 = 1 := by
  induction u with
  | zero => intro i hi; omega
  | succ u ih =>
    have hj := nextN_join l t u 1 (by omega)
    have b := bit_lt l (t + u)
    have hp := Nat.two_pow_pos u
    rw [hz, Nat.pow_succ] at hj
    have h1 : nextN l (t + u) 1 = 1 := by omega
    have h2 : nextN l t u = 2 ^ u - 1 := by omega
    intro i hi
    by_cases e : i = u
    · subst e; exact h1
    · exact ih (by omega) h2 i (by omega)

/-- A short form's bits. -/
theorem next_short (l : List Nat) (t u k : Nat) (h : t + u + 1 + k ≤ 8 * l.length) (hz : ∀ i, i < u → nextN l (t + i) 1 = 0) (h1 : nextN l (t + u) 1 = 1) :
    nextN l t (u + 1 + k) = 2 ^ k + nextN l (t + u + 1) k := by
  have e1 := nextN_join l t (u + 1) k (by omega)
  have e2 := nextN_join l t u 1 (by omega)
  rw [zeros_next l t u (by omega) hz, h1] at e2
  rw [e1, e2, show t + (u + 1) = t + u + 1 by omega]
  simp

theorem short_next (l : List Nat) (t u k low : Nat) (h : t + u + 1 + k ≤ 8 * l.length) (hl : low < 2 ^ k) (hn : nextN l t (u + 1 + k) = 2 ^ k + low) :
    (∀ i, i < u → nextN l (t + i) 1 = 0) ∧ nextN l (t + u) 1 = 1 ∧ nextN l (t + u + 1) k = low := by
  have e1 := nextN_join l t (u + 1) k (by omega)
  have e2 := nextN_join l t u 1 (by omega)
  rw [show t + (u + 1) = t + u + 1 by omega] at e1
  have b1 := nextN_lt l (t + u + 1) k
  have b2 := bit_lt l (t + u)
  rw [hn] at e1
  have h3 : nextN l t (u + 1) = 1 := by
    have d1 : (2 ^ k + low) / 2 ^ k = 1 := by
      rw [Nat.add_comm, Nat.add_div_right _ (Nat.two_pow_pos _), Nat.div_eq_of_lt hl]
    have d2 : (nextN l t (u + 1) * 2 ^ k + nextN l (t + u + 1) k) / 2 ^ k = nextN l t (u + 1) := by
      rw [Nat.add_comm, Nat.add_mul_div_right _ _ (Nat.two_pow_pos _), Nat.div_eq_of_lt b1, Nat.zero_add]
    rw [← d2, ← e1, d1]
  rw [h3] at e1 e2
  have h4 : nextN l t u = 0 := by omega
  exact ⟨next_zeros l t u (by omega) h4, by omega, by omega⟩

/-- A long form's bits. -/
theorem next_long (l : List Nat) (t wide : Nat) (h : t + 24 + wide ≤ 8 * l.length) (hz : ∀ i, i < 24 → nextN l (t + i) 1 = 0) : nextN l t (24 + wide) = nextN l (t + 24) wide := by
  rw [nextN_join l t 24 wide (by omega), zeros_next l t 24 (by omega) hz]
  simp

theorem long_next (l : List Nat) (t wide v : Nat) (h : t + 24 + wide ≤ 8 * l.length) (hv : v < 2 ^ wide) (hn : nextN l t (24 + wide) = v) :
    (∀ i, i < 24 → nextN l (t + i) 1 = 0) ∧ nextN l (t + 24) wide = v := by
  have e1 := nextN_join l t 24 wide (by omega)
  have b1 := nextN_lt l (t + 24) wide
  rw [hn] at e1
  have h3 : nextN l t 24 = 0 := by
    have d2 : (nextN l t 24 * 2 ^ wide + nextN l (t + 24) wide) / 2 ^ wide = nextN l t 24 := by
      rw [Nat.add_comm, Nat.add_mul_div_right _ _ (Nat.two_pow_pos _), Nat.div_eq_of_lt b1, Nat.zero_add]
    rw [← d2, ← e1, Nat.div_eq_of_lt hv]
  rw [h3] at e1
  exact ⟨next_zeros l t 24 (by omega) h3, by omega⟩

/-- What Get of a number comes to. -/
def NumRes (l : List Nat) (t k wide : Nat) (X E : Int) (t' : Nat) : Prop :=
  (∃ u, u < 24 ∧ (∀ i, i < u → nextN l (t + i) 1 = 0) ∧ nextN l (t + u) 1 = 1 ∧ t + u + 1 + k ≤ 8 * l.length ∧ u * 2 ^ k + nextN l (t + u + 1) k < 2 ^ wide ∧
    X = ((u * 2 ^ k + nextN l (t + u + 1) k : Nat) : Int) ∧ E = 0 ∧ t' = t + u + 1 + k) ∨
  ((∀ i, i < 24 → nextN l (t + i) 1 = 0) ∧ t + 24 + wide ≤ 8 * l.length ∧ 24 ≤ nextN l (t + 24) wide / 2 ^ k ∧ X = (nextN l (t + 24) wide : Int) ∧ E = 0 ∧ t' = t + 24 + wide) ∨
  (X = 0 ∧ t' = t ∧ E = 23 ∧ ((∃ u, u < 24 ∧ (∀ i, i < u → nextN l (t + i) 1 = 0) ∧ nextN l (t + u) 1 = 1 ∧ t + u < 8 * l.length ∧ 8 * l.length < t + u + 1 + k) ∨
    ((∀ i, i < 24 → nextN l (t + i) 1 = 0) ∧ t + 24 ≤ 8 * l.length ∧ 8 * l.length < t + 24 + wide) ∨ (8 * l.length < t + 24 ∧ ∀ i, t + i < 8 * l.length → nextN l (t + i) 1 = 0))) ∨
  (X = 0 ∧ t' = t ∧ E = 24 ∧ ((∃ u, u < 24 ∧ (∀ i, i < u → nextN l (t + i) 1 = 0) ∧ nextN l (t + u) 1 = 1 ∧ t + u + 1 + k ≤ 8 * l.length ∧ 2 ^ wide ≤ u * 2 ^ k + nextN l (t + u + 1) k) ∨
    ((∀ i, i < 24 → nextN l (t + i) 1 = 0) ∧ t + 24 + wide ≤ 8 * l.length ∧ nextN l (t + 24) wide / 2 ^ k < 24)))

theorem first_one {l : List Nat} {t u v : Nat} (hu : ∀ i, i < u → nextN l (t + i) 1 = 0) (h1 : nextN l (t + u) 1 = 1) (hv : ∀ i, i < v → nextN l (t + i) 1 = 0) (h2 : nextN l (t + v) 1 = 1) : u = v := by
  rcases Nat.lt_trichotomy u v with h | h | h
  · have := hv u h; omega
  · exact h
  · have := hu v h; omega

theorem gf_short {v k wide : Nat} (h : v / 2 ^ k < 24) : gw v k wide = v / 2 ^ k + 1 + k ∧ gf v k = 2 ^ k + v % 2 ^ k := by unfold gw gf; rw [if_pos h, if_pos h]; exact ⟨rfl, rfl⟩
theorem gf_long {v k wide : Nat} (h : ¬ v / 2 ^ k < 24) : gw v k wide = 24 + wide ∧ gf v k = v := by unfold gw gf; rw [if_neg h, if_neg h]; exact ⟨rfl, rfl⟩

theorem two_parts (u k low : Nat) (h : low < 2 ^ k) : (u * 2 ^ k + low) / 2 ^ k = u ∧ (u * 2 ^ k + low) % 2 ^ k = low := by
  refine ⟨?_, ?_⟩
  · rw [Nat.add_comm, Nat.add_mul_div_right _ _ (Nat.two_pow_pos _), Nat.div_eq_of_lt h, Nat.zero_add]
  · rw [Nat.mul_add_mod_self_right, Nat.mod_eq_of_lt h]

/-- Where the next bits are a number's form, that number is read. -/
theorem numRes_form {l : List Nat} {t k wide v : Nat} {X E : Int} {t' : Nat} (h : NumRes l t k wide X E t') (hv : v < 2 ^ wide) (hl : t + gw v k wide ≤ 8 * l.length) (hn : nextN l t (gw v k wide) = gf v k) :
    X = (v : Int) ∧ E = 0 ∧ t' = t + gw v k wide := by
  by_cases hs : v / 2 ^ k < 24
  · obtain ⟨e1, e2⟩ := gf_short (wide := wide) hs
    rw [e1, e2] at hn
    rw [e1] at hl ⊢
    obtain ⟨z, o, n⟩ := short_next l t (v / 2 ^ k) k (v % 2 ^ k) (by omega) (Nat.mod_lt _ (Nat.two_pow_pos _)) hn
    have hvv : v / 2 ^ k * 2 ^ k + v % 2 ^ k = v := by rw [Nat.mul_comm]; exact Nat.div_add_mod v (2 ^ k)
    generalize v / 2 ^ k = u at *
    generalize v % 2 ^ k = low at *
    rcases h with ⟨u', hu, z', o', hh, hb, rfl, rfl, rfl⟩ | ⟨z', _⟩ | ⟨_, _, _, ⟨u', hu, z', o', _, hh⟩ | ⟨z', _⟩ | ⟨_, z'⟩⟩ | ⟨_, _, _, ⟨u', hu, z', o', _, hh⟩ | ⟨z', _⟩⟩
    · obtain rfl := first_one z o z' o'
      rw [n, hvv]; exact ⟨rfl, rfl, by omega⟩
    · have := z' u hs; omega
    · obtain rfl := first_one z o z' o'; omega
    · have := z' u hs; omega
    · have := z' u (by omega); omega
    · obtain rfl := first_one z o z' o'; rw [n, hvv] at hh; omega
    · have := z' u hs; omega
  · obtain ⟨e1, e2⟩ := gf_long (wide := wide) hs
    rw [e1, e2] at hn
    rw [e1] at hl ⊢
    obtain ⟨z, n⟩ := long_next l t wide v (by omega) hv hn
    rcases h with ⟨u', hu, z', o', hh, hb, rfl, rfl, rfl⟩ | ⟨z', h1, h2, rfl, rfl, rfl⟩ | ⟨_, _, _, ⟨u', hu, z', o', _, hh⟩ | ⟨z', _, hh⟩ | ⟨hh, z'⟩⟩ | ⟨_, _, _, ⟨u', hu, z', o', _, hh⟩ | ⟨z', _, hh⟩⟩
    · have := z u' hu; omega
    · rw [n]; exact ⟨rfl, rfl, by omega⟩
    · have := z u' hu; omega
    · omega
    · omega
    · have := z u' hu; omega
    · rw [n] at hh; omega

/-- What is read has just the form that is taken. -/
theorem numRes_ok {l : List Nat} {t k wide : Nat} {X E : Int} {t' : Nat} (h : NumRes l t k wide X E t') :
    (E = 0 ∧ ∃ v : Nat, X = (v : Int) ∧ v < 2 ^ wide ∧ t' = t + gw v k wide ∧ t' ≤ 8 * l.length ∧ nextN l t (gw v k wide) = gf v k) ∨ ((E = 23 ∨ E = 24) ∧ t' = t) := by
  rcases h with ⟨u, hu, z, o, hh, hb, rfl, rfl, rfl⟩ | ⟨z, h1, h2, rfl, rfl, rfl⟩ | ⟨_, h, h2, _⟩ | ⟨_, h, h2, _⟩
  · have hp := two_parts u k (nextN l (t + u + 1) k) (nextN_lt _ _ _)
    have hs : (u * 2 ^ k + nextN l (t + u + 1) k) / 2 ^ k < 24 := by rw [hp.1]; exact hu
    obtain ⟨e1, e2⟩ := gf_short (wide := wide) hs
    rw [hp.1] at e1
    rw [hp.2] at e2
    refine .inl ⟨rfl, _, rfl, hb, by rw [e1]; omega, by omega, ?_⟩
    rw [e1, e2, next_short l t u k (by omega) z o]
  · obtain ⟨e1, e2⟩ := gf_long (wide := wide) (show ¬ nextN l (t + 24) wide / 2 ^ k < 24 by omega)
    refine .inl ⟨rfl, _, rfl, nextN_lt _ _ _, by rw [e1]; omega, by omega, ?_⟩
    rw [e1, e2, next_long l t wide (by omega) z]
  · exact .inr ⟨.inl h2, h⟩
  · exact .inr ⟨.inr h2, h⟩
end Go.Proofs.YtahoeodpjdbdkaaDoor
