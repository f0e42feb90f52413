import Derived.Test.YtiojcfffhcipnaaMi
import Derived.Laws.StructEq
import Derived.BigQuiet
import Derived.Lib.SlBytesConst
namespace Go.Proofs.Ytiojcfffhcipnaa
open Go.RowKit
open Go.MuLone

set_option maxHeartbeats 4000000 in
theorem place_any (c n : Int) (w : World) (c0 : -9223372036854775808 ≤ c) (c1 : c ≤ 9223372036854775807) (h : 0 < n) :
    Calls Try.prog 19 #[.int .i64 c, .int .i64 n] w fun e w' => e = .returned (.int .i64 (pick c n)) ∧ w' = w := by
  by_cases hc : c < 0
  · go_enter Try.func19, Try.ntmps19
    go_wp2
    go_ret
    exact ⟨ret_int (by unfold pick; rw [if_pos hc, ← Int.neg_tmod, Int.tmod_eq_emod_of_nonneg (by omega)]), rfl⟩
  · go_enter Try.func19, Try.ntmps19
    go_wp2
    go_ret
    exact ⟨ret_int (by unfold pick; rw [if_neg (by omega)]), rfl⟩

theorem own_cells2 {w : World} {base n c : Nat} {ao : Option Addr} {xs : List Value} (h : w.ownsRow base 63 2 (.slice ao n c) n xs) (hn : 0 < n) : ∃ g, ao = some ⟨g, 0, none⟩ ∧ ∀ i x, xs[i]? = some x → w.cell? ⟨g, i, none⟩ = some x := by
  rcases h.2 with ⟨_, h1⟩ | ⟨g, cap, cur, h1, _⟩
  · omega
  · have h1' := h1
    simp only [Value.slice.injEq] at h1
    obtain ⟨rfl, -, rfl⟩ := h1
    refine ⟨g, rfl, fun i x hx => ?_⟩
    have := h.cells (g := g) rfl i x hx
    rw [addN, Nat.zero_add] at this
    exact this

set_option maxHeartbeats 8000000 in
set_option maxRecDepth 1000000 in
theorem sameSpans_any (ao ao' : Option Addr) (n c c' B B' : Nat) (l : List (Int × Int)) (w : World) (hO : w.ownsRow B 63 2 (.slice ao n c) n (spc l)) (hO' : w.ownsRow B' 63 2 (.slice ao' n c') n (spc l)) (hl : l.length = n) (hn : n ≤ 9000000000000) :
    Calls Try.prog 24 #[.slice ao n c, .slice ao' n c'] w fun e w' => e = .returned (.bool true) ∧ Kept [] w w' := by
  have HO := Hid.mk hO
  have HO' := Hid.mk hO'
  have HL := Hid.mk hl
  clear hO hO' hl
  go_enter Try.func24, Try.ntmps24
  go_wp2
  go_loopw [5] (fun i wr => ∃ k : Nat, k ≤ n ∧ i = .int .i64 (k : Int) ∧ Hid (Kept [] w wr)) (fun i _ => n - (intOf i).toNat)
  case atStart => exact ⟨0, Nat.zero_le _, rfl, Hid.mk (Kept.refl _ _)⟩
  case round =>
    obtain ⟨k, hk, rfl, HI⟩ := hrel
    by_cases hlt : k < n
    · have ik : (k : Int) < (n : Int) := by omega
      obtain ⟨g, rfl, hc⟩ := own_cells2 (HI.out.row HO.out (by simp)) (by omega)
      obtain ⟨g', rfl, hc'⟩ := own_cells2 (HI.out.row HO'.out (by simp)) (by omega)
      obtain ⟨f1, f2⟩ := spc_cell l k (by have := HL.out; omega)
      rw [Nat.mul_comm] at f1 f2
      obtain ⟨x, ex⟩ : ∃ x, (l.getD k (0, 0)).1 = x := ⟨_, rfl⟩
      obtain ⟨y, ey⟩ : ∃ y, (l.getD k (0, 0)).2 = y := ⟨_, rfl⟩
      rw [ex] at f1
      rw [ey] at f2
      have l0 := hc _ _ f1
      have l1 := hc _ _ f2
      have m0 := hc' _ _ f1
      have m1 := hc' _ _ f2
      have HKI := Hid.mk HI.out
      clear HI HO HO' hc hc' f1 f2 ex ey
      go_wp2_with (fail)
      go_quiet (fail)
      clear l0 l1 m0 m1
      go_wp2
      go_roundw
      case rel => exact ⟨k + 1, by omega, by go_num, Hid.mk (HKI.out.drewN _)⟩
      case measure => simp [intOf]; omega
    · obtain rfl : n = k := by omega
      clear hlt hk
      go_wp2
      go_ret
      exact ⟨rfl, HI.out⟩

theorem lit_reads {w : World} {T : Nat} {l : List Nat} {f : Nat × Nat} (h : w.heap[T]? = some (.cells (l.map byt).toArray 5 f)) : Reads w (some ⟨T, 0, none⟩) l := by
  refine .inr ⟨T, 0, rfl, fun i hi => ?_⟩
  simp [World.cell?, h, hi]

/-- All that a medium lies in is new. -/
def Fr (W P : Nat) (V L : Value) : Prop := ∀ x ∈ foot P V L, W ≤ x
theorem Fr.v {W P : Nat} {V V' L : Value} {w : World} (h : Fr W P V L) (hl : Lies w V V') (hw : W ≤ w.heap.size) : Fr W P V' L := by
  intro x hx
  simp only [foot, List.mem_cons, List.mem_append] at hx
  rcases hx with rfl | hx | hx
  · exact h _ (by simp [foot])
  · rcases hl.mem x hx with h1 | h1
    · exact h x (by simp only [foot, List.mem_cons, List.mem_append]; exact .inr (.inl h1))
    · omega
  · exact h x (by simp only [foot, List.mem_cons, List.mem_append]; exact .inr (.inr hx))
theorem Fr.l {W P : Nat} {V L L' : Value} {w : World} (h : Fr W P V L) (hl : Lies w L L') (hw : W ≤ w.heap.size) : Fr W P V L' := by
  intro x hx
  simp only [foot, List.mem_cons, List.mem_append] at hx
  rcases hx with rfl | hx | hx
  · exact h _ (by simp [foot])
  · exact h x (by simp only [foot, List.mem_cons, List.mem_append]; exact .inr (.inl hx))
  · rcases hl.mem x hx with h1 | h1
    · exact h x (by simp only [foot, List.mem_cons, List.mem_append]; exact .inr (.inr h1))
    · omega
theorem Fr.step {w0 w w' : World} {P : Nat} {V L : Value} {ks : List Nat} (h : Fr w0.heap.size P V L) (k0 : Kept [] w0 w) (hk : Kept ks w w') (hs : ∀ x ∈ ks, x ∈ foot P V L) : Kept [] w0 w' := k0.step hk (fun x hx => .inr (h x (hs x hx)))
theorem inP (P : Nat) (V L : Value) : ∀ x ∈ [P], x ∈ foot P V L := fun x hx => by simp at hx; subst hx; simp [foot]
theorem inV (P : Nat) (V L : Value) : ∀ x ∈ P :: V.ownBlock.toList, x ∈ foot P V L := fun x hx => by simp only [foot, List.mem_cons, List.mem_append] at hx ⊢; rcases hx with h | h; exact .inl h; exact .inr (.inl h)
theorem inL (P : Nat) (V L : Value) : ∀ x ∈ P :: L.ownBlock.toList, x ∈ foot P V L := fun x hx => by simp only [foot, List.mem_cons, List.mem_append] at hx ⊢; rcases hx with h | h; exact .inl h; exact .inr (.inr h)

theorem Mok.new : Mok ⟨[], [], false, 0, 0⟩ := ⟨by simp, by simp [Byts], by simp, by simp, by simp, by simp⟩

set_option maxHeartbeats 8000000 in
set_option maxRecDepth 1000000 in
theorem shown_any (w : World) : Calls Try.prog 7 #[] w fun e w' => e = .returned (.bool true) ∧ Kept [] w w' := by
  have kc := fun (w : World) (C : Array Value) (n c : Nat) => Lib.run_convert_bytes_const (P := Try.prog) w 29 5 C n c Try.underlying29 Try.underlying5
  go_enter Try.func7, Try.ntmps7
  go_wp2_with (fail)
  refine (new_any w).mono ?_
  rintro e w1 ⟨rfl, h1, k1⟩
  obtain ⟨P, eP⟩ : ∃ P, w.heap.size = P := ⟨_, rfl⟩
  rw [eP] at h1 ⊢
  have F1 : Hid (Fr w.heap.size P (.slice none 0 0) (.slice none 0 0)) := Hid.mk (fun x hx => by simp [foot, Value.ownBlock] at hx; omega)
  have H1 := Hid.mk h1
  have K1 := Hid.mk k1
  clear h1 k1 eP
  go_wp2_with (fail)
  obtain ⟨w2, ew2, k2, hb2⟩ := alloc_new w1 (.cells #[.int .u8 97, .int .u8 98, .int .u8 99] 5 (3, 4))
  rw [ew2]
  have h2 := H1.out.keep k2
  refine (append_any w2 P _ _ _ (some ⟨w1.heap.size, 0, none⟩) 3 3 [97, 98, 99] h2 Mok.new (lit_reads hb2) rfl (by decide) (by simp) (.inr fun g off e => by cases e; exact fun e => by subst e; have := h2.box; rw [hb2] at this; simp at this)).mono ?_
  rintro e w3 ⟨V3, rfl, h3, k3, l3⟩
  have a1 : apA ⟨[], [], false, 0, 0⟩ [97, 98, 99] = 0 := by simp [apA]
  have a2 : apE ⟨[], [], false, 0, 0⟩ [97, 98, 99] = 0 := by simp [apE]
  have a3 : apS ⟨[], [], false, 0, 0⟩ [97, 98, 99] = ⟨[97, 98, 99], [], false, 0, 0⟩ := by simp [apS]
  rw [a1, a2]
  rw [a3] at h3
  have H3 := Hid.mk h3
  have K3 := Hid.mk (F1.out.step (K1.out.trans k2) k3 (inV _ _ _))
  have F3 := Hid.mk (F1.out.v l3 (K1.out.trans k2).size)
  clear h3 k3 a1 a2 a3 ew2 k2 hb2 h2 l3
  go_wp2_with (fail)
  obtain ⟨w4, ew4, k4, hb4⟩ := alloc_new w3 (.cells #[.int .u8 100, .int .u8 101] 5 (2, 3))
  rw [ew4]
  have h4 := H3.out.keep k4
  refine (append_any w4 P _ _ _ (some ⟨w3.heap.size, 0, none⟩) 2 2 [100, 101] h4 ⟨by simp, by simp [Byts], by simp, by simp, by simp, by simp⟩ (lit_reads hb4) rfl (by decide) (by simp) (.inr fun g off e => by cases e; exact fun e => by subst e; have := h4.box; rw [hb4] at this; simp at this)).mono ?_
  rintro e w5 ⟨V5, rfl, h5, k5, l5⟩
  have a1 : apA ⟨[97, 98, 99], [], false, 0, 0⟩ [100, 101] = 3 := by simp [apA]
  have a2 : apE ⟨[97, 98, 99], [], false, 0, 0⟩ [100, 101] = 0 := by simp [apE]
  have a3 : apS ⟨[97, 98, 99], [], false, 0, 0⟩ [100, 101] = ⟨[97, 98, 99, 100, 101], [], false, 0, 0⟩ := by simp [apS]
  rw [a1, a2]
  rw [a3] at h5
  have H5 := Hid.mk h5
  have K5 := Hid.mk (F3.out.step (K3.out.trans k4) k5 (inV _ _ _))
  have F5 := Hid.mk (F3.out.v l5 (K3.out.trans k4).size)
  clear h5 k5 a1 a2 a3 ew4 k4 hb4 h4 l5
  go_wp2_with (fail)
  refine (read_any w5 P _ _ _ 2 2 H5.out (by simp) (by simp) (by omega)).mono ?_
  rintro e w6 ⟨bo, c, L6, rfl, o6, h6, k6, l6⟩
  have a1 : rdB ⟨[97, 98, 99, 100, 101], [], false, 0, 0⟩ 0 268435456 2 2 = [99, 100] := by simp [rdB, inB]
  have a2 : rdE ⟨[97, 98, 99, 100, 101], [], false, 0, 0⟩ 0 268435456 2 2 = 0 := by simp [rdE, inB]
  have a3 : rdS ⟨[97, 98, 99, 100, 101], [], false, 0, 0⟩ 0 268435456 2 2 = ⟨[97, 98, 99, 100, 101], [(2, 2)], false, 0, 0⟩ := by simp [rdS, inB]
  rw [a1, a2]
  rw [a1] at o6
  rw [a3] at h6
  simp only [List.length_cons, List.length_nil, Nat.zero_add, Nat.reduceAdd] at o6 ⊢
  have H6 := Hid.mk h6
  have O6 := Hid.mk o6
  have K6 := Hid.mk (F5.out.step K5.out k6 (inL _ _ _))
  have F6 := Hid.mk (F5.out.l l6 K5.out.size)
  clear h6 k6 a1 a2 a3 l6 o6
  go_wp2_with (fail)
  refine (log_any w6 P _ _ _ H6.out (by simp)).mono ?_
  rintro e w7 ⟨b7, c7, rfl, o7, h7, k7⟩
  have o6 := k7.row O6.out (fun g hg => by have := own_ty H6.out.box (by decide) (own_zero O6.out); simp [hg] at this ⊢; exact fun e => this e.symm)
  have K7 := Hid.mk (F6.out.step K6.out k7 (inP _ _ _))
  simp only [List.length_cons, List.length_nil, Nat.zero_add] at o7 ⊢
  obtain ⟨g7, rfl, hc7⟩ := own_cells2 o7 (by decide)
  have y0 := hc7 0 _ rfl
  have y1 := hc7 1 _ rfl
  have sc : Sem.run Try.prog (convert 29 9 (.slice bo 2 c)) w7 = .ok (.string (bstr [99, 100])) w7 := reads_str (reads_row (n := 2) (cap := c) o6) c
  have eb : bstr [99, 100] = { data := #[99, 100] } := by kernel_rfl
  rw [eb] at sc
  clear o7 h7 k7 o6 hc7 eb
  go_wp2
  go_ret
  exact ⟨rfl, K7.out⟩
end Go.Proofs.Ytiojcfffhcipnaa
