import Derived.Test.YtahoeodpjdbdkaaDoorEd
namespace Go.Proofs.YtahoeodpjdbdkaaDoor
open Go.RowKit

abbrev f512 : Nat → Int := fun _ => 512
theorem al_x : xw 1023 0 1 f512 1 = (3, 9) := by decide +kernel
theorem al_t : (sw 1023 0 1 f512 1).t = 1 := by decide +kernel
theorem al_b : (sw 1023 0 1 f512 1).b 0 = 512 := by decide +kernel
theorem al_enc : Enc 1023 0 1 1 f512 1 := by
  refine ⟨?_, al_t⟩
  intro i hi
  have e : i = 0 := by omega
  subst e
  exact Nat.zero_lt_one
theorem al_one (j : Nat) (h : Enc 1023 0 1 1 f512 j) : j = 1 := by
  rcases Nat.lt_trichotomy j 1 with h1 | h1 | h1
  · have e : j = 0 := by omega
    subst e
    have h2 := h.fin
    have e : (stp 1023 0 1 (cE 1023 0 1 f512) (wk0 1023 0) 0).t = 0 := rfl
    rw [e] at h2
    exact absurd h2 (by decide)
  · exact h1
  · have h2 := h.all 1 h1
    rw [al_t] at h2
    exact absurd h2 (by decide)
theorem al_by : byts (3, 9) = [1, 128] ∧ nby (3, 9) = 2 := by decide +kernel
theorem al_raw : (rsz ((1 : Nat) : Int) ((1 : Nat) : Int) 10).1 = 3 := by decide +kernel
theorem al_sz : szd ((1 : Nat) : Int) ((1 : Nat) : Int) = true := by decide +kernel
theorem al_hold : Holds [1, 128] (3, 9) ∧ 8 * [1, 128].length - (3, 9).2 < 8 ∧ nextN [1, 128] (3, 9).2 (8 * [1, 128].length - (3, 9).2) = 0 := by
  refine ⟨⟨by decide, by decide +kernel⟩, by decide, by decide +kernel⟩

set_option maxHeartbeats 2000000 in
theorem al_enc_call (sb : Nat) (w : World) (hs : w.heap[sb]? = some (.cells #[.int .u16 512] 41 (0, 0))) (hT : Tab w) :
    Calls Tryd.prog 11 #[.agg #[.int .i64 1, .int .i64 1, .slice (some ⟨sb, 0, none⟩) 1 1], .int .i64 10, .int .i64 0] w fun e w' => ∃ g, e = .returned (.tuple #[.slice (some ⟨g, 0, none⟩) 2 2, .int .i64 0]) ∧ w.heap.size ≤ g ∧ w'.heap[g]? = some (.cells ([1, 128].map byt).toArray 5 (0, 0)) ∧ Kept [] w w' := by
  have hsm : Smp w sb 0 1 f512 := fun i hi => by
    obtain rfl : i = 0 := by omega
    simp [World.cell?, hs]
  refine (Encode_coded 1 1 1 sb 0 1 10 1023 0 f512 w hsm hT al_sz rfl (.inl ⟨rfl, rfl⟩) (by omega) (by omega) (fun i => by show (0 : Int) ≤ 512 ∧ (512 : Int) ≤ 1023; omega) (fun j hj => by
    rw [al_one j hj, al_x, al_by.2, al_raw]; decide)).mono ?_
  rintro e w' ⟨j, g, hj, rfl, hg, hb, hk⟩
  rw [al_one j hj, al_x] at hb
  rw [al_by.1] at hb
  refine ⟨g, ?_, hg, hb, hk⟩
  rw [al_one j hj, al_x, al_by.2]

set_option maxHeartbeats 2000000 in
theorem al_dec_call (g : Nat) (w : World) (hs : w.heap[g]? = some (.cells #[.int .u8 1, .int .u8 128] 5 (0, 0))) (hT : Tab w) :
    Calls Tryd.prog 12 #[.slice (some ⟨g, 0, none⟩) 2 2, .int .i64 1, .int .i64 1, .int .i64 10, .int .i64 0] w fun e w' => ∃ G, e = .returned (.tuple #[.agg #[.int .i64 1, .int .i64 1, .slice (some ⟨G, 0, none⟩) 1 1], .int .i64 0]) ∧ w.heap.size ≤ G ∧ w'.cell? ⟨G, 0, none⟩ = some (.int .u16 512) ∧ Kept [] w w' := by
  have hr : Reads w (some ⟨g, 0, none⟩) [1, 128] := .inr ⟨g, 0, rfl, fun i hi => by
    have : i = 0 ∨ i = 1 := by simp at hi; omega
    rcases this with rfl | rfl <;> simp [World.cell?, hs, byt]⟩
  have hh := al_hold
  rw [← al_x] at hh
  refine (Decode_coded 1 1 1 (some ⟨g, 0, none⟩) 2 2 [1, 128] 10 1023 0 f512 w hr (fun b hb => by simp at hb; omega) rfl (by omega) hT al_sz rfl (.inl ⟨rfl, rfl⟩) (by omega) (by omega) (fun i => by show (0 : Int) ≤ 512 ∧ (512 : Int) ≤ 1023; omega) 1 al_enc hh.1 hh.2.1 hh.2.2).mono ?_
  rintro e w' ⟨G, rfl, hG, hS, hk⟩
  have := hS 0 (by omega)
  rw [al_b] at this
  exact ⟨G, rfl, hG, this, hk⟩

set_option maxHeartbeats 4000000 in
set_option maxRecDepth 100000 in
theorem alive_any (w : World) (hT : Tab w) : Calls Tryd.prog 7 #[] w fun e w' => e = .returned (.bool true) ∧ Kept [] w w' := by
  have HT := Hid.mk hT
  clear hT
  go_enter Tryd.func7, Tryd.ntmps7
  go_wp2_with (fail)
  obtain ⟨w1, hw1, k1⟩ : ∃ w1, w.alloc (.cells #[.int .u16 512] 41 (0, 0)) = w1 ∧ Kept [] w w1 := ⟨_, rfl, alloc_kept _ _⟩
  have b1 : w1.heap[w.heap.size]? = some (.cells #[.int .u16 512] 41 (0, 0)) := by rw [← hw1]; exact heap_alloc_new _ _
  rw [hw1]
  refine (al_enc_call w.heap.size w1 b1 (HT.out.kept k1 (by simp))).mono ?_
  rintro e w2 ⟨g, rfl, hg, hb, k2⟩
  have K2 := Hid.mk (k1.trans k2)
  have HB := Hid.mk hb
  have Hg := Hid.mk hg
  clear hw1 k1 b1 k2 hb hg
  go_wp2_with (fail)
  obtain ⟨w3, hw3, k3⟩ : ∃ w3, w2.alloc (.cells #[.int .u8 1, .int .u8 128] 5 (0, 0)) = w3 ∧ Kept [] w2 w3 := ⟨_, rfl, alloc_kept _ _⟩
  have b3 : w3.heap[w2.heap.size]? = some (.cells #[.int .u8 1, .int .u8 128] 5 (0, 0)) := by rw [← hw3]; exact heap_alloc_new _ _
  rw [hw3]
  refine (al_dec_call w2.heap.size w3 b3 (HT.out.kept (K2.out.trans k3) (by simp))).mono ?_
  rintro e w4 ⟨G, rfl, hG, hc, k4⟩
  have K4 := Hid.mk (K2.out.trans (k3.trans k4))
  have b4 := (k3.trans k4).heap HB.out (by simp)
  obtain ⟨w5, hw5, k5, b5⟩ := three_new w4 (.int .i64 1) (.int .i64 1) (.slice (some ⟨G, 0, none⟩) 1 1) 29
  have es : bstr [1, 128] = ⟨#[1, 128]⟩ := by decide +kernel
  have hst : Sem.run Tryd.prog (convert 32 9 (.slice (some ⟨g, 0, none⟩) 2 2)) w5 = .ok (.string ⟨#[1, 128]⟩) w5 := by
    have := str_run (w := w5) (cap := 2) (l := [1, 128]) (rest := []) (by simpa using k5.heap b4 (by simp))
    rw [es] at this
    exact this
  have hc5 : w5.cell? ⟨G, 0, none⟩ = some (.int .u16 512) := by
    rw [← hc]; exact World.cell?_of_block (a := ⟨G, 0, none⟩) (k5.block G (World.block_lt_of_cell? w4 _ hc) (by simp))
  obtain ⟨z0, z1, z2⟩ := agg3' b5
  have K5 := Hid.mk (K4.out.trans k5)
  clear hw3 k3 b3 k4 hG HB K2 b4 k5 b5 es hc K4
  go_wp2
  go_ret
  exact ⟨rfl, K5.out⟩
end Go.Proofs.YtahoeodpjdbdkaaDoor
