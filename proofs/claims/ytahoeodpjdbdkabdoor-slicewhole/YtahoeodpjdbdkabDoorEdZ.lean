import Derived.Test.YtahoeodpjdbdkabDoorEaZ
import Derived.Test.YtahoeodpjdbdkabDoorDd
namespace Go.Proofs.YtahoeodpjdbdkabDoor
open Go.RowKit

set_option maxHeartbeats 2000000 in
set_option maxRecDepth 100000 in
theorem Encode_coded (W H n sb so sc : Nat) (D T d : Int) (f : Nat → Int) (w : World) (hs : Smp w sb so n f) (hT : Tab w) (hz : szd (W : Int) (H : Int) = true) (hn : n = W * H) (hD : Dp D T) (d0 : 0 ≤ d) (d1 : d ≤ 63) (hf : ∀ i, 0 ≤ f i ∧ f i ≤ T)
    (hc : ∀ j, Enc T d W n f j → (nby (xw T d W f j) : Int) < (rsz W H D).1) :
    Calls Tryd.prog 8 #[.agg #[.int .i64 (W : Int), .int .i64 (H : Int), .slice (some ⟨sb, so, none⟩) n sc], .int .i64 D, .int .i64 d] w fun e w' => ∃ j g, Enc T d W n f j ∧ e = .returned (.tuple #[.slice (some ⟨g, 0, none⟩) (nby (xw T d W f j)) (nby (xw T d W f j)), .int .i64 0]) ∧ w.heap.size ≤ g ∧ w'.heap[g]? = some (.cells ((byts (xw T d W f j)).map byt).toArray 5 (0, 0)) ∧ Kept [] w w' := by
  obtain ⟨w1, hw1, k1, b1⟩ := three_new w (.int .i64 (W : Int)) (.int .i64 (H : Int)) (.slice (some ⟨sb, so, none⟩) n sc) 24
  obtain ⟨Q, hQ⟩ : ∃ Q, w.heap.size = Q := ⟨_, rfl⟩
  have hsz := k1.size
  rw [hQ] at b1
  obtain ⟨z0, z1, z2⟩ := agg3' b1
  have C := Hid.mk (encode_mid W H n sb so sc D T d f w1 (hs.keep k1 (by simp)) (hT.kept k1 (by simp)) hz hn hD d0 d1 hf hc)
  have K1 := Hid.mk k1
  have HQ := Hid.mk hQ
  clear hs hT hz hn hD hf hc b1 k1
  go_enter Tryd.func8, Tryd.ntmps8
  go_wp2_with (fail)
  refine C.out.mono ?_
  rintro e w2 ⟨j, g, G, hE, rfl, hg, -, hb, -, k2⟩
  have HE := Hid.mk hE
  have HB := Hid.mk hb
  have K2 := Hid.mk k2
  have Hg := Hid.mk hg
  clear hE hb k2 C hg
  obtain ⟨L, hL⟩ : ∃ L, nby (xw T d W f j) = L := ⟨_, rfl⟩
  have HL := Hid.mk hL
  rw [hL]
  clear hL
  go_wp2
  go_ret2
  exact ⟨j, g, HE.out, by rw [HL.out]; rfl, by have := Hg.out; have := HQ.out; omega, HB.out, K1.out.trans K2.out⟩


set_option maxHeartbeats 8000000 in
set_option maxRecDepth 1000000 in
theorem Decode_coded (W H n : Nat) (ao : Option Addr) (cap m : Nat) (l : List Nat) (D T d : Int) (f : Nat → Int) (w : World) (hr : Reads w ao l) (hby : Byts l) (hm : l.length = m) (hl : m ≤ 281474976710656) (hT : Tab w) (hz : szd (W : Int) (H : Int) = true) (hn : n = W * H) (hD : Dp D T) (d0 : 0 ≤ d) (d1 : d ≤ 63) (hf : ∀ i, 0 ≤ f i ∧ f i ≤ T)
    (J : Nat) (hE : Enc T d W n f J) (hh : Holds l (xw T d W f J)) (h1 : 8 * l.length - (xw T d W f J).2 < 8) (hzz : nextN l (xw T d W f J).2 (8 * l.length - (xw T d W f J).2) = 0) :
    Calls Tryd.prog 9 #[.slice ao m cap, .int .i64 (W : Int), .int .i64 (H : Int), .int .i64 D, .int .i64 d] w fun e w' => ∃ G, e = .returned (.tuple #[.agg #[.int .i64 (W : Int), .int .i64 (H : Int), .slice (some ⟨G, 0, none⟩) n n], .int .i64 0]) ∧ w.heap.size ≤ G ∧ Smp w' G 0 n (sw T d W f J).b ∧ Kept [] w w' := by
  have hb := szd_in hz
  have hcst : (W : Int) * H = (n : Int) := by rw [hn]; simp
  rw [hcst] at hb
  have hG := hD.gd d0 d1
  have HN := Hid.mk hn
  have Hf := Hid.mk hf
  obtain ⟨w1, hw1, k1, b1⟩ := three_new w (.int .i64 0) (.int .i64 0) (.slice none 0 0) 24
  obtain ⟨Q, hQ⟩ : ∃ Q, w.heap.size = Q := ⟨_, rfl⟩
  rw [hQ] at b1
  have HQ := Hid.mk hQ
  have C1 := Hid.mk (newm_any D T d hD w1 d0 d1)
  have C2 := Hid.mk (fun W' => sized_any (W : Int) (H : Int) W')
  rw [hz] at C2
  have HT := Hid.mk hT
  have HRd := Hid.mk (hr.keep k1)
  have K1 := Hid.mk k1
  have B1 := Hid.mk b1
  have HD := Hid.mk hD
  have Hh := Hid.mk (And.intro hh (And.intro h1 hzz))
  have HE := Hid.mk hE
  clear hn hf hT hr k1 b1 hz hcst hD hh h1 hzz hE
  go_enter Tryd.func9, Tryd.ntmps9
  go_wp2_with (fail)
  refine C1.out.mono ?_
  rintro e w2 ⟨P, rfl, m2, hP, k2⟩
  have K2 := Hid.mk k2
  have M2 := Hid.mk m2
  have HP := Hid.mk hP
  clear k2 m2 hP C1
  go_wp2_with (fail)
  refine (C2.out _).mono ?_
  rintro e w3 ⟨rfl, hw3⟩
  obtain rfl := hw3.symm
  clear hw3 C2
  go_wp2_with (fail)
  refine (newWalk_any P W H n D w2 (by omega) (by omega) HN.out.symm).mono ?_
  rintro e w4 ⟨X, G, rfl, a1, a2, a3, a4, k4⟩
  have R4 := Hid.mk (And.intro a1 (And.intro a2 (And.intro (Nat.le_trans K2.out.size a3) (And.intro (Nat.le_trans K2.out.size a4) k4))))
  clear a1 a2 a3 a4 k4
  go_wp2_with (fail)
  refine (newDecoder_any ao cap m l n P X G W D w4 ((HRd.out.keep K2.out).keep R4.out.2.2.2.2) hby hm hl).mono ?_
  rintro e w5 ⟨B, O, g, rfl, b1, b2, b3, b4, b5, b6⟩
  obtain ⟨a1, a2, a3, a4, k4⟩ := R4.out
  have hs4 : w1.heap.size ≤ w4.heap.size := (K2.out.trans k4).size
  have h5 : Dm w1 B P X G O g T d D W n l w5 (wk0 T d) 0 := by
    refine ⟨⟨b1, M2.out.keep (k4.trans b6) (by simp), a1.kept b6 (by simp), ⟨_, b6.heap a2 (by simp), by simp, fun i hi => ?_⟩, .inr rfl⟩, b2, K2.out.trans (k4.trans b6), HT.out.kept K1.out (by simp), by omega, HP.out, a3, a4, by omega, by omega⟩
    have : i < 0 := hi
    omega
  have C5 := Hid.mk (read_coded w1 B P X G O g T d D W H n l f w5 hG HD.out (by omega) (by omega) (by omega) HN.out Hf.out J HE.out Hh.out.1 Hh.out.2.1 Hh.out.2.2 h5)
  clear b1 b2 b3 b4 b5 b6 h5 a1 a2 a3 a4 k4 hs4
  go_wp2_with (fail)
  refine C5.out.mono ?_
  rintro e w6 ⟨rfl, h6⟩
  have c4 := h6.wm.fact.c4
  have B6 := Hid.mk (h6.keep.heap B1.out (by simp))
  obtain ⟨z0, z1, z2, zf⟩ := cells_three B6.out
  have zf0 := zf 0
  have zf1 := zf 1
  have zf2 := zf 2
  have H6 := Hid.mk h6
  clear h6 zf C5
  go_wp2
  have k7 : Kept [Q] w6 (((w6.setCell ⟨Q, 0, none⟩ (.int .i64 (W : Int))).setCell ⟨Q, 1, none⟩ (.int .i64 (H : Int))).setCell ⟨Q, 2, none⟩ (.slice (some ⟨G, 0, none⟩) n n)) :=
    (((Kept.refl [Q] w6).setCell (p := ⟨Q, 0, none⟩) (by simp) _).setCell (p := ⟨Q, 1, none⟩) (by simp) _).setCell (p := ⟨Q, 2, none⟩) (by simp) _
  have hlo := H6.out.lo
  have hs1 := K1.out.size
  have hQs := HQ.out
  have hsm : Smp w6 G 0 n (sw T d W f J).b := fun i hi => by
    rw [Nat.zero_add]
    exact H6.out.wm.cel i (by rw [HE.out.fin]; exact hi)
  have hQG : Q < w1.heap.size := lt_of_block B1.out
  refine bodyPost_ret (v := .tuple #[.agg #[.int .i64 (W : Int), .int .i64 (H : Int), .slice (some ⟨G, 0, none⟩) n n], .int .i64 0]) (by simp [results, Tryd.results9, go_sem, z0, z1, z2]) rfl ⟨G, rfl, by omega, hsm.keep k7 (by simp; omega), (K1.out.trans H6.out.keep).step k7 (by simp; omega)⟩
end Go.Proofs.YtahoeodpjdbdkabDoor

namespace Go.Proofs.YtahoeodpjdbdkabDoor
open Go.RowKit

abbrev f512 : Nat → Int := fun _ => 512
theorem al_x : xw 1023 0 1 f512 1 = (3, 9) := by decide +kernel
theorem al_t : (sw 1023 0 1 f512 1).t = 1 := by decide +kernel
theorem al_b : (sw 1023 0 1 f512 1).b 0 = 512 := by decide +kernel
theorem al_enc : Enc 1023 0 1 1 f512 1 := by
  refine ⟨?_, al_t⟩
  intro i hi
  have e : i = 0 := by omega
  subst e
  exact Nat.zero_lt_one
theorem al_one (j : Nat) (h : Enc 1023 0 1 1 f512 j) : j = 1 := by
  rcases Nat.lt_trichotomy j 1 with h1 | h1 | h1
  · have e : j = 0 := by omega
    subst e
    have h2 := h.fin
    have e : (stp 1023 0 1 (cE 1023 0 1 f512) (wk0 1023 0) 0).t = 0 := rfl
    rw [e] at h2
    exact absurd h2 (by decide)
  · exact h1
  · have h2 := h.all 1 h1
    rw [al_t] at h2
    exact absurd h2 (by decide)
theorem al_by : byts (3, 9) = [1, 128] ∧ nby (3, 9) = 2 := by decide +kernel
theorem al_raw : (rsz ((1 : Nat) : Int) ((1 : Nat) : Int) 10).1 = 3 := by decide +kernel
theorem al_sz : szd ((1 : Nat) : Int) ((1 : Nat) : Int) = true := by decide +kernel
theorem al_hold : Holds [1, 128] (3, 9) ∧ 8 * [1, 128].length - (3, 9).2 < 8 ∧ nextN [1, 128] (3, 9).2 (8 * [1, 128].length - (3, 9).2) = 0 := by
  refine ⟨⟨by decide, by decide +kernel⟩, by decide, by decide +kernel⟩

set_option maxHeartbeats 2000000 in
theorem al_enc_call (sb : Nat) (w : World) (hs : w.heap[sb]? = some (.cells #[.int .u16 512] 39 (0, 0))) (hT : Tab w) :
    Calls Tryd.prog 8 #[.agg #[.int .i64 1, .int .i64 1, .slice (some ⟨sb, 0, none⟩) 1 1], .int .i64 10, .int .i64 0] w fun e w' => ∃ g, e = .returned (.tuple #[.slice (some ⟨g, 0, none⟩) 2 2, .int .i64 0]) ∧ w.heap.size ≤ g ∧ w'.heap[g]? = some (.cells ([1, 128].map byt).toArray 5 (0, 0)) ∧ Kept [] w w' := by
  have hsm : Smp w sb 0 1 f512 := fun i hi => by
    obtain rfl : i = 0 := by omega
    simp [World.cell?, hs]
  refine (Encode_coded 1 1 1 sb 0 1 10 1023 0 f512 w hsm hT al_sz rfl (.inl ⟨rfl, rfl⟩) (by omega) (by omega) (fun i => by show (0 : Int) ≤ 512 ∧ (512 : Int) ≤ 1023; omega) (fun j hj => by
    rw [al_one j hj, al_x, al_by.2, al_raw]; decide)).mono ?_
  rintro e w' ⟨j, g, hj, rfl, hg, hb, hk⟩
  rw [al_one j hj, al_x] at hb
  rw [al_by.1] at hb
  refine ⟨g, ?_, hg, hb, hk⟩
  rw [al_one j hj, al_x, al_by.2]

set_option maxHeartbeats 2000000 in
theorem al_dec_call (g : Nat) (w : World) (hs : w.heap[g]? = some (.cells #[.int .u8 1, .int .u8 128] 5 (0, 0))) (hT : Tab w) :
    Calls Tryd.prog 9 #[.slice (some ⟨g, 0, none⟩) 2 2, .int .i64 1, .int .i64 1, .int .i64 10, .int .i64 0] w fun e w' => ∃ G, e = .returned (.tuple #[.agg #[.int .i64 1, .int .i64 1, .slice (some ⟨G, 0, none⟩) 1 1], .int .i64 0]) ∧ w.heap.size ≤ G ∧ w'.cell? ⟨G, 0, none⟩ = some (.int .u16 512) ∧ Kept [] w w' := by
  have hr : Reads w (some ⟨g, 0, none⟩) [1, 128] := .inr ⟨g, 0, rfl, fun i hi => by
    have : i = 0 ∨ i = 1 := by simp at hi; omega
    rcases this with rfl | rfl <;> simp [World.cell?, hs, byt]⟩
  have hh := al_hold
  rw [← al_x] at hh
  refine (Decode_coded 1 1 1 (some ⟨g, 0, none⟩) 2 2 [1, 128] 10 1023 0 f512 w hr (fun b hb => by simp at hb; omega) rfl (by omega) hT al_sz rfl (.inl ⟨rfl, rfl⟩) (by omega) (by omega) (fun i => by show (0 : Int) ≤ 512 ∧ (512 : Int) ≤ 1023; omega) 1 al_enc hh.1 hh.2.1 hh.2.2).mono ?_
  rintro e w' ⟨G, rfl, hG, hS, hk⟩
  have := hS 0 (by omega)
  rw [al_b] at this
  exact ⟨G, rfl, hG, this, hk⟩

set_option maxHeartbeats 4000000 in
set_option maxRecDepth 100000 in
theorem alive_any (w : World) (hT : Tab w) : Calls Tryd.prog 6 #[] w fun e w' => e = .returned (.bool true) ∧ Kept [] w w' := by
  have HT := Hid.mk hT
  clear hT
  go_enter Tryd.func6, Tryd.ntmps6
  go_wp2_with (fail)
  obtain ⟨w1, hw1, k1⟩ : ∃ w1, w.alloc (.cells #[.int .u16 512] 39 (0, 0)) = w1 ∧ Kept [] w w1 := ⟨_, rfl, alloc_kept _ _⟩
  have b1 : w1.heap[w.heap.size]? = some (.cells #[.int .u16 512] 39 (0, 0)) := by rw [← hw1]; exact heap_alloc_new _ _
  rw [hw1]
  refine (al_enc_call w.heap.size w1 b1 (HT.out.kept k1 (by simp))).mono ?_
  rintro e w2 ⟨g, rfl, hg, hb, k2⟩
  have K2 := Hid.mk (k1.trans k2)
  have HB := Hid.mk hb
  have Hg := Hid.mk hg
  clear hw1 k1 b1 k2 hb hg
  go_wp2_with (fail)
  obtain ⟨w3, hw3, k3⟩ : ∃ w3, w2.alloc (.cells #[.int .u8 1, .int .u8 128] 5 (0, 0)) = w3 ∧ Kept [] w2 w3 := ⟨_, rfl, alloc_kept _ _⟩
  have b3 : w3.heap[w2.heap.size]? = some (.cells #[.int .u8 1, .int .u8 128] 5 (0, 0)) := by rw [← hw3]; exact heap_alloc_new _ _
  rw [hw3]
  refine (al_dec_call w2.heap.size w3 b3 (HT.out.kept (K2.out.trans k3) (by simp))).mono ?_
  rintro e w4 ⟨G, rfl, hG, hc, k4⟩
  have K4 := Hid.mk (K2.out.trans (k3.trans k4))
  have b4 := (k3.trans k4).heap HB.out (by simp)
  obtain ⟨w5, hw5, k5, b5⟩ := three_new w4 (.int .i64 1) (.int .i64 1) (.slice (some ⟨G, 0, none⟩) 1 1) 24
  have es : bstr [1, 128] = ⟨#[1, 128]⟩ := by decide +kernel
  have hst : Sem.run Tryd.prog (convert 27 9 (.slice (some ⟨g, 0, none⟩) 2 2)) w5 = .ok (.string ⟨#[1, 128]⟩) w5 := by
    have := str_run (w := w5) (cap := 2) (l := [1, 128]) (rest := []) (by simpa using k5.heap b4 (by simp))
    rw [es] at this
    exact this
  have hc5 : w5.cell? ⟨G, 0, none⟩ = some (.int .u16 512) := by
    rw [← hc]; exact World.cell?_of_block (a := ⟨G, 0, none⟩) (k5.block G (World.block_lt_of_cell? w4 _ hc) (by simp))
  obtain ⟨z0, z1, z2⟩ := agg3' b5
  have K5 := Hid.mk (K4.out.trans k5)
  clear hw3 k3 b3 k4 hG HB K2 b4 k5 b5 es hc K4
  go_wp2
  go_ret
  exact ⟨rfl, K5.out⟩
end Go.Proofs.YtahoeodpjdbdkabDoor
