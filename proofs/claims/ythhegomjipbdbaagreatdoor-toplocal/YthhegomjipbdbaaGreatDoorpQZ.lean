import Derived.Test.YthhegomjipbdbaaGreatDoorpOZ
namespace Go.Proofs.YthhegomjipbdbaaGreatDoor.Pc
open Go.RowKit

/-- What Encode comes to. -/
def EnPost (w : World) (E : Int) (n : Nat) (L : Nat → Nat → Int) (LN : Nat → Nat) (RB : Nat → List Nat) (cap : Int) (e : Ending) (w' : World) : Prop :=
  (E = 0 ∧ ClPost w n L LN RB (if cap = 0 then 134217727 else cap) e w') ∨
  (E ≠ 0 ∧ e = .returned (.tuple #[cdv (.slice none 0 0) 0 (fun _ => 0), .int .i64 E]) ∧ Kept [] w w')
theorem ClPost.of {w w0 w1 w' : World} {n : Nat} {L : Nat → Nat → Int} {LN : Nat → Nat} {RB : Nat → List Nat} {most : Int} {B : Nat} {v z : Value} (h : ClPost w1 n L LN RB most (.returned (.tuple #[v, z])) w) (k1 : Kept [] w0 w1) (hk : Kept [B] w w') (hB : B < w1.heap.size) (hB0 : w0.heap.size ≤ B) : ClPost w0 n L LN RB most (.returned (.tuple #[v, z])) w' := by
  have hKK : ∀ {u}, Kept [] w1 u → u = w → Kept [] w0 w' := fun k e => by subst e; exact (k1.trans k).step hk (fun x hx => by simp at hx; subst hx; exact .inr hB0)
  rcases h with ⟨i, h1, h2, h3, bo, c, h4, h5, h6⟩ | ⟨h1, h2, h3⟩
  · exact .inl ⟨i, h1, h2, h3, bo, c, h4, own_base (hk.row h5 (fun b hb => by have := (own_lo h5 hb).1; simp only [List.mem_singleton]; omega)) k1.size, hKK h6 rfl⟩
  · exact .inr ⟨h1, h2, hKK h3 rfl⟩
theorem ClPost.form {w w' : World} {n : Nat} {L : Nat → Nat → Int} {LN : Nat → Nat} {RB : Nat → List Nat} {most : Int} {e : Ending} (h : ClPost w n L LN RB most e w') : ∃ (V : Value) (i : Int) (a0 a1 a2 a3 z : Int), e = .returned (.tuple #[.agg #[V, .int .i64 i, .int .i64 a0, .int .i64 a1, .int .i64 a2, .int .i64 a3], .int .i64 z]) ∧ (∃ bo n c, V = .slice bo n c) ∧ Kept [] w w' := by
  rcases h with ⟨i, h1, h2, h3, bo, c, h4, h5, h6⟩ | ⟨h1, h2, h3⟩
  · exact ⟨_, _, _, _, _, _, _, h4, ⟨_, _, _, rfl⟩, h6⟩
  · exact ⟨_, _, _, _, _, _, _, h2, ⟨_, _, _, rfl⟩, h3⟩

set_option maxHeartbeats 8000000 in
set_option maxRecDepth 1000000 in
theorem Encode_any (W H D : Int) (A : Bool) (po : Option Addr) (m d : Nat) (ln : Nat → Nat) (F : Nat → Nat → Nat) (sw sh : Int) (lo : Option Addr) (n c : Nat) (L : Nat → Nat → Int) (cap p : Int) (pn N : Nat) (LN : Nat → Nat) (PS : Nat → List (List Nat)) (RB : Nat → List Nat) (w : World)
    (hP : Tl.Pl w po m ln F) (hm : m ≤ 9223372036854775807) (hln : ∀ i, i < m → ln i ≤ 9223372036854775807) (hL : Ldr w lo n L) (hn : n ≤ 9223372036854775807) (s0 : -9223372036854775808 ≤ sw) (s1 : sw ≤ 9223372036854775807) (hp : jbE W H D A m ln F sw sh n L cap p = 0 → p = (pn : Int) ∧ n ≤ 1000)
    (HW : jbE W H D A m ln F sw sh n L cap p = 0 → ∀ u P, Kept [] w u → Tl.Gr u P W H D A sw sh (Tl.cl W sw) (Tl.cl H sh) → Jw u W H D A po m d sw sh lo n c cap pn P N L LN PS RB) :
    Calls Tryz.prog 22 #[Tl.frv W H D A po m d, cfv sw sh lo n c cap p] w fun e w' => EnPost w (jbE W H D A m ln F sw sh n L cap p) n L LN RB cap e w' := by
  obtain ⟨w1, e1⟩ : ∃ w1, w.alloc (.cells #[.int .i64 W, .int .i64 H, .int .i64 D, .bool A, .slice po m d] 42 (0, 0)) = w1 := ⟨_, rfl⟩
  obtain ⟨w2, e2⟩ : ∃ w2, w1.alloc (.cells #[.int .i64 sw, .int .i64 sh, .slice lo n c, .int .i64 cap, .int .i64 p] 45 (0, 0)) = w2 := ⟨_, rfl⟩
  obtain ⟨w3, e3⟩ : ∃ w3, w2.alloc (.cells #[.slice none 0 0, .int .i64 0, .int .i64 0, .int .i64 0, .int .i64 0, .int .i64 0] 59 (0, 0)) = w3 := ⟨_, rfl⟩
  obtain ⟨B, eB⟩ : ∃ B, w.heap.size = B := ⟨_, rfl⟩
  have z1 : w1.heap.size = B + 1 := by rw [← e1, ← eB]; exact Array.size_push _
  have z2 : w2.heap.size = B + 1 + 1 := by rw [← z1, ← e2]; exact Array.size_push _
  have k1 : Kept [] w w1 := by rw [← e1]; exact (Kept.refl [] w).alloc _
  have k2 : Kept [] w1 w2 := by rw [← e2]; exact (Kept.refl [] w1).alloc _
  have k3 : Kept [] w2 w3 := by rw [← e3]; exact (Kept.refl [] w2).alloc _
  have HF := Hid.mk ((k2.trans k3).heap (show w1.heap[B]? = some (.cells #[.int .i64 W, .int .i64 H, .int .i64 D, .bool A, .slice po m d] 42 (0, 0)) by rw [← e1, ← eB]; exact heap_alloc_new _ _) (by simp))
  have HC := Hid.mk (k3.heap (show w2.heap[B + 1]? = some (.cells #[.int .i64 sw, .int .i64 sh, .slice lo n c, .int .i64 cap, .int .i64 p] 45 (0, 0)) by rw [← e2, ← z1]; exact heap_alloc_new _ _) (by simp))
  have HR := Hid.mk (show w3.heap[B + 1 + 1]? = some (.cells #[.slice none 0 0, .int .i64 0, .int .i64 0, .int .i64 0, .int .i64 0, .int .i64 0] 59 (0, 0)) by rw [← e3, ← z2]; exact heap_alloc_new _ _)
  have K3 := Hid.mk ((k1.trans k2).trans k3)
  have CJ := Hid.mk (newJob_any W H D A po m d ln F sw sh lo n c L cap p w3 (hP.keep K3.out) hm hln (hL.keep K3.out) hn s0 s1)
  have HL := Hid.mk hL
  have HWW := Hid.mk HW
  have HPP := Hid.mk hp
  have HB := Hid.mk eB
  obtain ⟨f0, f1, f2, f3, f4⟩ := cel5 HF.out
  obtain ⟨q0, q1, q2, q3, q4⟩ := cel5 HC.out
  obtain ⟨E, eE⟩ : ∃ E, jbE W H D A m ln F sw sh n L cap p = E := ⟨_, rfl⟩
  rw [eE] at CJ HWW HPP ⊢
  clear hP hm hln hL hn s0 s1 hp HW k1 k2 k3 eE
  go_enter Tryz.func22, Tryz.ntmps22
  go_wp2_with (fail)
  clear e1 e2 e3 z1 z2 eB
  refine CJ.out.mono ?_
  rintro e w4 h4
  clear f0 f1 f2 f3 f4 q0 q1 q2 q3 q4
  rcases h4 with ⟨hE, P, rfl, K4, hP, hG⟩ | ⟨hE, rfl, K4⟩
  · obtain ⟨w5, e5⟩ : ∃ w5, w4.alloc (.cells #[.int .i64 W, .int .i64 H, .int .i64 D, .bool A, .slice po m d, .int .i64 sw, .int .i64 sh, .slice lo n c, .int .i64 cap, .int .i64 p, .pointer (some ⟨P, 0, none⟩)] 97 (0, 0)) = w5 := ⟨_, rfl⟩
    have k5 : Kept [] w4 w5 := by rw [← e5]; exact (Kept.refl [] w4).alloc _
    obtain ⟨j0, j1, j2, j3, j4, j5, j6, j7, j8, j9, j10⟩ := cel11 (show w5.heap[w4.heap.size]? = _ by rw [← e5]; exact heap_alloc_new _ _)
    have K5 := Hid.mk (K4.trans k5)
    have hE2 := hE
    obtain ⟨hpn, hn9⟩ := HPP.out hE
    have HE := Hid.mk hE
    have HJW := Hid.mk (HWW.out hE w5 P (K3.out.trans K5.out) (hG.keep k5 (by simp)))
    have HLw := HL.out.keep (K3.out.trans K5.out)
    subst hpn
    have CL : Hid (∀ most, Calls Tryz.prog 51 #[.slice lo n c, .int .i64 most, .func (.func 45) #[jbv W H D A po m d sw sh lo n c cap (pn : Int) (some ⟨P, 0, none⟩)] #[]] w5 fun e w' => ClPost w5 n L LN RB most e w') := Hid.mk (fun most => climb_any W H D A po m d sw sh lo n c cap pn P N L LN PS RB most w5 HJW.out HLw hn9)
    obtain ⟨q0, q1, q2, q3, q4⟩ := cel5 (K5.out.heap HC.out (by simp))
    have fin : Hid (∀ most, (if cap = 0 then 134217727 else cap) = most → ∀ (e : Ending) (u : World), ClPost w5 n L LN RB most e u → ∃ V i a0 a1 a2 a3 z, e = .returned (.tuple #[.agg #[V, .int .i64 i, .int .i64 a0, .int .i64 a1, .int .i64 a2, .int .i64 a3], .int .i64 z]) ∧ (∃ bo n c, V = .slice bo n c) ∧ Kept [] w5 u ∧ ∀ u', Kept [B + 1 + 1] u u' → EnPost w E n L LN RB cap e u') := Hid.mk (fun most hmost e u hcl => by
      obtain ⟨V, i, a0, a1, a2, a3, z, rfl, hv, hk⟩ := hcl.form
      refine ⟨V, i, a0, a1, a2, a3, z, rfl, hv, hk, fun u' hu => .inl ⟨HE.out, ?_⟩⟩
      rw [hmost]
      exact hcl.of (K3.out.trans K5.out) hu (Nat.lt_of_lt_of_le (lt_of_block HR.out) K5.out.size) (by have := HB.out; omega))
    clear K4 hP hG k5 hE hE2 HLw hn9 CJ HPP HWW HJW
    by_cases hcap : cap = 0
    · subst hcap
      go_wp2_with (fail)
      clear e5 j0 j1 j2 j3 j4 j5 j6 j7 j8 j9 j10 q0 q1 q2 q3 q4
      refine (CL.out 134217727).mono ?_
      rintro e w6 h6
      obtain ⟨V, i, a0, a1, a2, a3, z, rfl, ⟨bo, vn, vc, rfl⟩, k6, hfin⟩ := fin.out 134217727 (by simp) _ _ h6
      have hC := (K5.out.trans k6).heap HR.out (by simp)
      have S9 := setAll_row [.slice bo vn vc, .int .i64 i, .int .i64 a0, .int .i64 a1, .int .i64 a2, .int .i64 a3] 0 w6 [] _ hC rfl rfl
      simp only [setAll] at S9
      have HFN := Hid.mk (hfin _ S9.2)
      have S9 := Hid.mk S9
      obtain ⟨d0, d1, d2, d3, d4, d5⟩ := cel6 hC
      have dz := row_fz hC
      clear hC k6 hfin h6 fin CL
      go_wp2
      refine bodyPost_ret (v := .tuple #[.agg #[.slice bo vn vc, .int .i64 i, .int .i64 a0, .int .i64 a1, .int .i64 a2, .int .i64 a3], .int .i64 z]) ?_ rfl HFN.out
      exact Tl.results_two rfl _ _ (B + 1 + 1) 59 _ (0, 0) _ _ rfl S9.out.1 Tryz.underlying59 Tryz.infoC rfl
    · have hc0 : (cap == 0) = false := by simpa using hcap
      have HCP := Hid.mk hcap
      clear hcap
      go_wp2_with (fail)
      clear e5 j0 j1 j2 j3 j4 j5 j6 j7 j8 j9 j10 q0 q1 q2 q3 q4
      refine (CL.out cap).mono ?_
      rintro e w6 h6
      obtain ⟨V, i, a0, a1, a2, a3, z, rfl, ⟨bo, vn, vc, rfl⟩, k6, hfin⟩ := fin.out _ (if_neg HCP.out) _ _ h6
      have hC := (K5.out.trans k6).heap HR.out (by simp)
      have S9 := setAll_row [.slice bo vn vc, .int .i64 i, .int .i64 a0, .int .i64 a1, .int .i64 a2, .int .i64 a3] 0 w6 [] _ hC rfl rfl
      simp only [setAll] at S9
      have HFN := Hid.mk (hfin _ S9.2)
      have S9 := Hid.mk S9
      obtain ⟨d0, d1, d2, d3, d4, d5⟩ := cel6 hC
      have dz := row_fz hC
      clear hC k6 hfin h6 fin CL
      go_wp2
      refine bodyPost_ret (v := .tuple #[.agg #[.slice bo vn vc, .int .i64 i, .int .i64 a0, .int .i64 a1, .int .i64 a2, .int .i64 a3], .int .i64 z]) ?_ rfl HFN.out
      exact Tl.results_two rfl _ _ (B + 1 + 1) 59 _ (0, 0) _ _ rfl S9.out.1 Tryz.underlying59 Tryz.infoC rfl
  · have hk4 := K4
    have K4 := Hid.mk (K3.out.trans K4)
    have hE0 : (E == 0) = false := by simpa using hE
    have HE := Hid.mk hE
    go_upto_if 16 with (fail)
    obtain ⟨w5, e5⟩ : ∃ w5, w4.alloc (.cells #[.int .i64 0, .int .i64 0, .int .i64 0, .bool false, .slice none 0 0, .int .i64 0, .int .i64 0, .slice none 0 0, .int .i64 0, .int .i64 0, .pointer none] 97 (0, 0)) = w5 := ⟨_, rfl⟩
    rw [e5]
    have k5 : Kept [] w4 w5 := by rw [← e5]; exact (Kept.refl [] w4).alloc _
    clear e5
    have hC := (‹Kept [] w3 w4›.trans k5).heap HR.out (by simp)
    have S9 := setAll_row [.slice none 0 0, .int .i64 0, .int .i64 0, .int .i64 0, .int .i64 0, .int .i64 0] 0 w5 [] _ hC rfl rfl
    simp only [setAll] at S9
    have S9 := Hid.mk S9
    obtain ⟨d0, d1, d2, d3, d4, d5⟩ := cel6 hC
    have dz := row_fz hC
    have K5 := Hid.mk (K4.out.trans k5)
    clear hC k5 hE
    go_wp2
    refine bodyPost_ret (v := .tuple #[cdv (.slice none 0 0) 0 (fun _ => 0), .int .i64 E]) ?_ rfl (.inr ⟨HE.out, rfl, ?_⟩)
    · exact Tl.results_two rfl _ _ (B + 1 + 1) 59 _ (0, 0) _ _ rfl S9.out.1 Tryz.underlying59 Tryz.infoC rfl
    · exact K5.out.step S9.out.2 (fun x hx => by simp at hx; subst hx; exact .inr (by have := HB.out; omega))

end Go.Proofs.YthhegomjipbdbaaGreatDoor.Pc

namespace Go.Proofs.YthhegomjipbdbaaGreatDoor.Pc
open Go.RowKit

set_option maxHeartbeats 8000000 in
set_option maxRecDepth 1000000 in
theorem At_ok (W H D : Int) (A : Bool) (po : Option Addr) (m d : Nat) (ln : Nat → Nat) (F : Nat → Nat → Nat) (sw sh : Int) (lo : Option Addr) (n c : Nat) (L : Nat → Nat → Int) (cap p : Int) (pn N : Nat) (LN : Nat → Nat) (PS : Nat → List (List Nat)) (RB : Nat → List Nat) (i : Nat) (w : World)
    (hP : Tl.Pl w po m ln F) (hm : m ≤ 9223372036854775807) (hln : ∀ i, i < m → ln i ≤ 9223372036854775807) (hL : Ldr w lo n L) (hn : n ≤ 9223372036854775807) (s0 : -9223372036854775808 ≤ sw) (s1 : sw ≤ 9223372036854775807) (hp : jbE W H D A m ln F sw sh n L cap p = 0 → p = (pn : Int) ∧ n ≤ 1000)
    (HW : jbE W H D A m ln F sw sh n L cap p = 0 → ∀ u P, Kept [] w u → Tl.Gr u P W H D A sw sh (Tl.cl W sw) (Tl.cl H sh) → Jw u W H D A po m d sw sh lo n c cap pn P N L LN PS RB) (h0 : jbE W H D A m ln F sw sh n L cap p = 0) (hi : i < n) :
    Calls Tryz.prog 18 #[Tl.frv W H D A po m d, cfv sw sh lo n c cap p, .int .i64 (i : Int)] w fun e w' => ∃ bo c, e = .returned (.tuple #[cdv (.slice bo (LN i) c) (i : Int) (L i), .int .i64 0]) ∧ w'.ownsRow w.heap.size 5 1 (.slice bo (LN i) c) (LN i) ((RB i).map byt) ∧ Kept [] w w' := by
  obtain ⟨w1, e1⟩ : ∃ w1, w.alloc (.cells #[.int .i64 W, .int .i64 H, .int .i64 D, .bool A, .slice po m d] 42 (0, 0)) = w1 := ⟨_, rfl⟩
  obtain ⟨w2, e2⟩ : ∃ w2, w1.alloc (.cells #[.int .i64 sw, .int .i64 sh, .slice lo n c, .int .i64 cap, .int .i64 p] 45 (0, 0)) = w2 := ⟨_, rfl⟩
  obtain ⟨w3, e3⟩ : ∃ w3, w2.alloc (.cells #[.slice none 0 0, .int .i64 0, .int .i64 0, .int .i64 0, .int .i64 0, .int .i64 0] 59 (0, 0)) = w3 := ⟨_, rfl⟩
  obtain ⟨B, eB⟩ : ∃ B, w.heap.size = B := ⟨_, rfl⟩
  have z1 : w1.heap.size = B + 1 := by rw [← e1, ← eB]; exact Array.size_push _
  have z2 : w2.heap.size = B + 1 + 1 := by rw [← z1, ← e2]; exact Array.size_push _
  have k1 : Kept [] w w1 := by rw [← e1]; exact (Kept.refl [] w).alloc _
  have k2 : Kept [] w1 w2 := by rw [← e2]; exact (Kept.refl [] w1).alloc _
  have k3 : Kept [] w2 w3 := by rw [← e3]; exact (Kept.refl [] w2).alloc _
  have HF := Hid.mk ((k2.trans k3).heap (show w1.heap[B]? = some (.cells #[.int .i64 W, .int .i64 H, .int .i64 D, .bool A, .slice po m d] 42 (0, 0)) by rw [← e1, ← eB]; exact heap_alloc_new _ _) (by simp))
  have HC := Hid.mk (k3.heap (show w2.heap[B + 1]? = some (.cells #[.int .i64 sw, .int .i64 sh, .slice lo n c, .int .i64 cap, .int .i64 p] 45 (0, 0)) by rw [← e2, ← z1]; exact heap_alloc_new _ _) (by simp))
  have HR := Hid.mk (show w3.heap[B + 1 + 1]? = some (.cells #[.slice none 0 0, .int .i64 0, .int .i64 0, .int .i64 0, .int .i64 0, .int .i64 0] 59 (0, 0)) by rw [← e3, ← z2]; exact heap_alloc_new _ _)
  have K3 := Hid.mk ((k1.trans k2).trans k3)
  have CJ := Hid.mk (newJob_any W H D A po m d ln F sw sh lo n c L cap p w3 (hP.keep K3.out) hm hln (hL.keep K3.out) hn s0 s1)
  have HL := Hid.mk hL
  have HWW := Hid.mk HW
  have HPP := Hid.mk hp
  have HB := Hid.mk eB
  obtain ⟨f0, f1, f2, f3, f4⟩ := cel5 HF.out
  obtain ⟨q0, q1, q2, q3, q4⟩ := cel5 HC.out
  obtain ⟨E, eE⟩ : ∃ E, jbE W H D A m ln F sw sh n L cap p = E := ⟨_, rfl⟩
  rw [eE] at CJ HWW HPP h0
  clear hP hm hln hL hn s0 s1 hp HW k1 k2 k3 eE
  have ii : (i : Int) < (n : Int) := by omega
  have HII := Hid.mk hi
  clear hi
  go_enter Tryz.func18, Tryz.ntmps18
  go_wp2_with (fail)
  clear e1 e2 e3 z1 z2 eB
  refine CJ.out.mono ?_
  rintro e w4 h4
  clear f0 f1 f2 f3 f4 q0 q1 q2 q3 q4
  rcases h4 with ⟨hE, P, rfl, K4, hP, hG⟩ | ⟨hE, rfl, K4⟩
  · obtain ⟨hpn, hn9⟩ := HPP.out hE
    subst hpn
    obtain ⟨w5, e5⟩ : ∃ w5, w4.alloc (.cells #[.int .i64 W, .int .i64 H, .int .i64 D, .bool A, .slice po m d, .int .i64 sw, .int .i64 sh, .slice lo n c, .int .i64 cap, .int .i64 (pn : Int), .pointer (some ⟨P, 0, none⟩)] 97 (0, 0)) = w5 := ⟨_, rfl⟩
    have k5 : Kept [] w4 w5 := by rw [← e5]; exact (Kept.refl [] w4).alloc _
    obtain ⟨Q, eQ⟩ : ∃ Q, w4.heap.size = Q := ⟨_, rfl⟩
    have hJ5 : w5.heap[Q]? = some (.cells #[.int .i64 W, .int .i64 H, .int .i64 D, .bool A, .slice po m d, .int .i64 sw, .int .i64 sh, .slice lo n c, .int .i64 cap, .int .i64 (pn : Int), .pointer (some ⟨P, 0, none⟩)] 97 (0, 0)) := by rw [← e5, ← eQ]; exact heap_alloc_new _ _
    have K5 := Hid.mk (K4.trans k5)
    have HJW := Hid.mk (HWW.out hE w5 P (K3.out.trans K5.out) (hG.keep k5 (by simp)))
    obtain ⟨gl, off, rfl, l0, l1, l2, l3⟩ := (HL.out.keep (K3.out.trans K5.out)).at HII.out
    have C1 := Hid.mk (fun u ku => HJW.out.tr i HII.out u ku)
    have C2 := Hid.mk (fun u g ku hm => HJW.out.cd i HII.out u g ku hm)
    obtain ⟨rr, er⟩ : ∃ rr, L i = rr := ⟨_, rfl⟩
    rw [er] at C1 C2 l0 l1 l2 l3
    have ER := Hid.mk er
    obtain ⟨lnn, eln⟩ : ∃ ln, LN i = ln := ⟨_, rfl⟩
    rw [eln] at C1 C2
    have ELN := Hid.mk eln
    obtain ⟨a0, g0⟩ : ∃ a, rr 0 = a := ⟨_, rfl⟩
    obtain ⟨a1, g1⟩ : ∃ a, rr 1 = a := ⟨_, rfl⟩
    obtain ⟨a2, g2⟩ : ∃ a, rr 2 = a := ⟨_, rfl⟩
    obtain ⟨a3, g3⟩ : ∃ a, rr 3 = a := ⟨_, rfl⟩
    simp only [rgv, dfv, cdv, jbv, g0, g1, g2, g3] at C1 C2 l0 l1 l2 l3
    have EA : Hid (rr 0 = a0 ∧ rr 1 = a1 ∧ rr 2 = a2 ∧ rr 3 = a3) := Hid.mk ⟨g0, g1, g2, g3⟩
    have RK : Hid (∀ u, Kept [] w5 u → (u.cell? ⟨Q, 0, none⟩ = some (.int .i64 W) ∧ u.cell? ⟨Q, 1, none⟩ = some (.int .i64 H) ∧ u.cell? ⟨Q, 2, none⟩ = some (.int .i64 D) ∧ u.cell? ⟨Q, 3, none⟩ = some (.bool A) ∧ u.cell? ⟨Q, 4, none⟩ = some (.slice po m d) ∧ u.cell? ⟨Q, 5, none⟩ = some (.int .i64 sw) ∧ u.cell? ⟨Q, 6, none⟩ = some (.int .i64 sh) ∧ u.cell? ⟨Q, 7, none⟩ = some (.slice (some ⟨gl, off, none⟩) n c) ∧ u.cell? ⟨Q, 8, none⟩ = some (.int .i64 cap) ∧ u.cell? ⟨Q, 9, none⟩ = some (.int .i64 (pn : Int)) ∧ u.cell? ⟨Q, 10, none⟩ = some (.pointer (some ⟨P, 0, none⟩))) ∧ u.cell? ⟨B + 1, 2, none⟩ = some (.slice (some ⟨gl, off, none⟩) n c) ∧ u.cell? ⟨gl, off + i * 4, none⟩ = some (.int .i64 a0) ∧ u.cell? ⟨gl, off + i * 4 + 1, none⟩ = some (.int .i64 a1) ∧ u.cell? ⟨gl, off + i * 4 + 2, none⟩ = some (.int .i64 a2) ∧ u.cell? ⟨gl, off + i * 4 + 3, none⟩ = some (.int .i64 a3)) := Hid.mk (fun u ku => ⟨cel11 (ku.heap hJ5 (by simp)), cellAt (i := 2) ((K5.out.trans ku).heap HC.out (by simp)) rfl, Tl.cell_keep ku l0 (by simp), Tl.cell_keep ku l1 (by simp), Tl.cell_keep ku l2 (by simp), Tl.cell_keep ku l3 (by simp)⟩)
    have RK0 := RK.out w5 (Kept.refl _ _)
    have HQB : Hid (Q ∉ [B + 1 + 1]) := Hid.mk (by
      have h9 := Nat.lt_of_lt_of_le (lt_of_block HR.out) K4.size
      simp only [List.mem_singleton]
      omega)
    have HGB : Hid (gl ∉ [B + 1 + 1]) := Hid.mk (by
      obtain ⟨g', o', eg', hcc⟩ : ∃ g' o', (some (⟨gl, off, none⟩ : Addr)) = some ⟨g', o', none⟩ ∧ w.cell? ⟨g', o' + i * 4, none⟩ = some (.int .i64 (L i 0)) := by
        obtain ⟨a, b, c, d, _⟩ := HL.out.at HII.out
        exact ⟨a, b, c, d⟩
      cases eg'
      have h9 := World.block_lt_of_cell? w _ hcc
      have h9 : gl < w.heap.size := h9
      have h10 := HB.out
      simp only [List.mem_singleton]
      omega)
    have q2 := RK0.2.1
    have i0 : decide ((i : Int) < 0) = false := by simp
    have i1 : decide ((n : Int) ≤ (i : Int)) = false := by simp; exact HII.out
    clear K4 hP hG k5 hE er eln g0 g1 g2 g3 hJ5 l0 l1 l2 l3 CJ HWW HPP HJW hn9
    go_wp2_with (fail)
    clear e5 eQ q2
    refine wp_region_held_drew (S := fun u => (u.cell? ⟨Q, 0, none⟩ = some (.int .i64 W) ∧ u.cell? ⟨Q, 1, none⟩ = some (.int .i64 H) ∧ u.cell? ⟨Q, 2, none⟩ = some (.int .i64 D) ∧ u.cell? ⟨Q, 3, none⟩ = some (.bool A) ∧ u.cell? ⟨Q, 4, none⟩ = some (.slice po m d) ∧ u.cell? ⟨Q, 5, none⟩ = some (.int .i64 sw) ∧ u.cell? ⟨Q, 6, none⟩ = some (.int .i64 sh) ∧ u.cell? ⟨Q, 7, none⟩ = some (.slice (some ⟨gl, off, none⟩) n c) ∧ u.cell? ⟨Q, 8, none⟩ = some (.int .i64 cap) ∧ u.cell? ⟨Q, 9, none⟩ = some (.int .i64 (pn : Int)) ∧ u.cell? ⟨Q, 10, none⟩ = some (.pointer (some ⟨P, 0, none⟩))) ∧ u.cell? ⟨B + 1, 2, none⟩ = some (.slice (some ⟨gl, off, none⟩) n c) ∧ u.cell? ⟨gl, off + i * 4, none⟩ = some (.int .i64 a0) ∧ u.cell? ⟨gl, off + i * 4 + 1, none⟩ = some (.int .i64 a1) ∧ u.cell? ⟨gl, off + i * 4 + 2, none⟩ = some (.int .i64 a2) ∧ u.cell? ⟨gl, off + i * 4 + 3, none⟩ = some (.int .i64 a3)) (by kernel_rfl) RK0 (fun hHeld => ?_)
    refine wpAnyH_take (i := 0) (oi := _) (v := ?_) rfl (by kernel_rfl) (by kernel_rfl) (by kernel_rfl) (fun _ _ _ h => h) (Or.inl ⟨by rfl, ?y0⟩) (by assumption) ?r0
    case y0 => (intro w hSw; (try dsimp only at hSw); go_simp; try with_reducible rfl)
    refine wpAnyH_take (i := 1) (oi := _) (v := ?_) rfl (by kernel_rfl) (by kernel_rfl) (by kernel_rfl) (fun _ _ _ h => h) (Or.inl ⟨by rfl, ?y1⟩) (by assumption) ?r1
    case y1 => (intro w hSw; (try dsimp only at hSw); go_simp; try with_reducible rfl)
    refine wpAnyH_take (i := 2) (oi := _) (v := ?_) rfl (by kernel_rfl) (by kernel_rfl) (by kernel_rfl) (fun _ _ _ h => h) (Or.inl ⟨by rfl, ?y2⟩) (by assumption) ?r2
    case y2 => (intro w hSw; (try dsimp only at hSw); go_simp; try with_reducible rfl)
    refine wpAnyH_take (i := 3) (oi := _) (v := ?_) rfl (by kernel_rfl) (by kernel_rfl) (by kernel_rfl) (fun _ _ _ h => h) (Or.inl ⟨by rfl, ?y3⟩) (by assumption) ?r3
    case y3 => (intro w hSw; (try dsimp only at hSw); go_simp; try with_reducible rfl)
    refine wpAnyH_take (i := 4) (oi := _) (v := ?_) rfl (by kernel_rfl) (by kernel_rfl) (by kernel_rfl) (fun _ _ _ h => h) (Or.inl ⟨by rfl, ?y4⟩) (by assumption) ?r4
    case y4 => (intro w hSw; (try dsimp only at hSw); go_simp; try with_reducible rfl)
    refine wpAnyH_take (i := 5) (oi := _) (v := ?_) rfl (by kernel_rfl) (by kernel_rfl) (by kernel_rfl) (fun _ _ _ h => h) (Or.inl ⟨by rfl, ?y5⟩) (by assumption) ?r5
    case y5 => (intro w hSw; (try dsimp only at hSw); go_simp; try with_reducible rfl)
    refine wpAnyH_take (i := 7) (oi := _) (v := ?_) rfl (by kernel_rfl) (by kernel_rfl) (by kernel_rfl) (fun _ _ _ h => h) (Or.inl ⟨by rfl, ?y7⟩) (by assumption) ?r7
    case y7 => (intro w hSw; (try dsimp only at hSw); go_simp; try with_reducible rfl)
    refine wpAnyH_ready (rs := [6]) (by kernel_rfl) (by simp) ?_
    refine AllReadyH.cons rfl (fun K hK => ?_) AllReadyH.nil
    go_simp
    go_at_call 45
    refine (C1.out _ (Kept.refl [] w5).drew).mono ?_
    rintro e w6 ⟨g6, rfl, hm6, k6⟩
    have K6 : Hid (Kept [] w5 w6) := Hid.mk (((Kept.refl [] w5).drew).trans k6)
    have C3 := Hid.mk (C2.out w6 g6 K6.out hm6)
    clear hm6 k6
    refine hK.out _ _ (RK.out _ K6.out) (fun hHeld => ?_)
    clear hK K
    refine wpAnyH_ready (rs := [8]) (by kernel_rfl) (by simp) ?_
    refine AllReadyH.cons rfl (fun K hK => ?_) AllReadyH.nil
    go_simp
    go_at_call 46
    refine C3.out.mono ?_
    rintro e w7 ⟨bo, cb, rfl, ho7, k7⟩
    have K7 : Hid (Kept [] w5 w7) := Hid.mk (K6.out.trans k7)
    have HC7 := (K5.out.trans K7.out).heap HR.out (by simp)
    obtain ⟨w8, e8, h8, k8⟩ := row_set #[.slice bo lnn cb, .int .i64 (i : Int), .int .i64 a0, .int .i64 a1, .int .i64 a2, .int .i64 a3] HC7
    have HLT8 : Hid (B + 1 + 1 < w6.heap.size ∧ B + 1 + 1 < w5.heap.size) := Hid.mk ⟨Nat.lt_of_lt_of_le (lt_of_block HR.out) (K5.out.trans K6.out).size, Nat.lt_of_lt_of_le (lt_of_block HR.out) K5.out.size⟩
    have HO8 : Hid (w8.ownsRow w.heap.size 5 1 (.slice bo lnn cb) lnn ((RB i).map byt)) := Hid.mk (own_base (k8.row ho7 (fun b hb => by
      have h9 := (own_lo ho7 hb).1
      have h10 := HLT8.out.1
      simp only [List.mem_singleton]
      omega)) (Nat.le_trans K3.out.size (K5.out.trans K6.out).size))
    have K8 : Hid (Kept [] w w8) := Hid.mk (((K3.out.trans K5.out).trans K7.out).step k8 (fun x hx => by simp at hx; subst hx; exact .inr (by have := HB.out; omega)))
    have H8 := Hid.mk h8
    refine hK.out _ _ (RK.out _ K7.out) (fun hHeld => ?_)
    clear hK K
    refine wpAnyH_ready (rs := [9]) (by kernel_rfl) (by simp) ?_
    refine AllReadyH.cons rfl (fun K hK => ?_) AllReadyH.nil
    rw [if_pos (by rfl)]
    refine wp_store_row 59 (.tmp 6) (.tmp 38) rfl (B + 1 + 1) #[.slice bo lnn cb, .int .i64 (i : Int), .int .i64 a0, .int .i64 a1, .int .i64 a2, .int .i64 a3] rfl rfl 59 _ HC7 Tryz.infoC rfl (by simp [Value.oneCell']) ?_
    rw [e8]
    have RK8 : (fun u => (u.cell? ⟨Q, 0, none⟩ = some (.int .i64 W) ∧ u.cell? ⟨Q, 1, none⟩ = some (.int .i64 H) ∧ u.cell? ⟨Q, 2, none⟩ = some (.int .i64 D) ∧ u.cell? ⟨Q, 3, none⟩ = some (.bool A) ∧ u.cell? ⟨Q, 4, none⟩ = some (.slice po m d) ∧ u.cell? ⟨Q, 5, none⟩ = some (.int .i64 sw) ∧ u.cell? ⟨Q, 6, none⟩ = some (.int .i64 sh) ∧ u.cell? ⟨Q, 7, none⟩ = some (.slice (some ⟨gl, off, none⟩) n c) ∧ u.cell? ⟨Q, 8, none⟩ = some (.int .i64 cap) ∧ u.cell? ⟨Q, 9, none⟩ = some (.int .i64 (pn : Int)) ∧ u.cell? ⟨Q, 10, none⟩ = some (.pointer (some ⟨P, 0, none⟩))) ∧ u.cell? ⟨B + 1, 2, none⟩ = some (.slice (some ⟨gl, off, none⟩) n c) ∧ u.cell? ⟨gl, off + i * 4, none⟩ = some (.int .i64 a0) ∧ u.cell? ⟨gl, off + i * 4 + 1, none⟩ = some (.int .i64 a1) ∧ u.cell? ⟨gl, off + i * 4 + 2, none⟩ = some (.int .i64 a2) ∧ u.cell? ⟨gl, off + i * 4 + 3, none⟩ = some (.int .i64 a3)) w8 := by
      obtain ⟨⟨f0, f1, f2, f3, f4, f5, f6, f7, f8, f9, f10⟩, x0, x1, x2, x3, x4⟩ := RK.out _ K7.out
      have hn : Q ∉ [B + 1 + 1] := HQB.out
      have hn2 : B + 1 ∉ [B + 1 + 1] := by simp
      have hn3 : gl ∉ [B + 1 + 1] := HGB.out
      exact ⟨⟨Tl.cell_keep k8 f0 hn, Tl.cell_keep k8 f1 hn, Tl.cell_keep k8 f2 hn, Tl.cell_keep k8 f3 hn, Tl.cell_keep k8 f4 hn, Tl.cell_keep k8 f5 hn, Tl.cell_keep k8 f6 hn, Tl.cell_keep k8 f7 hn, Tl.cell_keep k8 f8 hn, Tl.cell_keep k8 f9 hn, Tl.cell_keep k8 f10 hn⟩, Tl.cell_keep k8 x0 hn2, Tl.cell_keep k8 x1 hn3, Tl.cell_keep k8 x2 hn3, Tl.cell_keep k8 x3 hn3, Tl.cell_keep k8 x4 hn3⟩
    refine hK.out _ _ RK8 (fun hHeld => ?_)
    clear hK K RK8
    refine wpAnyH_take (i := 10) (oi := _) (v := ?_) rfl (by kernel_rfl) (by kernel_rfl) (by kernel_rfl) (fun _ _ _ h => h) (Or.inl ⟨by rfl, ?y10⟩) (by assumption) ?r10
    case y10 => (intro w hSw; (try dsimp only at hSw); go_simp; try with_reducible rfl)
    refine wpAnyH_done (by kernel_rfl) ?_ _
    clear hHeld HC7 e8 h8 k8 ho7 k7 RK0
    go_wp2
    refine bodyPost_ret (v := .tuple #[.agg #[.slice bo lnn cb, .int .i64 (i : Int), .int .i64 a0, .int .i64 a1, .int .i64 a2, .int .i64 a3], .int .i64 0]) ?_ rfl ⟨bo, cb, ?_, ?_, K8.out⟩
    · exact Tl.results_two rfl _ _ (B + 1 + 1) 59 _ (0, 0) _ _ rfl H8.out Tryz.underlying59 Tryz.infoC rfl
    · obtain ⟨x0, x1, x2, x3⟩ := EA.out
      rw [ELN.out, ER.out, ← x0, ← x1, ← x2, ← x3]
    · rw [ELN.out]; exact HO8.out
  · exact absurd h0 hE
end Go.Proofs.YthhegomjipbdbaaGreatDoor.Pc

namespace Go.Proofs.YthhegomjipbdbaaGreatDoor.Pc
open Go.RowKit

theorem wdt_mxl (L : List (List Nat)) : Py.wdt L = mxl (lnf L) L.length := by
  unfold Py.wdt
  have : ∀ n, Py.wx (fun j => (L.getD j []).length) n = mxl (lnf L) n := by
    intro n
    induction n with
    | zero => rfl
    | succ n ih => simp only [Py.wx, mxl]; rw [ih]; rfl
  exact this _
/-- Parity rows. -/
def parR (L : List (List Nat)) (p : Nat) : List (List Nat) := (List.range p).map fun i => Py.rg (Py.mk L i) (Py.wdt L)
theorem parR_len (L : List (List Nat)) (p : Nat) : (parR L p).length = p := by simp [parR]
theorem parR_at {L : List (List Nat)} {p i : Nat} (h : i < p) : (parR L p).getD i [] = Py.rg (Py.mk L i) (Py.wdt L) := by
  unfold parR; rw [List.getD_eq_getElem?_getD, List.getElem?_map, List.getElem?_range h]; rfl
theorem parR_byts {L : List (List Nat)} {p i : Nat} (h : i < p) : Byts ((parR L p).getD i []) := by
  rw [parR_at h]
  intro b hb
  simp only [Py.rg, List.mem_map] at hb
  obtain ⟨x, _, rfl⟩ := hb
  exact Py.mk_lt L i x
theorem make_ok (go : Option Addr) (N ca p : Nat) (L : List (List Nat)) (w : World) (hL : Py.MC w go L) (bL : Py.Bm L) (hN : L.length = N) (h1 : N ≤ 200) (hp : p ≤ 16) (hj : ∀ j, j < N → lnf L j ≤ 16777215) (hw : 1 ≤ Py.wdt L) :
    Calls Tryz.prog 95 #[.slice go N ca, .int .i64 (p : Int)] w fun e w' => ∃ ro, e = .returned (.tuple #[.slice ro p p, .int .i64 0]) ∧ ro ≠ none ∧ Py.MC w' ro (parR L p) ∧ (∀ i, i < (parR L p).length → (parR L p).getD i [] ≠ []) ∧ Kept [] w w' := by
  refine (Py.make_any go N ca p L w hL bL hN h1 hp (fun j hj' => Nat.le_trans (hj j hj') (by decide))).mono ?_
  intro e w' h
  have hwd : Py.wdt L ≤ 16777216 := by
    rw [wdt_mxl, hN]
    exact Nat.le_trans (mxl_le hj) (by decide)
  unfold Py.MkPost at h
  rw [if_pos hwd] at h
  obtain ⟨g, B, Z, rfl, hct, hcn, hz, hg, hB, hk⟩ := h
  refine ⟨some ⟨g, 0, none⟩, rfl, by simp, .inr ⟨g, 0, rfl, fun i hi => ?_⟩, fun i hi => ?_, hk⟩
  · rw [parR_len] at hi
    rw [parR_at hi, Py.rg_length, Nat.zero_add]
    refine ⟨_, _, hct.out.at hi, Nat.le_refl _, .inr ⟨B, _, rfl, fun x hx => ?_⟩⟩
    rw [Py.rg_length] at hx
    have hpo : Py.po (fun _ => Py.wdt L) i = Py.ofs (fun _ => Py.wdt L) i := if_neg (show ¬ Py.wdt L = 0 by omega)
    have hlt : Py.ofs (fun _ => Py.wdt L) i + x < Py.ofs (fun _ => Py.wdt L) p := by
      have := Py.ofs_mono (fun _ => Py.wdt L) hi
      omega
    rw [hpo, hct.row.at (by rw [Py.rg_length]; exact hlt), Py.rg_getD _ _ _ hlt, Py.rg_getD _ _ _ hx, hcn i hi x hx]
    rfl
  · rw [parR_len] at hi
    rw [parR_at hi]
    intro h9
    have := Py.rg_length (Py.mk L i) (Py.wdt L)
    rw [h9] at this
    simp at this
    omega
theorem flat_len (L : List (List Nat)) : L.flatten.length = sm (lnf L) L.length := by
  have h : ∀ k, ((L.take k).flatten).length = sm (lnf L) k := by
    intro k
    induction k with
    | zero => rfl
    | succ k ih =>
      rw [List.take_add_one, List.flatten_append, List.length_append, ih]
      simp only [sm, lnf]
      rw [List.getD_eq_getElem?_getD]
      cases L[k]? <;> simp
  have := h L.length
  rwa [List.take_length] at this
theorem recB_len (W H D sw sh : Nat) (A : Bool) (r : Nat → Nat) (p : Nat) (L : List (List Nat)) : (recB W H D sw sh A r p L (parR L p)).length = rcl (lnf L) L.length p := by
  unfold recB rcl
  rw [List.length_append, List.length_append, List.length_append, hdB_len, tbB_len, parR_len, flat_len, flat_len, parR_len]
  have h : sm (lnf (parR L p)) p = p * mxl (lnf L) L.length := by
    rw [← wdt_mxl]
    have : ∀ k, k ≤ p → sm (lnf (parR L p)) k = k * Py.wdt L := by
      intro k
      induction k with
      | zero => intro _; simp [sm]
      | succ k ih =>
        intro hk
        simp only [sm]
        rw [ih (by omega)]
        unfold lnf
        rw [parR_at (by omega), Py.rg_length, Nat.add_mul, Nat.one_mul]
    exact this p (Nat.le_refl _)
  rw [h]; omega
end Go.Proofs.YthhegomjipbdbaaGreatDoor.Pc

namespace Go.Proofs.YthhegomjipbdbaaGreatDoor.Pc
open Go.RowKit

/-- A slice's part of a plane, in natural numbers. -/
def gX (_W sw c : Int) (k q : Nat) : Nat := (Tl.bX (q : Int) (Tl.sX c sw (k : Int))).toNat
def gY (sh c : Int) (k : Nat) : Nat := (Tl.sY c sh (k : Int)).toNat
def gW (W sw c : Int) (k q : Nat) : Nat := (pw W sw c (q : Int) (k : Int)).toNat
def gH (H sh c : Int) (k : Nat) : Nat := (ph H sh c (k : Int)).toNat
/-- Its samples. -/
def gF (W _H sw sh c : Int) (F : Nat → Nat → Nat) (k q i : Nat) : Nat := bsm (F q) (gX W sw c k q) (gY sh c k) (gW W sw c k q) (Tl.wp W (q : Int)).toNat i

theorem part_in {W H sw sh c r : Int} (g : Tl.Gd W H sw sh c r) {k : Nat} (k1 : (k : Int) < c * r) (q : Nat) :
    (gX W sw c k q : Int) = Tl.bX (q : Int) (Tl.sX c sw (k : Int)) ∧ (gY sh c k : Int) = Tl.sY c sh (k : Int) ∧ (gW W sw c k q : Int) = pw W sw c (q : Int) (k : Int) ∧ (gH H sh c k : Int) = ph H sh c (k : Int) ∧
    gX W sw c k q + gW W sw c k q ≤ (Tl.wp W (q : Int)).toNat ∧ gY sh c k + gH H sh c k ≤ H.toNat ∧ 1 ≤ gW W sw c k q ∧ 1 ≤ gH H sh c k := by
  have hx := Tl.sX_in g (k : Int)
  have hy := Tl.sY_in g (by omega : (0 : Int) ≤ k) k1
  have hw := pw_in g (q : Int) (k : Int)
  have hh := ph_in g (by omega : (0 : Int) ≤ k) k1
  have hs := g.s0
  have hb : 0 ≤ Tl.bX (q : Int) (Tl.sX c sw (k : Int)) ∧ Tl.bX (q : Int) (Tl.sX c sw (k : Int)) + pw W sw c (q : Int) (k : Int) ≤ Tl.wp W (q : Int) := by
    unfold pw Tl.bX Tl.bW Tl.wp Tl.hf
    generalize Tl.sX c sw (k : Int) = x at *
    have he := g.se
    split <;> omega
  have hyb : Tl.sY c sh (k : Int) + ph H sh c (k : Int) ≤ H := by unfold ph; omega
  unfold gX gY gW gH
  refine ⟨by omega, by omega, by omega, by omega, by omega, by omega, by omega, by omega⟩
theorem wp_tot {W H D : Int} {A : Bool} (h : Tl.Shp W H D A) {q : Nat} (_hq : q < Tl.np A) : Tl.wp W (q : Int) * H ≤ 4194304 := by
  have ht := h.2.2.2
  have hw := h.1.1
  have hh := h.2.1.1
  have a1 : 0 ≤ W * H := Int.mul_nonneg (by omega) (by omega)
  have a2 : 0 ≤ Tl.hf W * H := Int.mul_nonneg (by have := Tl.hf_lo hw; omega) (by omega)
  unfold Tl.tot at ht
  have a3 : 0 ≤ (if A then W * H else 0) := by split <;> omega
  unfold Tl.wp
  split <;> omega
theorem gF_le {W H D : Int} {A : Bool} {m : Nat} {ln : Nat → Nat} {F : Nat → Nat → Nat} {sw sh c r : Int} (hv : Tl.Vld W H D A m ln F) (g : Tl.Gd W H sw sh c r) {k q i : Nat} (k1 : (k : Int) < c * r) (hq : q < m) (hi : i < gH H sh c k * gW W sw c k q) : gF W H sw sh c F k q i ≤ Tl.mx D := by
  obtain ⟨_, _, _, _, h5, h6, h7, h8⟩ := part_in g k1 q
  have hl := hv.len q hq
  refine hv.top q hq _ ?_
  have hw0 := Tl.wp_lo (q : Int) hv.shp.1.1
  have hh0 := hv.shp.2.1.1
  have hln : ln q = (Tl.wp W (q : Int)).toNat * H.toNat := by
    have : ((Tl.wp W (q : Int)).toNat * H.toNat : Int) = Tl.wp W (q : Int) * H := by
      rw [Int.toNat_of_nonneg (by omega), Int.toNat_of_nonneg (by omega)]
    omega
  rw [hln]
  generalize (Tl.wp W (q : Int)).toNat = wd at *
  generalize H.toNat = ht at *
  generalize gW W sw c k q = b at *
  generalize gH H sh c k = h at *
  generalize gX W sw c k q = X at *
  generalize gY sh c k = Y at *
  have d1 : i / b < h := Nat.div_lt_of_lt_mul (by rw [Nat.mul_comm]; exact hi)
  have d2 : i % b < b := Nat.mod_lt _ (by omega)
  have d3 := row_in (yv := Y + i / b) (wd := wd) (X := X) (bw := b) (M := wd * ht) (ht := ht) (by omega) h5 rfl
  omega
/-- What each slice's planes are coded by. -/
def Cod (W H D : Int) (sw sh c : Int) (N m : Nat) (F : Nat → Nat → Nat) (r : Nat → Int) (X : Nat → Nat → Nat × Nat) : Prop :=
  ∀ k, k < N → ∀ q, q < m → ∃ b, Tell (Tl.mx D : Int) (r q) D (gW W sw c k q) (gH H sh c k) (gH H sh c k * gW W sw c k q) (fz (gH H sh c k * gW W sw c k q) (gF W H sw sh c F k q)) (X k q) b
theorem dp_of {W H D : Int} {A : Bool} (h : Tl.Shp W H D A) : Dp D (Tl.mx D : Int) := by
  rcases h.2.2.1 with rfl | rfl
  · exact .inl ⟨rfl, rfl⟩
  · exact .inr ⟨rfl, rfl⟩
theorem blk_of {W H D : Int} {A : Bool} {m : Nat} {ln : Nat → Nat} {F : Nat → Nat → Nat} {sw sh c r : Int} (hv : Tl.Vld W H D A m ln F) (g : Tl.Gd W H sw sh c r) {k q : Nat} (k1 : (k : Int) < c * r) (hq : q < m) {d : Int} (d0 : 0 ≤ d) (d1 : d ≤ 63) :
    Blk (gW W sw c k q) (gH H sh c k) (gH H sh c k * gW W sw c k q) D (Tl.mx D : Int) d (fz (gH H sh c k * gW W sw c k q) (gF W H sw sh c F k q)) := by
  obtain ⟨_, _, h3, h4, h5, h6, h7, h8⟩ := part_in g k1 q
  have hw := pw_in g (q : Int) (k : Int)
  have hh := ph_in g (by omega : (0 : Int) ≤ k) k1
  have ht := wp_tot hv.shp (by rw [← hv.num]; exact hq)
  have hw0 := Tl.wp_lo (q : Int) hv.shp.1.1
  have hh0 := hv.shp.2.1.1
  refine ⟨?_, Nat.mul_comm _ _, dp_of hv.shp, d0, d1, fun i => ?_⟩
  · unfold szd
    have hm : (gW W sw c k q : Int) * (gH H sh c k : Int) ≤ Tl.wp W (q : Int) * H := Int.mul_le_mul (by omega) (by omega) (by omega) (by omega)
    exact decide_eq_true ⟨by omega, by omega, by omega, by omega, by omega⟩
  · unfold fz
    split
    · rename_i hi
      have := gF_le hv g k1 hq hi
      omega
    · omega
theorem cod_ex {W H D : Int} {A : Bool} {m : Nat} {ln : Nat → Nat} {F : Nat → Nat → Nat} {sw sh c r : Int} (_hv : Tl.Vld W H D A m ln F) (g : Tl.Gd W H sw sh c r) {N : Nat} (hN : (N : Int) ≤ c * r) (rr : Nat → Int) : ∃ X, Cod W H D sw sh c N m F rr X := by
  have h : ∀ k : Nat, ∃ f : Nat → Nat × Nat, k < N → ∀ q, q < m → ∃ b, Tell (Tl.mx D : Int) (rr q) D (gW W sw c k q) (gH H sh c k) (gH H sh c k * gW W sw c k q) (fz (gH H sh c k * gW W sw c k q) (gF W H sw sh c F k q)) (f q) b := fun k => by
    by_cases hk : k < N
    · have h2 : ∀ q : Nat, ∃ x : Nat × Nat, q < m → ∃ b, Tell (Tl.mx D : Int) (rr q) D (gW W sw c k q) (gH H sh c k) (gH H sh c k * gW W sw c k q) (fz (gH H sh c k * gW W sw c k q) (gF W H sw sh c F k q)) x b := fun q => by
        obtain ⟨_, _, _, _, _, _, h7, h8⟩ := part_in g (k := k) (by omega) q
        obtain ⟨x, b, hx⟩ := tell_ex (T := (Tl.mx D : Int)) (d := rr q) (D := D) (W := gW W sw c k q) (H := gH H sh c k) (n := gH H sh c k * gW W sw c k q) (fz (gH H sh c k * gW W sw c k q) (gF W H sw sh c F k q)) h7 (Nat.mul_comm _ _) (Nat.mul_pos (by omega) (by omega))
        exact ⟨x, fun _ => ⟨b, hx⟩⟩
      obtain ⟨f, hf⟩ := Classical.axiomOfChoice h2
      exact ⟨f, fun _ => hf⟩
    · exact ⟨fun _ => (0, 0), fun h => absurd h hk⟩
  obtain ⟨X, hX⟩ := Classical.axiomOfChoice h
  exact ⟨X, fun k hk => hX k hk⟩
end Go.Proofs.YthhegomjipbdbaaGreatDoor.Pc

namespace Go.Proofs.YthhegomjipbdbaaGreatDoor.Pc
open Go.RowKit

theorem sm_cast (l : Nat → Nat) (n : Nat) : (sm l n : Int) = sI (fun i => (l i : Int)) n := by
  induction n with
  | zero => rfl
  | succ n ih => simp only [sm, sI]; rw [← ih]; omega
theorem sI_mulL (f : Nat → Int) (x : Int) (n : Nat) : sI (fun i => x * f i) n = x * sI f n := by
  induction n with
  | zero => simp [sI]
  | succ n ih => simp only [sI]; rw [ih, Int.mul_add]
theorem sI_swap (f : Nat → Nat → Int) (n m : Nat) : sI (fun k => sI (f k) m) n = sI (fun q => sI (fun k => f k q) n) m := by
  induction n with
  | zero =>
    have : sI (fun _ => (0 : Int)) m = 0 := by rw [sI_const]; simp
    exact this.symm
  | succ n ih => simp only [sI]; rw [ih, ← sI_plus]
/-- How many bytes a plane's part, a payload has at most. -/
def pz (D w h : Int) : Int := 4 + (D * w * h + 7) / 8
def pzs (W H D sw sh c : Int) (m k : Nat) : Int := sI (fun q => pz D (pw W sw c (q : Int) (k : Int)) (ph H sh c (k : Int))) m
theorem pz_le {D w h : Int} (hD : D = 10 ∨ D = 12) (hw : 0 ≤ w * h) : 0 ≤ pz D w h ∧ 2 * pz D w h ≤ 10 + 3 * (w * h) := by
  unfold pz
  rw [Int.mul_assoc]
  generalize w * h = z at *
  rcases hD with rfl | rfl <;> omega
theorem tot_sum (W H : Int) (A : Bool) : sI (fun q => Tl.wp W (q : Int) * H) (Tl.np A) = Tl.tot W H A := by
  cases A
  · show (0 + Tl.wp W ((0 : Nat) : Int) * H + Tl.wp W ((1 : Nat) : Int) * H + Tl.wp W ((2 : Nat) : Int) * H) = _
    simp [Tl.wp, Tl.tot]
  · show (0 + Tl.wp W ((0 : Nat) : Int) * H + Tl.wp W ((1 : Nat) : Int) * H + Tl.wp W ((2 : Nat) : Int) * H + Tl.wp W ((3 : Nat) : Int) * H) = _
    simp [Tl.wp, Tl.tot]
theorem pzs_le {W H D sw sh c r : Int} {A : Bool} (hs : Tl.Shp W H D A) (g : Tl.Gd W H sw sh c r) {k : Nat} (k1 : (k : Int) < c * r) : 0 ≤ pzs W H D sw sh c (Tl.np A) k ∧ 2 * pzs W H D sw sh c (Tl.np A) k ≤ 40 + 3 * Tl.tot W H A := by
  have hq : ∀ q : Nat, q < Tl.np A → 0 ≤ pw W sw c (q : Int) (k : Int) * ph H sh c (k : Int) ∧ pw W sw c (q : Int) (k : Int) * ph H sh c (k : Int) ≤ Tl.wp W (q : Int) * H := fun q _ => by
    obtain ⟨_, _, h3, h4, h5, h6, h7, h8⟩ := part_in g k1 q
    have hw := pw_in g (q : Int) (k : Int)
    have hh := ph_in g (by omega : (0 : Int) ≤ k) k1
    exact ⟨Int.mul_nonneg (by omega) (by omega), Int.mul_le_mul (by omega) (by omega) (by omega) (by have := Tl.wp_lo (q : Int) hs.1.1; omega)⟩
  constructor
  · exact sI_nn (fun q hm => (pz_le hs.2.2.1 (hq q hm).1).1)
  · have h1 : sI (fun q => 2 * pz D (pw W sw c (q : Int) (k : Int)) (ph H sh c (k : Int))) (Tl.np A) ≤ sI (fun q => 10 + 3 * (Tl.wp W (q : Int) * H)) (Tl.np A) := sI_le (fun q hm => by
      have := (pz_le hs.2.2.1 (hq q hm).1).2
      have := (hq q hm).2
      omega)
    have e1 : sI (fun q => 2 * pz D (pw W sw c (q : Int) (k : Int)) (ph H sh c (k : Int))) (Tl.np A) = 2 * pzs W H D sw sh c (Tl.np A) k := by
      rw [sI_mulL]; rfl
    have e2 : sI (fun q => 10 + 3 * (Tl.wp W (q : Int) * H)) (Tl.np A) = 10 * (Tl.np A : Int) + 3 * Tl.tot W H A := by
      rw [sI_plus, sI_const, ← tot_sum]
      rw [sI_mulL]; omega
    have h4 := Tl.np_hi A
    omega
/-- All payloads together. -/
theorem pzs_sum {W H D sw sh c r : Int} {A : Bool} (hs : Tl.Shp W H D A) (g : Tl.Gd W H sw sh c r) : 2 * sI (fun k => pzs W H D sw sh c (Tl.np A) k) (c * r).toNat ≤ 40 * ((c * r).toNat : Int) + 3 * Tl.tot W H A := by
  have hc : ∀ k : Nat, k < (c * r).toNat → (k : Int) < c * r := fun k hk => by omega
  have e1 : 2 * sI (fun k => pzs W H D sw sh c (Tl.np A) k) (c * r).toNat = sI (fun k => sI (fun q => 2 * pz D (pw W sw c (q : Int) (k : Int)) (ph H sh c (k : Int))) (Tl.np A)) (c * r).toNat := by
    rw [← sI_mulL]
    refine sI_congr (fun k _ => ?_)
    rw [sI_mulL]; rfl
  have h1 : sI (fun k => sI (fun q => 2 * pz D (pw W sw c (q : Int) (k : Int)) (ph H sh c (k : Int))) (Tl.np A)) (c * r).toNat ≤ sI (fun k => sI (fun q => 10 + 3 * (pw W sw c (q : Int) (k : Int) * ph H sh c (k : Int))) (Tl.np A)) (c * r).toNat := sI_le (fun k hk => sI_le (fun q _ => by
    have hw := pw_in g (q : Int) (k : Int)
    have hh := ph_in g (by omega : (0 : Int) ≤ k) (hc k hk)
    exact (pz_le hs.2.2.1 (Int.mul_nonneg (by omega) (by omega))).2))
  have e2 : sI (fun k => sI (fun q => 10 + 3 * (pw W sw c (q : Int) (k : Int) * ph H sh c (k : Int))) (Tl.np A)) (c * r).toNat = sI (fun q => 10 * ((c * r).toNat : Int) + 3 * (Tl.wp W (q : Int) * H)) (Tl.np A) := by
    rw [sI_swap (fun k q => 10 + 3 * (pw W sw c (q : Int) (k : Int) * ph H sh c (k : Int)))]
    refine sI_congr (fun q _ => ?_)
    rw [sI_plus, sI_const]
    rw [sI_mulL, parts_sum g]; omega
  have e3 : sI (fun q => 10 * ((c * r).toNat : Int) + 3 * (Tl.wp W (q : Int) * H)) (Tl.np A) = (Tl.np A : Int) * (10 * ((c * r).toNat : Int)) + 3 * Tl.tot W H A := by
    rw [sI_plus, sI_const, ← tot_sum]
    rw [sI_mulL]
  have h4 := Tl.np_hi A
  have h5 : (Tl.np A : Int) * (10 * ((c * r).toNat : Int)) ≤ 4 * (10 * ((c * r).toNat : Int)) := Int.mul_le_mul_of_nonneg_right (by omega) (by omega)
  omega
end Go.Proofs.YthhegomjipbdbaaGreatDoor.Pc
