import Derived.Test.YthkpligodbkofaaGreatDoorpOZ
namespace Go.Proofs.YthkpligodbkofaaGreatDoor.Pc
open Go.RowKit

/-- What Encode comes to. -/
def EnPost (w : World) (E : Int) (n : Nat) (L : Nat → Nat → Int) (LN : Nat → Nat) (RB : Nat → List Nat) (cap : Int) (e : Ending) (w' : World) : Prop :=
  (E = 0 ∧ ClPost w n L LN RB (if cap = 0 then 134217727 else cap) e w') ∨
  (E ≠ 0 ∧ e = .returned (.tuple #[cdv (.slice none 0 0) 0 (fun _ => 0), .int .i64 E]) ∧ Kept [] w w')
theorem ClPost.of {w w0 w1 w' : World} {n : Nat} {L : Nat → Nat → Int} {LN : Nat → Nat} {RB : Nat → List Nat} {most : Int} {B : Nat} {v z : Value} (h : ClPost w1 n L LN RB most (.returned (.tuple #[v, z])) w) (k1 : Kept [] w0 w1) (hk : Kept [B] w w') (hB : B < w1.heap.size) (hB0 : w0.heap.size ≤ B) : ClPost w0 n L LN RB most (.returned (.tuple #[v, z])) w' := by
  have hKK : ∀ {u}, Kept [] w1 u → u = w → Kept [] w0 w' := fun k e => by subst e; exact (k1.trans k).step hk (fun x hx => by simp at hx; subst hx; exact .inr hB0)
  rcases h with ⟨i, h1, h2, h3, bo, c, h4, h5, h6⟩ | ⟨h1, h2, h3⟩
  · exact .inl ⟨i, h1, h2, h3, bo, c, h4, own_base (hk.row h5 (fun b hb => by have := (own_lo h5 hb).1; simp only [List.mem_singleton]; omega)) k1.size, hKK h6 rfl⟩
  · exact .inr ⟨h1, h2, hKK h3 rfl⟩
theorem ClPost.form {w w' : World} {n : Nat} {L : Nat → Nat → Int} {LN : Nat → Nat} {RB : Nat → List Nat} {most : Int} {e : Ending} (h : ClPost w n L LN RB most e w') : ∃ (V : Value) (i : Int) (a0 a1 a2 a3 z : Int), e = .returned (.tuple #[.agg #[V, .int .i64 i, .int .i64 a0, .int .i64 a1, .int .i64 a2, .int .i64 a3], .int .i64 z]) ∧ (∃ bo n c, V = .slice bo n c) ∧ Kept [] w w' := by
  rcases h with ⟨i, h1, h2, h3, bo, c, h4, h5, h6⟩ | ⟨h1, h2, h3⟩
  · exact ⟨_, _, _, _, _, _, _, h4, ⟨_, _, _, rfl⟩, h6⟩
  · exact ⟨_, _, _, _, _, _, _, h2, ⟨_, _, _, rfl⟩, h3⟩

set_option maxHeartbeats 8000000 in
set_option maxRecDepth 1000000 in
theorem Encode_any (W H D : Int) (A : Bool) (po : Option Addr) (m d : Nat) (ln : Nat → Nat) (F : Nat → Nat → Nat) (sw sh : Int) (lo : Option Addr) (n c : Nat) (L : Nat → Nat → Int) (cap p : Int) (pn N : Nat) (LN : Nat → Nat) (PS : Nat → List (List Nat)) (RB : Nat → List Nat) (w : World)
    (hP : Tl.Pl w po m ln F) (hm : m ≤ 9223372036854775807) (hln : ∀ i, i < m → ln i ≤ 9223372036854775807) (hL : Ldr w lo n L) (hn : n ≤ 9223372036854775807) (s0 : -9223372036854775808 ≤ sw) (s1 : sw ≤ 9223372036854775807) (hp : jbE W H D A m ln F sw sh n L cap p = 0 → p = (pn : Int) ∧ n ≤ 1000)
    (HW : jbE W H D A m ln F sw sh n L cap p = 0 → ∀ u P, Kept [] w u → Tl.Gr u P W H D A sw sh (Tl.cl W sw) (Tl.cl H sh) → Jw u W H D A po m d sw sh lo n c cap pn P N L LN PS RB) :
    Calls Tryz.prog 17 #[Tl.frv W H D A po m d, cfv sw sh lo n c cap p] w fun e w' => EnPost w (jbE W H D A m ln F sw sh n L cap p) n L LN RB cap e w' := by
  obtain ⟨w1, e1⟩ : ∃ w1, w.alloc (.cells #[.int .i64 W, .int .i64 H, .int .i64 D, .bool A, .slice po m d] 38 (0, 0)) = w1 := ⟨_, rfl⟩
  obtain ⟨w2, e2⟩ : ∃ w2, w1.alloc (.cells #[.int .i64 sw, .int .i64 sh, .slice lo n c, .int .i64 cap, .int .i64 p] 24 (0, 0)) = w2 := ⟨_, rfl⟩
  obtain ⟨w3, e3⟩ : ∃ w3, w2.alloc (.cells #[.slice none 0 0, .int .i64 0, .int .i64 0, .int .i64 0, .int .i64 0, .int .i64 0] 45 (0, 0)) = w3 := ⟨_, rfl⟩
  obtain ⟨B, eB⟩ : ∃ B, w.heap.size = B := ⟨_, rfl⟩
  have z1 : w1.heap.size = B + 1 := by rw [← e1, ← eB]; exact Array.size_push _
  have z2 : w2.heap.size = B + 1 + 1 := by rw [← z1, ← e2]; exact Array.size_push _
  have k1 : Kept [] w w1 := by rw [← e1]; exact (Kept.refl [] w).alloc _
  have k2 : Kept [] w1 w2 := by rw [← e2]; exact (Kept.refl [] w1).alloc _
  have k3 : Kept [] w2 w3 := by rw [← e3]; exact (Kept.refl [] w2).alloc _
  have HF := Hid.mk ((k2.trans k3).heap (show w1.heap[B]? = some (.cells #[.int .i64 W, .int .i64 H, .int .i64 D, .bool A, .slice po m d] 38 (0, 0)) by rw [← e1, ← eB]; exact heap_alloc_new _ _) (by simp))
  have HC := Hid.mk (k3.heap (show w2.heap[B + 1]? = some (.cells #[.int .i64 sw, .int .i64 sh, .slice lo n c, .int .i64 cap, .int .i64 p] 24 (0, 0)) by rw [← e2, ← z1]; exact heap_alloc_new _ _) (by simp))
  have HR := Hid.mk (show w3.heap[B + 1 + 1]? = some (.cells #[.slice none 0 0, .int .i64 0, .int .i64 0, .int .i64 0, .int .i64 0, .int .i64 0] 45 (0, 0)) by rw [← e3, ← z2]; exact heap_alloc_new _ _)
  have K3 := Hid.mk ((k1.trans k2).trans k3)
  have CJ := Hid.mk (newJob_any W H D A po m d ln F sw sh lo n c L cap p w3 (hP.keep K3.out) hm hln (hL.keep K3.out) hn s0 s1)
  have HL := Hid.mk hL
  have HWW := Hid.mk HW
  have HPP := Hid.mk hp
  have HB := Hid.mk eB
  obtain ⟨f0, f1, f2, f3, f4⟩ := cel5 HF.out
  obtain ⟨q0, q1, q2, q3, q4⟩ := cel5 HC.out
  obtain ⟨E, eE⟩ : ∃ E, jbE W H D A m ln F sw sh n L cap p = E := ⟨_, rfl⟩
  rw [eE] at CJ HWW HPP ⊢
  clear hP hm hln hL hn s0 s1 hp HW k1 k2 k3 eE
  go_enter Tryz.func17, Tryz.ntmps17
  go_wp2_with (fail)
  clear e1 e2 e3 z1 z2 eB
  refine CJ.out.mono ?_
  rintro e w4 h4
  clear f0 f1 f2 f3 f4 q0 q1 q2 q3 q4
  rcases h4 with ⟨hE, P, rfl, K4, hP, hG⟩ | ⟨hE, rfl, K4⟩
  · obtain ⟨w5, e5⟩ : ∃ w5, w4.alloc (.cells #[.int .i64 W, .int .i64 H, .int .i64 D, .bool A, .slice po m d, .int .i64 sw, .int .i64 sh, .slice lo n c, .int .i64 cap, .int .i64 p, .pointer (some ⟨P, 0, none⟩)] 97 (0, 0)) = w5 := ⟨_, rfl⟩
    have k5 : Kept [] w4 w5 := by rw [← e5]; exact (Kept.refl [] w4).alloc _
    obtain ⟨j0, j1, j2, j3, j4, j5, j6, j7, j8, j9, j10⟩ := cel11 (show w5.heap[w4.heap.size]? = _ by rw [← e5]; exact heap_alloc_new _ _)
    have K5 := Hid.mk (K4.trans k5)
    have hE2 := hE
    obtain ⟨hpn, hn9⟩ := HPP.out hE
    have HE := Hid.mk hE
    have HJW := Hid.mk (HWW.out hE w5 P (K3.out.trans K5.out) (hG.keep k5 (by simp)))
    have HLw := HL.out.keep (K3.out.trans K5.out)
    subst hpn
    have CL : Hid (∀ most, Calls Tryz.prog 45 #[.slice lo n c, .int .i64 most, .func (.func 43) #[jbv W H D A po m d sw sh lo n c cap (pn : Int) (some ⟨P, 0, none⟩)] #[]] w5 fun e w' => ClPost w5 n L LN RB most e w') := Hid.mk (fun most => climb_any W H D A po m d sw sh lo n c cap pn P N L LN PS RB most w5 HJW.out HLw hn9)
    obtain ⟨q0, q1, q2, q3, q4⟩ := cel5 (K5.out.heap HC.out (by simp))
    have fin : Hid (∀ most, (if cap = 0 then 134217727 else cap) = most → ∀ (e : Ending) (u : World), ClPost w5 n L LN RB most e u → ∃ V i a0 a1 a2 a3 z, e = .returned (.tuple #[.agg #[V, .int .i64 i, .int .i64 a0, .int .i64 a1, .int .i64 a2, .int .i64 a3], .int .i64 z]) ∧ (∃ bo n c, V = .slice bo n c) ∧ Kept [] w5 u ∧ ∀ u', Kept [B + 1 + 1] u u' → EnPost w E n L LN RB cap e u') := Hid.mk (fun most hmost e u hcl => by
      obtain ⟨V, i, a0, a1, a2, a3, z, rfl, hv, hk⟩ := hcl.form
      refine ⟨V, i, a0, a1, a2, a3, z, rfl, hv, hk, fun u' hu => .inl ⟨HE.out, ?_⟩⟩
      rw [hmost]
      exact hcl.of (K3.out.trans K5.out) hu (Nat.lt_of_lt_of_le (lt_of_block HR.out) K5.out.size) (by have := HB.out; omega))
    clear K4 hP hG k5 hE hE2 HLw hn9 CJ HPP HWW HJW
    by_cases hcap : cap = 0
    · subst hcap
      go_wp2_with (fail)
      clear e5 j0 j1 j2 j3 j4 j5 j6 j7 j8 j9 j10 q0 q1 q2 q3 q4
      refine (CL.out 134217727).mono ?_
      rintro e w6 h6
      obtain ⟨V, i, a0, a1, a2, a3, z, rfl, ⟨bo, vn, vc, rfl⟩, k6, hfin⟩ := fin.out 134217727 (by simp) _ _ h6
      have hC := (K5.out.trans k6).heap HR.out (by simp)
      have S9 := setAll_row [.slice bo vn vc, .int .i64 i, .int .i64 a0, .int .i64 a1, .int .i64 a2, .int .i64 a3] 0 w6 [] _ hC rfl rfl
      simp only [setAll] at S9
      have HFN := Hid.mk (hfin _ S9.2)
      have S9 := Hid.mk S9
      obtain ⟨d0, d1, d2, d3, d4, d5⟩ := cel6 hC
      have dz := row_fz hC
      clear hC k6 hfin h6 fin CL
      go_wp2
      refine bodyPost_ret (v := .tuple #[.agg #[.slice bo vn vc, .int .i64 i, .int .i64 a0, .int .i64 a1, .int .i64 a2, .int .i64 a3], .int .i64 z]) ?_ rfl HFN.out
      exact Tl.results_two rfl _ _ (B + 1 + 1) 45 _ (0, 0) _ _ rfl S9.out.1 Tryz.underlying45 Tryz.infoC rfl
    · have hc0 : (cap == 0) = false := by simpa using hcap
      have HCP := Hid.mk hcap
      clear hcap
      go_wp2_with (fail)
      clear e5 j0 j1 j2 j3 j4 j5 j6 j7 j8 j9 j10 q0 q1 q2 q3 q4
      refine (CL.out cap).mono ?_
      rintro e w6 h6
      obtain ⟨V, i, a0, a1, a2, a3, z, rfl, ⟨bo, vn, vc, rfl⟩, k6, hfin⟩ := fin.out _ (if_neg HCP.out) _ _ h6
      have hC := (K5.out.trans k6).heap HR.out (by simp)
      have S9 := setAll_row [.slice bo vn vc, .int .i64 i, .int .i64 a0, .int .i64 a1, .int .i64 a2, .int .i64 a3] 0 w6 [] _ hC rfl rfl
      simp only [setAll] at S9
      have HFN := Hid.mk (hfin _ S9.2)
      have S9 := Hid.mk S9
      obtain ⟨d0, d1, d2, d3, d4, d5⟩ := cel6 hC
      have dz := row_fz hC
      clear hC k6 hfin h6 fin CL
      go_wp2
      refine bodyPost_ret (v := .tuple #[.agg #[.slice bo vn vc, .int .i64 i, .int .i64 a0, .int .i64 a1, .int .i64 a2, .int .i64 a3], .int .i64 z]) ?_ rfl HFN.out
      exact Tl.results_two rfl _ _ (B + 1 + 1) 45 _ (0, 0) _ _ rfl S9.out.1 Tryz.underlying45 Tryz.infoC rfl
  · have hk4 := K4
    have K4 := Hid.mk (K3.out.trans K4)
    have hE0 : (E == 0) = false := by simpa using hE
    have HE := Hid.mk hE
    go_upto_if 16 with (fail)
    obtain ⟨w5, e5⟩ : ∃ w5, w4.alloc (.cells #[.int .i64 0, .int .i64 0, .int .i64 0, .bool false, .slice none 0 0, .int .i64 0, .int .i64 0, .slice none 0 0, .int .i64 0, .int .i64 0, .pointer none] 97 (0, 0)) = w5 := ⟨_, rfl⟩
    rw [e5]
    have k5 : Kept [] w4 w5 := by rw [← e5]; exact (Kept.refl [] w4).alloc _
    clear e5
    have hC := (‹Kept [] w3 w4›.trans k5).heap HR.out (by simp)
    have S9 := setAll_row [.slice none 0 0, .int .i64 0, .int .i64 0, .int .i64 0, .int .i64 0, .int .i64 0] 0 w5 [] _ hC rfl rfl
    simp only [setAll] at S9
    have S9 := Hid.mk S9
    obtain ⟨d0, d1, d2, d3, d4, d5⟩ := cel6 hC
    have dz := row_fz hC
    have K5 := Hid.mk (K4.out.trans k5)
    clear hC k5 hE
    go_wp2
    refine bodyPost_ret (v := .tuple #[cdv (.slice none 0 0) 0 (fun _ => 0), .int .i64 E]) ?_ rfl (.inr ⟨HE.out, rfl, ?_⟩)
    · exact Tl.results_two rfl _ _ (B + 1 + 1) 45 _ (0, 0) _ _ rfl S9.out.1 Tryz.underlying45 Tryz.infoC rfl
    · exact K5.out.step S9.out.2 (fun x hx => by simp at hx; subst hx; exact .inr (by have := HB.out; omega))

end Go.Proofs.YthkpligodbkofaaGreatDoor.Pc

namespace Go.Proofs.YthkpligodbkofaaGreatDoor.Pc
open Go.RowKit

set_option maxHeartbeats 8000000 in
set_option maxRecDepth 1000000 in
theorem At_ok (W H D : Int) (A : Bool) (po : Option Addr) (m d : Nat) (ln : Nat → Nat) (F : Nat → Nat → Nat) (sw sh : Int) (lo : Option Addr) (n c : Nat) (L : Nat → Nat → Int) (cap p : Int) (pn N : Nat) (LN : Nat → Nat) (PS : Nat → List (List Nat)) (RB : Nat → List Nat) (i : Nat) (w : World)
    (hP : Tl.Pl w po m ln F) (hm : m ≤ 9223372036854775807) (hln : ∀ i, i < m → ln i ≤ 9223372036854775807) (hL : Ldr w lo n L) (hn : n ≤ 9223372036854775807) (s0 : -9223372036854775808 ≤ sw) (s1 : sw ≤ 9223372036854775807) (hp : jbE W H D A m ln F sw sh n L cap p = 0 → p = (pn : Int) ∧ n ≤ 1000)
    (HW : jbE W H D A m ln F sw sh n L cap p = 0 → ∀ u P, Kept [] w u → Tl.Gr u P W H D A sw sh (Tl.cl W sw) (Tl.cl H sh) → Jw u W H D A po m d sw sh lo n c cap pn P N L LN PS RB) (h0 : jbE W H D A m ln F sw sh n L cap p = 0) (hi : i < n) :
    Calls Tryz.prog 15 #[Tl.frv W H D A po m d, cfv sw sh lo n c cap p, .int .i64 (i : Int)] w fun e w' => ∃ bo c, e = .returned (.tuple #[cdv (.slice bo (LN i) c) (i : Int) (L i), .int .i64 0]) ∧ w'.ownsRow w.heap.size 5 1 (.slice bo (LN i) c) (LN i) ((RB i).map byt) ∧ Kept [] w w' := by
  obtain ⟨w1, e1⟩ : ∃ w1, w.alloc (.cells #[.int .i64 W, .int .i64 H, .int .i64 D, .bool A, .slice po m d] 38 (0, 0)) = w1 := ⟨_, rfl⟩
  obtain ⟨w2, e2⟩ : ∃ w2, w1.alloc (.cells #[.int .i64 sw, .int .i64 sh, .slice lo n c, .int .i64 cap, .int .i64 p] 24 (0, 0)) = w2 := ⟨_, rfl⟩
  obtain ⟨w3, e3⟩ : ∃ w3, w2.alloc (.cells #[.slice none 0 0, .int .i64 0, .int .i64 0, .int .i64 0, .int .i64 0, .int .i64 0] 45 (0, 0)) = w3 := ⟨_, rfl⟩
  obtain ⟨B, eB⟩ : ∃ B, w.heap.size = B := ⟨_, rfl⟩
  have z1 : w1.heap.size = B + 1 := by rw [← e1, ← eB]; exact Array.size_push _
  have z2 : w2.heap.size = B + 1 + 1 := by rw [← z1, ← e2]; exact Array.size_push _
  have k1 : Kept [] w w1 := by rw [← e1]; exact (Kept.refl [] w).alloc _
  have k2 : Kept [] w1 w2 := by rw [← e2]; exact (Kept.refl [] w1).alloc _
  have k3 : Kept [] w2 w3 := by rw [← e3]; exact (Kept.refl [] w2).alloc _
  have HF := Hid.mk ((k2.trans k3).heap (show w1.heap[B]? = some (.cells #[.int .i64 W, .int .i64 H, .int .i64 D, .bool A, .slice po m d] 38 (0, 0)) by rw [← e1, ← eB]; exact heap_alloc_new _ _) (by simp))
  have HC := Hid.mk (k3.heap (show w2.heap[B + 1]? = some (.cells #[.int .i64 sw, .int .i64 sh, .slice lo n c, .int .i64 cap, .int .i64 p] 24 (0, 0)) by rw [← e2, ← z1]; exact heap_alloc_new _ _) (by simp))
  have HR := Hid.mk (show w3.heap[B + 1 + 1]? = some (.cells #[.slice none 0 0, .int .i64 0, .int .i64 0, .int .i64 0, .int .i64 0, .int .i64 0] 45 (0, 0)) by rw [← e3, ← z2]; exact heap_alloc_new _ _)
  have K3 := Hid.mk ((k1.trans k2).trans k3)
  have CJ := Hid.mk (newJob_any W H D A po m d ln F sw sh lo n c L cap p w3 (hP.keep K3.out) hm hln (hL.keep K3.out) hn s0 s1)
  have HL := Hid.mk hL
  have HWW := Hid.mk HW
  have HPP := Hid.mk hp
  have HB := Hid.mk eB
  obtain ⟨f0, f1, f2, f3, f4⟩ := cel5 HF.out
  obtain ⟨q0, q1, q2, q3, q4⟩ := cel5 HC.out
  obtain ⟨E, eE⟩ : ∃ E, jbE W H D A m ln F sw sh n L cap p = E := ⟨_, rfl⟩
  rw [eE] at CJ HWW HPP h0
  clear hP hm hln hL hn s0 s1 hp HW k1 k2 k3 eE
  have ii : (i : Int) < (n : Int) := by omega
  have HII := Hid.mk hi
  clear hi
  go_enter Tryz.func15, Tryz.ntmps15
  go_wp2_with (fail)
  clear e1 e2 e3 z1 z2 eB
  refine CJ.out.mono ?_
  rintro e w4 h4
  clear f0 f1 f2 f3 f4 q0 q1 q2 q3 q4
  rcases h4 with ⟨hE, P, rfl, K4, hP, hG⟩ | ⟨hE, rfl, K4⟩
  · obtain ⟨hpn, hn9⟩ := HPP.out hE
    subst hpn
    obtain ⟨w5, e5⟩ : ∃ w5, w4.alloc (.cells #[.int .i64 W, .int .i64 H, .int .i64 D, .bool A, .slice po m d, .int .i64 sw, .int .i64 sh, .slice lo n c, .int .i64 cap, .int .i64 (pn : Int), .pointer (some ⟨P, 0, none⟩)] 97 (0, 0)) = w5 := ⟨_, rfl⟩
    have k5 : Kept [] w4 w5 := by rw [← e5]; exact (Kept.refl [] w4).alloc _
    obtain ⟨Q, eQ⟩ : ∃ Q, w4.heap.size = Q := ⟨_, rfl⟩
    have hJ5 : w5.heap[Q]? = some (.cells #[.int .i64 W, .int .i64 H, .int .i64 D, .bool A, .slice po m d, .int .i64 sw, .int .i64 sh, .slice lo n c, .int .i64 cap, .int .i64 (pn : Int), .pointer (some ⟨P, 0, none⟩)] 97 (0, 0)) := by rw [← e5, ← eQ]; exact heap_alloc_new _ _
    have K5 := Hid.mk (K4.trans k5)
    have HJW := Hid.mk (HWW.out hE w5 P (K3.out.trans K5.out) (hG.keep k5 (by simp)))
    obtain ⟨gl, off, rfl, l0, l1, l2, l3⟩ := (HL.out.keep (K3.out.trans K5.out)).at HII.out
    have C1 := Hid.mk (fun u ku => HJW.out.tr i HII.out u ku)
    have C2 := Hid.mk (fun u g ku hm => HJW.out.cd i HII.out u g ku hm)
    obtain ⟨rr, er⟩ : ∃ rr, L i = rr := ⟨_, rfl⟩
    rw [er] at C1 C2 l0 l1 l2 l3
    have ER := Hid.mk er
    obtain ⟨lnn, eln⟩ : ∃ ln, LN i = ln := ⟨_, rfl⟩
    rw [eln] at C1 C2
    have ELN := Hid.mk eln
    obtain ⟨a0, g0⟩ : ∃ a, rr 0 = a := ⟨_, rfl⟩
    obtain ⟨a1, g1⟩ : ∃ a, rr 1 = a := ⟨_, rfl⟩
    obtain ⟨a2, g2⟩ : ∃ a, rr 2 = a := ⟨_, rfl⟩
    obtain ⟨a3, g3⟩ : ∃ a, rr 3 = a := ⟨_, rfl⟩
    simp only [rgv, dfv, cdv, jbv, g0, g1, g2, g3] at C1 C2 l0 l1 l2 l3
    have EA : Hid (rr 0 = a0 ∧ rr 1 = a1 ∧ rr 2 = a2 ∧ rr 3 = a3) := Hid.mk ⟨g0, g1, g2, g3⟩
    have RK : Hid (∀ u, Kept [] w5 u → (u.cell? ⟨Q, 0, none⟩ = some (.int .i64 W) ∧ u.cell? ⟨Q, 1, none⟩ = some (.int .i64 H) ∧ u.cell? ⟨Q, 2, none⟩ = some (.int .i64 D) ∧ u.cell? ⟨Q, 3, none⟩ = some (.bool A) ∧ u.cell? ⟨Q, 4, none⟩ = some (.slice po m d) ∧ u.cell? ⟨Q, 5, none⟩ = some (.int .i64 sw) ∧ u.cell? ⟨Q, 6, none⟩ = some (.int .i64 sh) ∧ u.cell? ⟨Q, 7, none⟩ = some (.slice (some ⟨gl, off, none⟩) n c) ∧ u.cell? ⟨Q, 8, none⟩ = some (.int .i64 cap) ∧ u.cell? ⟨Q, 9, none⟩ = some (.int .i64 (pn : Int)) ∧ u.cell? ⟨Q, 10, none⟩ = some (.pointer (some ⟨P, 0, none⟩))) ∧ u.cell? ⟨B + 1, 2, none⟩ = some (.slice (some ⟨gl, off, none⟩) n c) ∧ u.cell? ⟨gl, off + i * 4, none⟩ = some (.int .i64 a0) ∧ u.cell? ⟨gl, off + i * 4 + 1, none⟩ = some (.int .i64 a1) ∧ u.cell? ⟨gl, off + i * 4 + 2, none⟩ = some (.int .i64 a2) ∧ u.cell? ⟨gl, off + i * 4 + 3, none⟩ = some (.int .i64 a3)) := Hid.mk (fun u ku => ⟨cel11 (ku.heap hJ5 (by simp)), cellAt (i := 2) ((K5.out.trans ku).heap HC.out (by simp)) rfl, Tl.cell_keep ku l0 (by simp), Tl.cell_keep ku l1 (by simp), Tl.cell_keep ku l2 (by simp), Tl.cell_keep ku l3 (by simp)⟩)
    have RK0 := RK.out w5 (Kept.refl _ _)
    have HQB : Hid (Q ∉ [B + 1 + 1]) := Hid.mk (by
      have h9 := Nat.lt_of_lt_of_le (lt_of_block HR.out) K4.size
      simp only [List.mem_singleton]
      omega)
    have HGB : Hid (gl ∉ [B + 1 + 1]) := Hid.mk (by
      obtain ⟨g', o', eg', hcc⟩ : ∃ g' o', (some (⟨gl, off, none⟩ : Addr)) = some ⟨g', o', none⟩ ∧ w.cell? ⟨g', o' + i * 4, none⟩ = some (.int .i64 (L i 0)) := by
        obtain ⟨a, b, c, d, _⟩ := HL.out.at HII.out
        exact ⟨a, b, c, d⟩
      cases eg'
      have h9 := World.block_lt_of_cell? w _ hcc
      have h9 : gl < w.heap.size := h9
      have h10 := HB.out
      simp only [List.mem_singleton]
      omega)
    have q2 := RK0.2.1
    have i0 : decide ((i : Int) < 0) = false := by simp
    have i1 : decide ((n : Int) ≤ (i : Int)) = false := by simp; exact HII.out
    clear K4 hP hG k5 hE er eln g0 g1 g2 g3 hJ5 l0 l1 l2 l3 CJ HWW HPP HJW hn9
    go_wp2_with (fail)
    clear e5 eQ q2
    refine wp_region_held_drew (S := fun u => (u.cell? ⟨Q, 0, none⟩ = some (.int .i64 W) ∧ u.cell? ⟨Q, 1, none⟩ = some (.int .i64 H) ∧ u.cell? ⟨Q, 2, none⟩ = some (.int .i64 D) ∧ u.cell? ⟨Q, 3, none⟩ = some (.bool A) ∧ u.cell? ⟨Q, 4, none⟩ = some (.slice po m d) ∧ u.cell? ⟨Q, 5, none⟩ = some (.int .i64 sw) ∧ u.cell? ⟨Q, 6, none⟩ = some (.int .i64 sh) ∧ u.cell? ⟨Q, 7, none⟩ = some (.slice (some ⟨gl, off, none⟩) n c) ∧ u.cell? ⟨Q, 8, none⟩ = some (.int .i64 cap) ∧ u.cell? ⟨Q, 9, none⟩ = some (.int .i64 (pn : Int)) ∧ u.cell? ⟨Q, 10, none⟩ = some (.pointer (some ⟨P, 0, none⟩))) ∧ u.cell? ⟨B + 1, 2, none⟩ = some (.slice (some ⟨gl, off, none⟩) n c) ∧ u.cell? ⟨gl, off + i * 4, none⟩ = some (.int .i64 a0) ∧ u.cell? ⟨gl, off + i * 4 + 1, none⟩ = some (.int .i64 a1) ∧ u.cell? ⟨gl, off + i * 4 + 2, none⟩ = some (.int .i64 a2) ∧ u.cell? ⟨gl, off + i * 4 + 3, none⟩ = some (.int .i64 a3)) (by kernel_rfl) RK0 (fun hHeld => ?_)
    refine wpAnyH_take (i := 0) (oi := _) (v := ?_) rfl (by kernel_rfl) (by kernel_rfl) (by kernel_rfl) (fun _ _ _ h => h) (Or.inl ⟨by rfl, ?y0⟩) (by assumption) ?r0
    case y0 => (intro w hSw; (try dsimp only at hSw); go_simp; try with_reducible rfl)
    refine wpAnyH_take (i := 1) (oi := _) (v := ?_) rfl (by kernel_rfl) (by kernel_rfl) (by kernel_rfl) (fun _ _ _ h => h) (Or.inl ⟨by rfl, ?y1⟩) (by assumption) ?r1
    case y1 => (intro w hSw; (try dsimp only at hSw); go_simp; try with_reducible rfl)
    refine wpAnyH_take (i := 2) (oi := _) (v := ?_) rfl (by kernel_rfl) (by kernel_rfl) (by kernel_rfl) (fun _ _ _ h => h) (Or.inl ⟨by rfl, ?y2⟩) (by assumption) ?r2
    case y2 => (intro w hSw; (try dsimp only at hSw); go_simp; try with_reducible rfl)
    refine wpAnyH_take (i := 3) (oi := _) (v := ?_) rfl (by kernel_rfl) (by kernel_rfl) (by kernel_rfl) (fun _ _ _ h => h) (Or.inl ⟨by rfl, ?y3⟩) (by assumption) ?r3
    case y3 => (intro w hSw; (try dsimp only at hSw); go_simp; try with_reducible rfl)
    refine wpAnyH_take (i := 4) (oi := _) (v := ?_) rfl (by kernel_rfl) (by kernel_rfl) (by kernel_rfl) (fun _ _ _ h => h) (Or.inl ⟨by rfl, ?y4⟩) (by assumption) ?r4
    case y4 => (intro w hSw; (try dsimp only at hSw); go_simp; try with_reducible rfl)
    refine wpAnyH_take (i := 5) (oi := _) (v := ?_) rfl (by kernel_rfl) (by kernel_rfl) (by kernel_rfl) (fun _ _ _ h => h) (Or.inl ⟨by rfl, ?y5⟩) (by assumption) ?r5
    case y5 => (intro w hSw; (try dsimp only at hSw); go_simp; try with_reducible rfl)
    refine wpAnyH_take (i := 7) (oi := _) (v := ?_) rfl (by kernel_rfl) (by kernel_rfl) (by kernel_rfl) (fun _ _ _ h => h) (Or.inl ⟨by rfl, ?y7⟩) (by assumption) ?r7
    case y7 => (intro w hSw; (try dsimp only at hSw); go_simp; try with_reducible rfl)
    refine wpAnyH_ready (rs := [6]) (by kernel_rfl) (by simp) ?_
    refine AllReadyH.cons rfl (fun K hK => ?_) AllReadyH.nil
    go_simp
    go_at_call 43
    refine (C1.out _ (Kept.refl [] w5).drew).mono ?_
    rintro e w6 ⟨g6, rfl, hm6, k6⟩
    have K6 : Hid (Kept [] w5 w6) := Hid.mk (((Kept.refl [] w5).drew).trans k6)
    have C3 := Hid.mk (C2.out w6 g6 K6.out hm6)
    clear hm6 k6
    refine hK.out _ _ (RK.out _ K6.out) (fun hHeld => ?_)
    clear hK K
    refine wpAnyH_ready (rs := [8]) (by kernel_rfl) (by simp) ?_
    refine AllReadyH.cons rfl (fun K hK => ?_) AllReadyH.nil
    go_simp
    go_at_call 44
    refine C3.out.mono ?_
    rintro e w7 ⟨bo, cb, rfl, ho7, k7⟩
    have K7 : Hid (Kept [] w5 w7) := Hid.mk (K6.out.trans k7)
    have HC7 := (K5.out.trans K7.out).heap HR.out (by simp)
    obtain ⟨w8, e8, h8, k8⟩ := row_set #[.slice bo lnn cb, .int .i64 (i : Int), .int .i64 a0, .int .i64 a1, .int .i64 a2, .int .i64 a3] HC7
    have HLT8 : Hid (B + 1 + 1 < w6.heap.size ∧ B + 1 + 1 < w5.heap.size) := Hid.mk ⟨Nat.lt_of_lt_of_le (lt_of_block HR.out) (K5.out.trans K6.out).size, Nat.lt_of_lt_of_le (lt_of_block HR.out) K5.out.size⟩
    have HO8 : Hid (w8.ownsRow w.heap.size 5 1 (.slice bo lnn cb) lnn ((RB i).map byt)) := Hid.mk (own_base (k8.row ho7 (fun b hb => by
      have h9 := (own_lo ho7 hb).1
      have h10 := HLT8.out.1
      simp only [List.mem_singleton]
      omega)) (Nat.le_trans K3.out.size (K5.out.trans K6.out).size))
    have K8 : Hid (Kept [] w w8) := Hid.mk (((K3.out.trans K5.out).trans K7.out).step k8 (fun x hx => by simp at hx; subst hx; exact .inr (by have := HB.out; omega)))
    have H8 := Hid.mk h8
    refine hK.out _ _ (RK.out _ K7.out) (fun hHeld => ?_)
    clear hK K
    refine wpAnyH_ready (rs := [9]) (by kernel_rfl) (by simp) ?_
    refine AllReadyH.cons rfl (fun K hK => ?_) AllReadyH.nil
    rw [if_pos (by rfl)]
    refine wp_store_row 45 (.tmp 6) (.tmp 38) rfl (B + 1 + 1) #[.slice bo lnn cb, .int .i64 (i : Int), .int .i64 a0, .int .i64 a1, .int .i64 a2, .int .i64 a3] rfl rfl 45 _ HC7 Tryz.infoC rfl (by simp [Value.oneCell']) ?_
    rw [e8]
    have RK8 : (fun u => (u.cell? ⟨Q, 0, none⟩ = some (.int .i64 W) ∧ u.cell? ⟨Q, 1, none⟩ = some (.int .i64 H) ∧ u.cell? ⟨Q, 2, none⟩ = some (.int .i64 D) ∧ u.cell? ⟨Q, 3, none⟩ = some (.bool A) ∧ u.cell? ⟨Q, 4, none⟩ = some (.slice po m d) ∧ u.cell? ⟨Q, 5, none⟩ = some (.int .i64 sw) ∧ u.cell? ⟨Q, 6, none⟩ = some (.int .i64 sh) ∧ u.cell? ⟨Q, 7, none⟩ = some (.slice (some ⟨gl, off, none⟩) n c) ∧ u.cell? ⟨Q, 8, none⟩ = some (.int .i64 cap) ∧ u.cell? ⟨Q, 9, none⟩ = some (.int .i64 (pn : Int)) ∧ u.cell? ⟨Q, 10, none⟩ = some (.pointer (some ⟨P, 0, none⟩))) ∧ u.cell? ⟨B + 1, 2, none⟩ = some (.slice (some ⟨gl, off, none⟩) n c) ∧ u.cell? ⟨gl, off + i * 4, none⟩ = some (.int .i64 a0) ∧ u.cell? ⟨gl, off + i * 4 + 1, none⟩ = some (.int .i64 a1) ∧ u.cell? ⟨gl, off + i * 4 + 2, none⟩ = some (.int .i64 a2) ∧ u.cell? ⟨gl, off + i * 4 + 3, none⟩ = some (.int .i64 a3)) w8 := by
      obtain ⟨⟨f0, f1, f2, f3, f4, f5, f6, f7, f8, f9, f10⟩, x0, x1, x2, x3, x4⟩ := RK.out _ K7.out
      have hn : Q ∉ [B + 1 + 1] := HQB.out
      have hn2 : B + 1 ∉ [B + 1 + 1] := by simp
      have hn3 : gl ∉ [B + 1 + 1] := HGB.out
      exact ⟨⟨Tl.cell_keep k8 f0 hn, Tl.cell_keep k8 f1 hn, Tl.cell_keep k8 f2 hn, Tl.cell_keep k8 f3 hn, Tl.cell_keep k8 f4 hn, Tl.cell_keep k8 f5 hn, Tl.cell_keep k8 f6 hn, Tl.cell_keep k8 f7 hn, Tl.cell_keep k8 f8 hn, Tl.cell_keep k8 f9 hn, Tl.cell_keep k8 f10 hn⟩, Tl.cell_keep k8 x0 hn2, Tl.cell_keep k8 x1 hn3, Tl.cell_keep k8 x2 hn3, Tl.cell_keep k8 x3 hn3, Tl.cell_keep k8 x4 hn3⟩
    refine hK.out _ _ RK8 (fun hHeld => ?_)
    clear hK K RK8
    refine wpAnyH_take (i := 10) (oi := _) (v := ?_) rfl (by kernel_rfl) (by kernel_rfl) (by kernel_rfl) (fun _ _ _ h => h) (Or.inl ⟨by rfl, ?y10⟩) (by assumption) ?r10
    case y10 => (intro w hSw; (try dsimp only at hSw); go_simp; try with_reducible rfl)
    refine wpAnyH_done (by kernel_rfl) ?_ _
    clear hHeld HC7 e8 h8 k8 ho7 k7 RK0
    go_wp2
    refine bodyPost_ret (v := .tuple #[.agg #[.slice bo lnn cb, .int .i64 (i : Int), .int .i64 a0, .int .i64 a1, .int .i64 a2, .int .i64 a3], .int .i64 0]) ?_ rfl ⟨bo, cb, ?_, ?_, K8.out⟩
    · exact Tl.results_two rfl _ _ (B + 1 + 1) 45 _ (0, 0) _ _ rfl H8.out Tryz.underlying45 Tryz.infoC rfl
    · obtain ⟨x0, x1, x2, x3⟩ := EA.out
      rw [ELN.out, ER.out, ← x0, ← x1, ← x2, ← x3]
    · rw [ELN.out]; exact HO8.out
  · exact absurd h0 hE
end Go.Proofs.YthkpligodbkofaaGreatDoor.Pc
