import Derived.Test.YthhegomjipbdbaaGreatDoorzF
import Derived.Test.YthhegomjipbdbaaGreatDoorzGZ
import Derived.Test.YthhegomjipbdbaaGreatDoorqPZ
namespace Go.Proofs.YthhegomjipbdbaaGreatDoor.Pc
open Go.RowKit

theorem row_capT {w : World} {B e n cap : Nat} {ao : Option Addr} {xs : List Value} (h : w.ownsRow B e 1 (.slice ao n cap) n xs) : n ≤ cap ∧ cap ≤ maxLen := by
  rcases h.2 with ⟨h1, h2⟩ | ⟨g, c, cur, h1, h2, h3, h4, h5, h6, h7⟩
  · cases h1; exact ⟨Nat.le_refl _, by unfold maxLen; omega⟩
  · cases h1; exact ⟨h4, h5⟩
theorem own_emptyT {w : World} {g : Nat} (h : w.heap[g]? = some (.cells #[] 5 (0, 0))) : w.ownsRow 0 5 1 (.slice (some ⟨g, 0, none⟩) 0 0) 0 [] :=
  ⟨rfl, .inr ⟨g, 0, #[], rfl, Nat.zero_le _, h, Nat.le_refl _, by unfold maxLen; omega, rfl, rfl⟩⟩
theorem own_zero {w : World} {B e sz n : Nat} {V : Value} {xs : List Value} (h : w.ownsRow B e sz V n xs) : w.ownsRow 0 e sz V n xs := by
  refine ⟨h.1, ?_⟩
  rcases h.2 with h2 | ⟨g, cap, cur, e1, _, e3⟩
  · exact .inl h2
  · exact .inr ⟨g, cap, cur, e1, Nat.zero_le _, e3⟩
theorem tb_ens (rg : Bool) (l : List Nat) (N p : Nat) (ln : Int) : Ens (tbN rg l N p ln) (tbX rg l N p ln) := by
  unfold tbN tbX
  split
  · exact enL_ens _ _ _ _
  · exact fun k hk => by omega
theorem tbN_le {W H D : Int} {A : Bool} {sw sh : Int} {r : Nat → Int} {N p ln : Int} (l : List Nat) : tbN (rgt W H D A sw sh r N p ln) l N.toNat p.toNat ln ≤ 70016 := by
  cases hR : rgt W H D A sw sh r N p ln with
  | false => unfold tbN; simp
  | true =>
    obtain ⟨n, q, rfl, rfl, h1, h2, h3, _⟩ := rgt_nm hR
    unfold tbN
    split
    · simp; omega
    · omega


set_option maxHeartbeats 32000000 in
set_option maxRecDepth 1000000 in
theorem tables_any (bo : Option Addr) (m cb : Nat) (l : List Nat) (W H D : Int) (A : Bool) (sw sh : Int) (r : Nat → Int) (N p ln : Int) (w : World) (hT : Tab w) (hr : Reads w bo l) (hby : Byts l) (hm : l.length = m) (hmc : m ≤ cb) (hcb : cb ≤ 140737488351232) (s0 : -9223372036854775808 ≤ sw) (s1 : sw ≤ 9223372036854775807) :
    Calls Tryz.prog 3 #[hvv W H D A sw sh r N p ln, .slice bo m cb] w fun e w' => e = .returned (.bool true) ∧ Kept [] w w' := by
  have CT : Hid (∀ (u : World) (ao : Option Addr) (cap : Nat) (ll : List Nat), Reads u ao ll → Byts ll → ll.length = m → m ≤ cap → cap ≤ 9000000000000000000 → Calls Tryz.prog 7 #[hvv W H D A sw sh r N p ln, .slice ao m cap] u fun e w' => ∃ V, e = .returned (.tuple #[V, .int .i64 (tbE (rgt W H D A sw sh r N p ln) ll N.toNat p.toNat ln)]) ∧ w'.ownsRow u.heap.size 87 3 V (tbN (rgt W H D A sw sh r N p ln) ll N.toNat p.toNat ln) (tbX (rgt W H D A sw sh r N p ln) ll N.toNat p.toNat ln) ∧ Kept [] u w') := Hid.mk (fun u ao cap ll h1 h2 h3 h4 h5 => table_any W H D A sw sh r N p ln ao m cap ll u h1 h2 h3 h4 h5 s0 s1)
  have CR : Hid (∀ (u : World) (ao : Option Addr) (cap : Nat) (ll : List Nat), Reads u ao ll → Byts ll → ll.length = m → m ≤ cap → cap ≤ 9223372036854775807 → Calls Tryz.prog 9 #[hvv W H D A sw sh r N p ln, .slice ao m cap] u fun e w' => ∃ V, e = .returned (.tuple #[V, .int .i64 (tbE (rgt W H D A sw sh r N p ln) ll N.toNat p.toNat ln)]) ∧ w'.ownsRow u.heap.size 87 3 V (tbN (rgt W H D A sw sh r N p ln) ll N.toNat p.toNat ln) (tbX (rgt W H D A sw sh r N p ln) ll N.toNat p.toNat ln) ∧ Kept [] u w') := Hid.mk (fun u ao cap ll h1 h2 h3 h4 h5 => rtable_any W H D A sw sh r N p ln ao m cap ll u h1 h2 h3 h4 h5)
  have HNB : Hid (∀ ll, tbN (rgt W H D A sw sh r N p ln) ll N.toNat p.toNat ln ≤ 70016) := Hid.mk (fun ll => tbN_le ll)
  obtain ⟨tE, etE⟩ : ∃ f : List Nat → Int, ∀ ll, tbE (rgt W H D A sw sh r N p ln) ll N.toNat p.toNat ln = f ll := ⟨_, fun ll => rfl⟩
  obtain ⟨tN, etN⟩ : ∃ f : List Nat → Nat, ∀ ll, tbN (rgt W H D A sw sh r N p ln) ll N.toNat p.toNat ln = f ll := ⟨_, fun ll => rfl⟩
  obtain ⟨tX, etX⟩ : ∃ f : List Nat → List Value, ∀ ll, tbX (rgt W H D A sw sh r N p ln) ll N.toNat p.toNat ln = f ll := ⟨_, fun ll => rfl⟩
  have HEN : Hid (∀ ll, Ens (tN ll) (tX ll)) := Hid.mk (fun ll => by rw [← etN, ← etX]; exact tb_ens _ _ _ _ _)
  simp only [etE, etN, etX] at CT CR HNB
  clear etE etN etX
  obtain ⟨r0, er0⟩ : ∃ x, r 0 = x := ⟨_, rfl⟩
  obtain ⟨r1, er1⟩ : ∃ x, r 1 = x := ⟨_, rfl⟩
  obtain ⟨r2, er2⟩ : ∃ x, r 2 = x := ⟨_, rfl⟩
  obtain ⟨r3, er3⟩ : ∃ x, r 3 = x := ⟨_, rfl⟩
  have e9 : hvv W H D A sw sh r N p ln = .agg #[.int .i64 W, .int .i64 H, .int .i64 D, .bool A, .int .i64 sw, .int .i64 sh, .int .i64 r0, .int .i64 r1, .int .i64 r2, .int .i64 r3, .int .i64 N, .int .i64 p, .int .i64 ln] := by unfold hvv; rw [er0, er1, er2, er3]
  rw [e9] at CT CR ⊢
  have HR := Hid.mk hr
  have HBY := Hid.mk hby
  obtain ⟨w1, e1⟩ : ∃ w1, w.alloc (.cells #[.int .i64 W, .int .i64 H, .int .i64 D, .bool A, .int .i64 sw, .int .i64 sh, .int .i64 r0, .int .i64 r1, .int .i64 r2, .int .i64 r3, .int .i64 N, .int .i64 p, .int .i64 ln] 27 (0, 0)) = w1 := ⟨_, rfl⟩
  obtain ⟨B, eB⟩ : ∃ B, w.heap.size = B := ⟨_, rfl⟩
  have k1 : Kept [] w w1 := by rw [← e1]; exact (Kept.refl [] w).alloc _
  have HB1 := Hid.mk (show w1.heap[B]? = some (.cells #[.int .i64 W, .int .i64 H, .int .i64 D, .bool A, .int .i64 sw, .int .i64 sh, .int .i64 r0, .int .i64 r1, .int .i64 r2, .int .i64 r3, .int .i64 N, .int .i64 p, .int .i64 ln] 27 (0, 0)) by rw [← e1, ← eB]; exact heap_alloc_new _ _)
  have C0 := Hid.mk (pshown_any w1 (hT.kept k1 (by simp)))
  have K1 := Hid.mk k1
  obtain ⟨T, eT⟩ : ∃ T, m + 9 = T := ⟨_, rfl⟩
  have HTT : Hid (m + 9 = T) := Hid.mk eT
  have HMB : Hid (m ≤ cb ∧ cb ≤ 140737488351232 ∧ l.length = m) := Hid.mk ⟨hmc, hcb, hm⟩
  have iT : (m : Int) ≤ (T : Int) := by omega
  clear s0 s1 er0 er1 er2 er3 e9 hr hby k1 hT hmc hcb hm eT
  go_enter Tryz.func3, Tryz.ntmps3
  go_wp2_with (fail)
  clear e1 eB
  refine C0.out.mono ?_
  rintro e w2 ⟨rfl, k2⟩
  have K2 := Hid.mk (K1.out.trans k2)
  have HB2 := Hid.mk (k2.heap HB1.out (by simp))
  have CL := Hid.mk (lentBytes_any bo m cb l w2 (HR.out.keep K2.out) HMB.out.2.2 (by have := HMB.out; omega))
  rw [HTT.out] at CL
  clear k2 C0 HB1
  go_wp2_with (fail)
  refine CL.out.mono ?_
  rintro e w3 ⟨G, f, rfl, hG, hRw, hf1, hf2, k3⟩
  have K3 := Hid.mk (K2.out.trans k3)
  have HB3 := Hid.mk (k3.heap HB2.out (by simp))
  have RW3 := Hid.mk hRw
  have HF := Hid.mk (And.intro hf1 hf2)
  have HG : Hid (w.heap.size ≤ G) := Hid.mk (Nat.le_trans K2.out.size hG)
  have HGB : Hid (B ≠ G) := Hid.mk (by have := lt_of_block HB2.out; omega)
  have RD3 : Hid (∀ u, Kept [] w3 u → Reads u (some ⟨G, 0, none⟩) l) := Hid.mk (fun u hu => rw_reads (RW3.out.keep hu (by simp)) (by have := HTT.out; have := HMB.out; omega) (fun i hi => HF.out.1 i (by have := HMB.out; omega)))
  obtain ⟨h0, h1, h2, h3, h4, h5, h6, h7, h8, h9, h10, h11, h12⟩ := cel13 HB3.out
  clear hG hRw hf1 hf2 k3 CL

  go_wp2_with (fail)
  go_region_held_law (fun u => u.cell? ⟨B, 0, none⟩ = some (.int .i64 W) ∧ u.cell? ⟨B, 1, none⟩ = some (.int .i64 H) ∧ u.cell? ⟨B, 2, none⟩ = some (.int .i64 D) ∧ u.cell? ⟨B, 3, none⟩ = some (.bool A) ∧ u.cell? ⟨B, 4, none⟩ = some (.int .i64 sw) ∧ u.cell? ⟨B, 5, none⟩ = some (.int .i64 sh) ∧ u.cell? ⟨B, 6, none⟩ = some (.int .i64 r0) ∧ u.cell? ⟨B, 7, none⟩ = some (.int .i64 r1) ∧ u.cell? ⟨B, 8, none⟩ = some (.int .i64 r2) ∧ u.cell? ⟨B, 9, none⟩ = some (.int .i64 r3) ∧ u.cell? ⟨B, 10, none⟩ = some (.int .i64 N) ∧ u.cell? ⟨B, 11, none⟩ = some (.int .i64 p) ∧ u.cell? ⟨B, 12, none⟩ = some (.int .i64 ln)) (first | exact ⟨h0, h1, h2, h3, h4, h5, h6, h7, h8, h9, h10, h11, h12⟩ | exact s5 | go_keep) ((go_at_call 7; refine (CT.out _ (some ⟨G, 0, none⟩) T l (RD3.out _ ((Kept.refl _ _).drew)) HBY.out HMB.out.2.2 (by have := HTT.out; omega) (by have := HTT.out; have := HMB.out; omega)).mono ?_; rintro e w4 ⟨V4, rfl, hO4, hk4⟩; have s5 := cel13 ((hk4.undrew).heap HB3.out (by simp))))
  have K4 := Hid.mk (K3.out.trans hk4.undrew)
  have J4 := Hid.mk hk4.undrew
  have HB4 := Hid.mk (hk4.undrew.heap HB3.out (by simp))
  have O4 := Hid.mk (show w4.ownsRow w3.heap.size 87 3 V4 (tN l) (tX l) from hO4)
  clear h0 h1 h2 h3 h4 h5 h6 h7 h8 h9 h10 h11 h12 s5 hO4 hk4

  obtain ⟨h0, h1, h2, h3, h4, h5, h6, h7, h8, h9, h10, h11, h12⟩ := cel13 HB4.out
  have RD4 : Hid (∀ u, Kept [] w4 u → Reads u (some ⟨G, 0, none⟩) l) := Hid.mk (fun u hu => RD3.out u (J4.out.trans hu))

  go_wp2_with (fail)
  go_region_held_law (fun u => u.cell? ⟨B, 0, none⟩ = some (.int .i64 W) ∧ u.cell? ⟨B, 1, none⟩ = some (.int .i64 H) ∧ u.cell? ⟨B, 2, none⟩ = some (.int .i64 D) ∧ u.cell? ⟨B, 3, none⟩ = some (.bool A) ∧ u.cell? ⟨B, 4, none⟩ = some (.int .i64 sw) ∧ u.cell? ⟨B, 5, none⟩ = some (.int .i64 sh) ∧ u.cell? ⟨B, 6, none⟩ = some (.int .i64 r0) ∧ u.cell? ⟨B, 7, none⟩ = some (.int .i64 r1) ∧ u.cell? ⟨B, 8, none⟩ = some (.int .i64 r2) ∧ u.cell? ⟨B, 9, none⟩ = some (.int .i64 r3) ∧ u.cell? ⟨B, 10, none⟩ = some (.int .i64 N) ∧ u.cell? ⟨B, 11, none⟩ = some (.int .i64 p) ∧ u.cell? ⟨B, 12, none⟩ = some (.int .i64 ln)) (first | exact ⟨h0, h1, h2, h3, h4, h5, h6, h7, h8, h9, h10, h11, h12⟩ | exact s5 | go_keep) ((go_at_call 7; refine (CT.out _ (some ⟨G, 0, none⟩) T l (RD4.out _ ((Kept.refl _ _).drew)) HBY.out HMB.out.2.2 (by have := HTT.out; omega) (by have := HTT.out; have := HMB.out; omega)).mono ?_; rintro e w5 ⟨V5, rfl, hO5, hk5⟩; have s5 := cel13 ((hk5.undrew).heap HB4.out (by simp))))
  have K5 := Hid.mk (K4.out.trans hk5.undrew)
  have J5 := Hid.mk hk5.undrew
  have HB5 := Hid.mk (hk5.undrew.heap HB4.out (by simp))
  have O5 := Hid.mk (show w5.ownsRow w4.heap.size 87 3 V5 (tN l) (tX l) from hO5)
  clear h0 h1 h2 h3 h4 h5 h6 h7 h8 h9 h10 h11 h12 s5 hO5 hk5

  have J35 := Hid.mk (J4.out.trans J5.out)
  have CS := Hid.mk (bytesStay_any G bo m cb l f w5 (by rw [HTT.out]; exact RW3.out.keep J35.out (by simp)) HF.out.1 (fun j h1 h2 => HF.out.2 j h1 (by have := HTT.out; omega)) (HR.out.keep K5.out) HBY.out (fun bg boff e h0 => by
    rcases HR.out with h | ⟨g', o', e', hc⟩
    · have := HMB.out.2.2; rw [h] at this; simp at this; omega
    · rw [e] at e'; cases e'
      have h1 := World.block_lt_of_cell? w _ (hc 0 (by have := HMB.out.2.2; omega))
      have h2 : bg < w.heap.size := h1
      have := HG.out
      omega) HMB.out.2.2 (by have := HMB.out; omega))
  rw [HTT.out] at CS
  go_wp2_with (fail)
  refine CS.out.mono ?_
  rintro e w6 ⟨f', rfl, hRw, hf, k6⟩
  have RW6 := Hid.mk hRw
  have K6 : Hid (Kept [] w w6) := Hid.mk (K5.out.step k6 (fun x hx => by simp at hx; subst hx; exact .inr HG.out))
  have HB6 := Hid.mk (k6.heap HB5.out (by have := HGB.out; simpa using this))
  have G3 : Hid (G < w3.heap.size) := Hid.mk (lt_of_block RW3.out)
  have O46 := Hid.mk (k6.row (J5.out.row O4.out (by simp)) (fun g hg hm => by simp at hm; subst hm; have := (O4.out.lt _ hg).1; have := G3.out; omega))
  have O56 := Hid.mk (k6.row O5.out (fun g hg hm => by simp at hm; subst hm; have := (O5.out.lt _ hg).1; have := G3.out; have := J4.out.size; omega))
  have S56 := Hid.mk k6.size
  obtain ⟨l2, el2⟩ : ∃ x, rgf f' m = x := ⟨_, rfl⟩
  have HL2 : Hid (l2.length = m) := Hid.mk (by rw [← el2]; exact rgf_len _ _)
  have HY2 : Hid (Byts l2) := Hid.mk (fun b hb => by
    rw [← el2] at hb
    unfold rgf at hb
    simp only [List.mem_map, List.mem_range] at hb
    obtain ⟨i, hi, rfl⟩ := hb
    rw [hf i hi]
    exact Nat.xor_lt_two_pow (n := 8) (getD_lt l i HBY.out) (by decide))
  have HR2 : Hid (∀ u, Kept [] w6 u → Reads u (some ⟨G, 0, none⟩) l2) := Hid.mk (fun u hu => by rw [← el2]; exact (RW6.out.keep hu (by simp)).reads (by have := HTT.out; omega))
  obtain ⟨h0, h1, h2, h3, h4, h5, h6, h7, h8, h9, h10, h11, h12⟩ := cel13 HB6.out
  clear hRw hf k6 CS el2 HF RW6 RW3 RD3 RD4 HB3 HB4 HB5 HB2

  go_wp2_with (fail)
  go_region_held_law (fun u => u.cell? ⟨B, 0, none⟩ = some (.int .i64 W) ∧ u.cell? ⟨B, 1, none⟩ = some (.int .i64 H) ∧ u.cell? ⟨B, 2, none⟩ = some (.int .i64 D) ∧ u.cell? ⟨B, 3, none⟩ = some (.bool A) ∧ u.cell? ⟨B, 4, none⟩ = some (.int .i64 sw) ∧ u.cell? ⟨B, 5, none⟩ = some (.int .i64 sh) ∧ u.cell? ⟨B, 6, none⟩ = some (.int .i64 r0) ∧ u.cell? ⟨B, 7, none⟩ = some (.int .i64 r1) ∧ u.cell? ⟨B, 8, none⟩ = some (.int .i64 r2) ∧ u.cell? ⟨B, 9, none⟩ = some (.int .i64 r3) ∧ u.cell? ⟨B, 10, none⟩ = some (.int .i64 N) ∧ u.cell? ⟨B, 11, none⟩ = some (.int .i64 p) ∧ u.cell? ⟨B, 12, none⟩ = some (.int .i64 ln)) (first | exact ⟨h0, h1, h2, h3, h4, h5, h6, h7, h8, h9, h10, h11, h12⟩ | exact s5 | go_keep) ((go_at_call 7; refine (CT.out _ (some ⟨G, 0, none⟩) T l2 (HR2.out _ ((Kept.refl _ _).drew)) HY2.out HL2.out (by have := HTT.out; omega) (by have := HTT.out; have := HMB.out; omega)).mono ?_; rintro e w7 ⟨V7, rfl, hO7, hk7⟩; have s5 := cel13 ((hk7.undrew).heap HB6.out (by simp))))
  have K7 := Hid.mk (K6.out.trans hk7.undrew)
  have J7 := Hid.mk hk7.undrew
  have HB7 := Hid.mk (hk7.undrew.heap HB6.out (by simp))
  have O7 := Hid.mk (show w7.ownsRow w6.heap.size 87 3 V7 (tN l2) (tX l2) from hO7)
  clear h0 h1 h2 h3 h4 h5 h6 h7 h8 h9 h10 h11 h12 s5 hO7 hk7

  have O47 := Hid.mk (J7.out.row O46.out (by simp))
  have O57 := Hid.mk (J7.out.row O56.out (by simp))
  obtain ⟨w9, e9⟩ : ∃ x, w7.alloc (.cells #[] 5 (0, 0)) = x := ⟨_, rfl⟩
  obtain ⟨S8, eS8⟩ : ∃ x, w7.heap.size = x := ⟨_, rfl⟩
  have k9 : Kept [] w7 w9 := by rw [← e9]; exact (Kept.refl [] w7).alloc _
  have O9 := Hid.mk (own_emptyT (show w9.heap[S8]? = some (.cells #[] 5 (0, 0)) by rw [← e9, ← eS8]; exact heap_alloc_new _ _))
  have R9 := Hid.mk (HR2.out w9 (J7.out.trans k9))
  have K9 := Hid.mk k9
  have ES8 := Hid.mk eS8
  have hmB : m ≤ 140737488351232 := by have := HMB.out; omega
  clear k9
  go_wp2_with (at_builtin; refine wpList_appR 0 _ rfl _ _ rfl _ 0 [] rfl O9.out (some ⟨G, 0, none⟩) m T l2 rfl R9.out HL2.out (fun h => by cases h) (Nat.zero_le _) (by omega) ?_)
  intro v10 w10 h6 h7 h8
  clear e9 eS8
  obtain ⟨vo, vc, rfl⟩ := row_form h6
  have HVC := Hid.mk (row_capT h6)
  have J10 : Hid (Kept [] w7 w10) := Hid.mk (K9.out.step h7 (fun x hx => by simp [Value.ownBlock] at hx; subst hx; exact .inr (Nat.le_of_eq ES8.out)))
  have K10 := Hid.mk (K7.out.trans J10.out)
  have RV := Hid.mk (reads_row h6)
  have HB10 := Hid.mk (J10.out.heap HB7.out (by simp))
  obtain ⟨h0', h1', h2', h3', h4', h5', h6', h7', h8', h9', h10', h11', h12'⟩ := cel13 HB10.out
  clear h6 h7 h8 O9 R9 K9 hmB
  go_wp2_with (fail)
  refine (CR.out _ bo cb l (HR.out.keep K10.out) HBY.out HMB.out.2.2 HMB.out.1 (by have := HMB.out; omega)).mono ?_
  rintro e w11 ⟨V11, rfl, hO, hk⟩
  have J11 := Hid.mk hk
  have O11 := Hid.mk hO
  have HB11 := Hid.mk (hk.heap HB10.out (by simp))
  clear h0' h1' h2' h3' h4' h5' h6' h7' h8' h9' h10' h11' h12' hO hk
  obtain ⟨h0, h1, h2, h3, h4, h5, h6, h7, h8, h9, h10, h11, h12⟩ := cel13 HB11.out
  go_wp2_with (fail)
  refine (CR.out _ vo vc l2 (RV.out.keep J11.out) HY2.out HL2.out HVC.out.1 (by have := HVC.out.2; unfold maxLen at this; omega)).mono ?_
  rintro e w12 ⟨V12, rfl, hO, hk⟩
  have J12 := Hid.mk (J11.out.trans hk)
  have O12 := Hid.mk hO
  have O112 := Hid.mk (hk.row O11.out (by simp))
  have J712 := Hid.mk (J10.out.trans J12.out)
  have O412 := Hid.mk (J712.out.row O47.out (by simp))
  have O512 := Hid.mk (J712.out.row O57.out (by simp))
  have O712 := Hid.mk (J712.out.row O7.out (by simp))
  have AP45 : Hid (∀ g, V4.ownBlock = some g → g < w4.heap.size) := Hid.mk (fun g hg => (O4.out.lt g hg).2)
  have AP5 : Hid (∀ g, V5.ownBlock = some g → w4.heap.size ≤ g ∧ g < w5.heap.size) := Hid.mk (fun g hg => O5.out.lt g hg)
  have AP7 : Hid (∀ g, V7.ownBlock = some g → w6.heap.size ≤ g) := Hid.mk (fun g hg => (O7.out.lt g hg).1)
  have APS : Hid (w4.heap.size ≤ w5.heap.size ∧ w5.heap.size ≤ w6.heap.size ∧ w.heap.size ≤ w3.heap.size ∧ w3.heap.size ≤ w4.heap.size) := Hid.mk ⟨J5.out.size, S56.out, K3.out.size, J4.out.size⟩
  have LO4 : Hid (∀ g, V4.ownBlock = some g → w3.heap.size ≤ g) := Hid.mk (fun g hg => (O4.out.lt g hg).1)
  have K12 := Hid.mk (K10.out.trans J12.out)
  have hn1 := HNB.out l
  have hn2 := HNB.out l2
  clear h0 h1 h2 h3 h4 h5 h6 h7 h8 h9 h10 h11 h12 hO hk O4 O5 O7 O11 O46 O56 O47 O57 RV HVC HR2 J4 J5 J7 J10 J11 J35
  obtain ⟨a4, c4, rfl, _⟩ := own_form3 O412.out
  obtain ⟨a5, c5, rfl, _⟩ := own_form3 O512.out
  obtain ⟨a7, c7, rfl, _⟩ := own_form3 O712.out
  obtain ⟨a11, c11, rfl, _⟩ := own_form3 O112.out
  obtain ⟨a12, c12, rfl, _⟩ := own_form3 O12.out
  go_wp2_with (fail)
  refine (sameEntries_any a4 a11 (tN l) c4 c11 _ _ (tX l) _ O412.out O112.out (HEN.out l) (by omega)).mono ?_
  rintro e w13 ⟨rfl, k13⟩
  have Q13 := Hid.mk k13
  clear k13
  go_wp2_with (fail)
  refine (sameEntries_any a5 a11 (tN l) c5 c11 _ _ (tX l) _ (Q13.out.row O512.out (by simp)) (Q13.out.row O112.out (by simp)) (HEN.out l) (by omega)).mono ?_
  rintro e w14 ⟨rfl, k14⟩
  have Q14 := Hid.mk (Q13.out.trans k14)
  clear k14
  go_wp2_with (fail)
  refine (sameEntries_any a7 a12 (tN l2) c7 c12 _ _ (tX l2) _ (Q14.out.row O712.out (by simp)) (Q14.out.row O12.out (by simp)) (HEN.out l2) (by omega)).mono ?_
  rintro e w15 ⟨rfl, k15⟩
  have Q15 := Hid.mk (Q14.out.trans k15)
  have kL := (Kept.refl [] w15).alloc (.cells #[.slice a4 (tN l) c4, .slice a5 (tN l) c5, .slice a7 (tN l2) c7] 31 (0, 0))
  obtain ⟨f4, hf4⟩ := own_lst (own_zero ((Q15.out.trans kL).row O412.out (by simp)))
  obtain ⟨f5, hf5⟩ := own_lst (own_zero ((Q15.out.trans kL).row O512.out (by simp)))
  obtain ⟨f7, hf7⟩ := own_lst (own_zero ((Q15.out.trans kL).row O712.out (by simp)))
  have CE := Hid.mk (eown_any w15.heap.size (fun t => if t = 0 then .slice a4 (tN l) c4 else if t = 1 then .slice a5 (tN l) c5 else .slice a7 (tN l2) c7) (fun t => if t = 0 then tN l else if t = 1 then tN l else tN l2) (fun t => if t = 0 then f4 else if t = 1 then f5 else f7) _ ⟨heap_alloc_new _ _, fun t ht => by
    rcases (by omega : t = 0 ∨ t = 1 ∨ t = 2) with rfl | rfl | rfl
    · exact hf4
    · exact hf5
    · exact hf7, fun s t hs ht hst g h1 h2 => by
    have q1 := AP45.out g
    have q2 := AP5.out g
    have q3 := AP7.out g
    have q4 := APS.out
    rcases (by omega : s = 0 ∨ s = 1 ∨ s = 2) with rfl | rfl | rfl <;> rcases (by omega : t = 0 ∨ t = 1 ∨ t = 2) with rfl | rfl | rfl
    · exact hst rfl
    · have := q1 h1; have := q2 h2; omega
    · have := q1 h1; have := q3 h2; omega
    · have := q2 h1; have := q1 h2; omega
    · exact hst rfl
    · have := q2 h1; have := q3 h2; omega
    · have := q3 h1; have := q1 h2; omega
    · have := q3 h1; have := q2 h2; omega
    · exact hst rfl⟩ (fun t ht => by
    rcases (by omega : t = 0 ∨ t = 1 ∨ t = 2) with rfl | rfl | rfl
    · show tN l ≤ _; omega
    · show tN l ≤ _; omega
    · show tN l2 ≤ _; omega))
  have KL := Hid.mk ((K12.out.trans Q15.out).trans kL)
  clear k15 kL hf4 hf5 hf7
  go_wp2_with (fail)
  refine CE.out.mono ?_
  rintro e w16 ⟨rfl, k16⟩
  have KF : Hid (Kept [] w w16) := Hid.mk (KL.out.step k16 (fun x hx => .inr (by
    have q1 := LO4.out x
    have q2 := AP5.out x
    have q3 := AP7.out x
    have q4 := APS.out
    simp only [List.mem_append, Option.mem_toList] at hx
    rcases hx with h | h | h
    · have := q1 h; omega
    · have := q2 h; omega
    · have := q3 h; omega)))
  clear k16
  go_wp2
  go_ret
  exact ⟨by simp, KF.out⟩
end Go.Proofs.YthhegomjipbdbaaGreatDoor.Pc
