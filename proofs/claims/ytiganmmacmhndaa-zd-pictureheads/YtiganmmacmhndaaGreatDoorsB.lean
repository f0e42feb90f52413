import Derived.Test.YtiganmmacmhndaaGreatDoortA1Z
import Derived.Test.YtiganmmacmhndaaGreatDoorpKZ
import Derived.Test.YtiganmmacmhndaaGreatDoorcC6Z
import Derived.Lib.SlBytesConst
namespace Go.Proofs.YtiganmmacmhndaaGreatDoor.Pc
open Go.RowKit

theorem wk9 {x : Int} (h : -9000000000000000000 ≤ x ∧ x ≤ 9000000000000000000) : IntKind.i64.wrap x = x := Tl.wrap_i (by omega) (by omega)
theorem own_lower {u : World} {B B' e n s : Nat} {V : Value} {xs : List Value} (h : u.ownsRow B e s V n xs) (hb : B' ≤ B) : u.ownsRow B' e s V n xs := by
  refine ⟨h.1, ?_⟩
  rcases h.2 with h | ⟨g, cap, cur, e1, h1, r⟩
  · exact .inl h
  · exact .inr ⟨g, cap, cur, e1, Nat.le_trans hb h1, r⟩
/-- big onto a row that is younger than a world. -/
theorem rbig_f (w1 u : World) (V : Value) (n n' : Nat) (l : List Nat) (X : Int) (x : Nat) (K : Int) (k : Nat) (kk : Kept [] w1 u) (ho : u.ownsRow w1.heap.size 5 1 V n (l.map byt)) (hX : X = (x : Int)) (hK : K = (k : Int)) (hk : k ≤ 8) (hn' : n + k = n') (hn : n ≤ 1000000000) :
    Calls Tryz.prog 56 #[V, .int .i64 X, .int .i64 K] u fun e u' => ∃ V', e = .returned V' ∧ u'.ownsRow w1.heap.size 5 1 V' n' ((l ++ big k x).map byt) ∧ Kept [] w1 u' := by
  subst hX hK hn'
  refine (rbig_any w1.heap.size V n (l.map byt) (x : Int) (k : Int) u ho kk.size (by omega) (by omega) (by omega) (by omega)).mono ?_
  rintro e u' ⟨V', rfl, h1, h2, _⟩
  refine ⟨V', rfl, by simpa using h1, kk.step h2 (fun y hy => .inr ?_)⟩
  have h3 := ho.lt y (by simpa using hy)
  omega

set_option maxHeartbeats 8000000 in
set_option maxRecDepth 1000000 in
/-- The document's head is the head's bytes. -/
theorem rhead_any (W H D sw sh : Nat) (A : Bool) (r : Nat → Nat) (N p ln : Nat) (w : World) :
    Calls Tryz.prog 27 #[.agg #[.int .i64 (W : Int), .int .i64 (H : Int), .int .i64 (D : Int), .bool A, .int .i64 (sw : Int), .int .i64 (sh : Int), .int .i64 (r 0 : Int), .int .i64 (r 1 : Int), .int .i64 (r 2 : Int), .int .i64 (r 3 : Int), .int .i64 (N : Int), .int .i64 (p : Int), .int .i64 (ln : Int)]] w fun e w' => ∃ V, e = .returned V ∧ w'.ownsRow w.heap.size 5 1 V 32 ((hdB W H D sw sh A r N p ln).map byt) ∧ Kept [] w w' := by
  obtain ⟨w1, e1⟩ : ∃ w1, w.alloc (.cells #[.int .i64 (W : Int), .int .i64 (H : Int), .int .i64 (D : Int), .bool A, .int .i64 (sw : Int), .int .i64 (sh : Int), .int .i64 (r 0 : Int), .int .i64 (r 1 : Int), .int .i64 (r 2 : Int), .int .i64 (r 3 : Int), .int .i64 (N : Int), .int .i64 (p : Int), .int .i64 (ln : Int)] 28 (0, 0)) = w1 := ⟨_, rfl⟩
  have k1 : Kept [] w w1 := by rw [← e1]; exact (Kept.refl [] w).alloc _
  have HB := Hid.mk (show w1.heap[w.heap.size]? = some (.cells #[.int .i64 (W : Int), .int .i64 (H : Int), .int .i64 (D : Int), .bool A, .int .i64 (sw : Int), .int .i64 (sh : Int), .int .i64 (r 0 : Int), .int .i64 (r 1 : Int), .int .i64 (r 2 : Int), .int .i64 (r 3 : Int), .int .i64 (N : Int), .int .i64 (p : Int), .int .i64 (ln : Int)] 28 (0, 0)) by rw [← e1]; exact heap_alloc_new _ _)
  have K1' := Hid.mk k1
  have kc := fun (w : World) (C : Array Value) (n c : Nat) => Lib.run_convert_bytes_const (P := Tryz.prog) w 22 5 C n c Tryz.underlying22 Tryz.underlying5
  have kU : Kept [] w1 (w1.alloc (.cells #[.int .u8 68, .int .u8 76, .int .u8 89, .int .u8 49] 5 (4, 5))) := (Kept.refl [] w1).alloc _
  have KU := Hid.mk kU
  have HU := Hid.mk (show (w1.alloc (.cells #[.int .u8 68, .int .u8 76, .int .u8 89, .int .u8 49] 5 (4, 5))).heap[w1.heap.size]? = some (.cells #[.int .u8 68, .int .u8 76, .int .u8 89, .int .u8 49] 5 (4, 5)) from heap_alloc_new _ _)
  obtain ⟨h0, h1, h2, h3, h4, h5, h6, h7, h8, h9, h10, h11, h12⟩ := cel13 (KU.out.heap HB.out (by simp))
  clear k1 kU
  go_enter Tryz.func27, Tryz.ntmps27
  cases A
  · go_wp2_with (fail)
    refine (rbig_full w1.heap.size 4 ((big 4 1145854257).map byt) (W : Int) 2 _ rfl (fun j u hj => ?_) (by decide) (by decide) (by omega) (by decide)).mono ?_
    · match j, hj with
      | 0, hj => cases hj; exact (cell_of_row _ _ 0 _ 5 (4, 5) HU.out).trans rfl
      | 1, hj => cases hj; exact (cell_of_row _ _ 1 _ 5 (4, 5) HU.out).trans rfl
      | 2, hj => cases hj; exact (cell_of_row _ _ 2 _ 5 (4, 5) HU.out).trans rfl
      | 3, hj => cases hj; exact (cell_of_row _ _ 3 _ 5 (4, 5) HU.out).trans rfl
    rintro e u1 ⟨V1, rfl, ho, kk⟩
    obtain ⟨L1, EL⟩ : ∃ L, L = big 4 1145854257 ++ big 2 W := ⟨_, rfl⟩
    have HO1 : Hid (u1.ownsRow w1.heap.size 5 1 V1 6 (L1.map byt)) := Hid.mk (by rw [EL, List.map_append]; exact own_lower ho KU.out.size)
    have EL1 := Hid.mk EL
    have K1 := Hid.mk (KU.out.trans kk)
    clear EL ho kk h0 h1 h2 h3 h4 h5 h6 h7 h8 h9 h10 h11 h12 e1 kc
    obtain ⟨h0, h1, h2, h3, h4, h5, h6, h7, h8, h9, h10, h11, h12⟩ := cel13 (K1.out.heap HB.out (by simp))
    go_wp2_with (fail)
    refine (rbig_f w1 _ _ 6 8 L1 (H : Int) H 2 2 K1.out HO1.out (rfl) rfl (by decide) rfl (by decide)).mono ?_
    rintro e u2 ⟨V2, rfl, ho, kk⟩
    obtain ⟨L2, EL⟩ : ∃ L, L = L1 ++ big 2 H := ⟨_, rfl⟩
    rw [← EL] at ho
    have EL2 := Hid.mk EL
    have HO2 := Hid.mk ho
    have K2 := Hid.mk kk
    clear EL ho kk h0 h1 h2 h3 h4 h5 h6 h7 h8 h9 h10 h11 h12
    obtain ⟨h0, h1, h2, h3, h4, h5, h6, h7, h8, h9, h10, h11, h12⟩ := cel13 (K2.out.heap HB.out (by simp))
    go_wp2_with (fail)
    refine (rbig_f w1 _ _ 8 9 L2 (D : Int) D 1 1 K2.out HO2.out (rfl) rfl (by decide) rfl (by decide)).mono ?_
    rintro e u3 ⟨V3, rfl, ho, kk⟩
    obtain ⟨L3, EL⟩ : ∃ L, L = L2 ++ big 1 D := ⟨_, rfl⟩
    rw [← EL] at ho
    have EL3 := Hid.mk EL
    have HO3 := Hid.mk ho
    have K3 := Hid.mk kk
    clear EL ho kk h0 h1 h2 h3 h4 h5 h6 h7 h8 h9 h10 h11 h12
    obtain ⟨h0, h1, h2, h3, h4, h5, h6, h7, h8, h9, h10, h11, h12⟩ := cel13 (K3.out.heap HB.out (by simp))
    go_wp2_with (fail)
    refine (rbig_f w1 _ _ 9 10 L3 _ 0 1 1 K3.out HO3.out (rfl) rfl (by decide) rfl (by decide)).mono ?_
    rintro e u4 ⟨V4, rfl, ho, kk⟩
    obtain ⟨L4, EL⟩ : ∃ L, L = L3 ++ big 1 0 := ⟨_, rfl⟩
    rw [← EL] at ho
    have EL4 := Hid.mk EL
    have HO4 := Hid.mk ho
    have K4 := Hid.mk kk
    clear EL ho kk h0 h1 h2 h3 h4 h5 h6 h7 h8 h9 h10 h11 h12
    obtain ⟨h0, h1, h2, h3, h4, h5, h6, h7, h8, h9, h10, h11, h12⟩ := cel13 (K4.out.heap HB.out (by simp))
    go_wp2_with (fail)
    refine (rbig_f w1 _ _ 10 12 L4 (sw : Int) sw 2 2 K4.out HO4.out (rfl) rfl (by decide) rfl (by decide)).mono ?_
    rintro e u5 ⟨V5, rfl, ho, kk⟩
    obtain ⟨L5, EL⟩ : ∃ L, L = L4 ++ big 2 sw := ⟨_, rfl⟩
    rw [← EL] at ho
    have EL5 := Hid.mk EL
    have HO5 := Hid.mk ho
    have K5 := Hid.mk kk
    clear EL ho kk h0 h1 h2 h3 h4 h5 h6 h7 h8 h9 h10 h11 h12
    obtain ⟨h0, h1, h2, h3, h4, h5, h6, h7, h8, h9, h10, h11, h12⟩ := cel13 (K5.out.heap HB.out (by simp))
    go_wp2_with (fail)
    refine (rbig_f w1 _ _ 12 14 L5 (sh : Int) sh 2 2 K5.out HO5.out (rfl) rfl (by decide) rfl (by decide)).mono ?_
    rintro e u6 ⟨V6, rfl, ho, kk⟩
    obtain ⟨L6, EL⟩ : ∃ L, L = L5 ++ big 2 sh := ⟨_, rfl⟩
    rw [← EL] at ho
    have EL6 := Hid.mk EL
    have HO6 := Hid.mk ho
    have K6 := Hid.mk kk
    clear EL ho kk h0 h1 h2 h3 h4 h5 h6 h7 h8 h9 h10 h11 h12
    obtain ⟨h0, h1, h2, h3, h4, h5, h6, h7, h8, h9, h10, h11, h12⟩ := cel13 (K6.out.heap HB.out (by simp))
    go_wp2_with (fail)
    go_loopw [3, 5] (fun v1 i1 wr => ∃ t : Nat, t ≤ 4 ∧ i1 = .int .i64 (t : Int) ∧ Hid (wr.ownsRow w1.heap.size 5 1 v1 (14 + t) ((L6 ++ fds ([(r 0, 1), (r 1, 1), (r 2, 1), (r 3, 1)].take t)).map byt)) ∧ Hid (Kept [] w1 wr)) (fun _ i _ => 4 - (intOf i).toNat)
    case atStart => exact ⟨0, by decide, rfl, Hid.mk (by simpa [fds] using HO6.out), K6⟩
    case round =>
      obtain ⟨t, ht, rfl, HOr, Kr⟩ := hrel
      clear h0 h1 h2 h3 h4 h5 h6 h7 h8 h9 h10 h11 h12
      by_cases hlt : t < 4
      · have it : (t : Int) < 4 := by omega
        have hcell : wr.cell? ⟨w.heap.size, 6 + t, none⟩ = some (.int .i64 (r t : Int)) := by
          obtain ⟨h0, h1, h2, h3, h4, h5, h6, h7, h8, h9, h10, h11, h12⟩ := cel13 (Kr.out.heap HB.out (by simp))
          match t, hlt with
          | 0, _ => exact h6
          | 1, _ => exact h7
          | 2, _ => exact h8
          | 3, _ => exact h9
        have itn : t < 4 := hlt
        go_wp2_with (fail)
        refine (rbig_f w1 _ _ (14 + t) (14 + (t + 1)) _ (r t : Int) (r t) 1 1 Kr.out HOr.out rfl rfl (by decide) rfl (by omega)).mono ?_
        rintro e u9 ⟨V9, rfl, ho, kk⟩
        have HO9 : Hid (u9.ownsRow w1.heap.size 5 1 V9 (14 + (t + 1)) ((L6 ++ fds ([(r 0, 1), (r 1, 1), (r 2, 1), (r 3, 1)].take (t + 1))).map byt)) := Hid.mk (by
          rw [fds_take _ t (by simpa using hlt), ← List.append_assoc]
          have e9 : [(r 0, 1), (r 1, 1), (r 2, 1), (r 3, 1)].getD t (0, 0) = (r t, 1) := by
            match t, hlt with
            | 0, _ => rfl
            | 1, _ => rfl
            | 2, _ => rfl
            | 3, _ => rfl
          rw [e9]
          exact ho)
        have K9 := Hid.mk kk
        have hk1 := (wk9 (x := (t : Int) + 1) (by omega))
        clear ho kk hcell
        go_wp2
        go_roundw
        case rel => exact ⟨t + 1, by omega, by first | go_num | (congr 1), HO9, K9⟩
        case measure => simp [intOf]; omega
      · obtain rfl : t = 4 := by omega
        obtain ⟨h0, h1, h2, h3, h4, h5, h6, h7, h8, h9, h10, h11, h12⟩ := cel13 (Kr.out.heap HB.out (by simp))
        obtain ⟨L7, EL⟩ : ∃ L, L = L6 ++ fds [(r 0, 1), (r 1, 1), (r 2, 1), (r 3, 1)] := ⟨_, rfl⟩
        have HO7 : Hid (wr.ownsRow w1.heap.size 5 1 u3 18 (L7.map byt)) := Hid.mk (by rw [EL]; exact HOr.out)
        have EL7 := Hid.mk EL
        have K7 := Hid.mk Kr.out
        clear EL HOr ht hlt
        go_wp2_with (fail)
        refine (rbig_f w1 _ _ 18 22 L7 (N : Int) N 4 4 K7.out HO7.out (rfl) rfl (by decide) rfl (by decide)).mono ?_
        rintro e u8 ⟨V8, rfl, ho, kk⟩
        obtain ⟨L8, EL⟩ : ∃ L, L = L7 ++ big 4 N := ⟨_, rfl⟩
        rw [← EL] at ho
        have EL8 := Hid.mk EL
        have HO8 := Hid.mk ho
        have K8 := Hid.mk kk
        clear EL ho kk h0 h1 h2 h3 h4 h5 h6 h7 h8 h9 h10 h11 h12
        obtain ⟨h0, h1, h2, h3, h4, h5, h6, h7, h8, h9, h10, h11, h12⟩ := cel13 (K8.out.heap HB.out (by simp))
        go_wp2_with (fail)
        refine (rbig_f w1 _ _ 22 23 L8 (p : Int) p 1 1 K8.out HO8.out (rfl) rfl (by decide) rfl (by decide)).mono ?_
        rintro e u9 ⟨V9, rfl, ho, kk⟩
        obtain ⟨L9, EL⟩ : ∃ L, L = L8 ++ big 1 p := ⟨_, rfl⟩
        rw [← EL] at ho
        have EL9 := Hid.mk EL
        have HO9 := Hid.mk ho
        have K9 := Hid.mk kk
        clear EL ho kk h0 h1 h2 h3 h4 h5 h6 h7 h8 h9 h10 h11 h12
        obtain ⟨h0, h1, h2, h3, h4, h5, h6, h7, h8, h9, h10, h11, h12⟩ := cel13 (K9.out.heap HB.out (by simp))
        go_wp2_with (fail)
        refine (rbig_f w1 _ _ 23 24 L9 _ 0 1 1 K9.out HO9.out (rfl) rfl (by decide) rfl (by decide)).mono ?_
        rintro e u10 ⟨V10, rfl, ho, kk⟩
        obtain ⟨L10, EL⟩ : ∃ L, L = L9 ++ big 1 0 := ⟨_, rfl⟩
        rw [← EL] at ho
        have EL10 := Hid.mk EL
        have HO10 := Hid.mk ho
        have K10 := Hid.mk kk
        clear EL ho kk h0 h1 h2 h3 h4 h5 h6 h7 h8 h9 h10 h11 h12
        obtain ⟨h0, h1, h2, h3, h4, h5, h6, h7, h8, h9, h10, h11, h12⟩ := cel13 (K10.out.heap HB.out (by simp))
        go_wp2_with (fail)
        refine (rbig_f w1 _ _ 24 28 L10 (ln : Int) ln 4 4 K10.out HO10.out (rfl) rfl (by decide) rfl (by decide)).mono ?_
        rintro e u11 ⟨V11, rfl, ho, kk⟩
        obtain ⟨L11, EL⟩ : ∃ L, L = L10 ++ big 4 ln := ⟨_, rfl⟩
        rw [← EL] at ho
        have EL11 := Hid.mk EL
        have HO11 := Hid.mk ho
        have K11 := Hid.mk kk
        clear EL ho kk h0 h1 h2 h3 h4 h5 h6 h7 h8 h9 h10 h11 h12
        obtain ⟨h0, h1, h2, h3, h4, h5, h6, h7, h8, h9, h10, h11, h12⟩ := cel13 (K11.out.heap HB.out (by simp))
        obtain ⟨ao, ac, rfl⟩ := row_form HO11.out
        have HLF : Hid (L11 = fds (hdF W H D sw sh false r N p ln)) := Hid.mk (by
          rw [EL11.out, EL10.out, EL9.out, EL8.out, EL7.out, EL6.out, EL5.out, EL4.out, EL3.out, EL2.out, EL1.out] 
          simp [hdF, fds])
        have HLL : Hid (L11.length = 28) := Hid.mk (by rw [HLF.out]; exact hdF_len ..)
        have HBY : Hid (Byts L11) := Hid.mk (by rw [HLF.out]; exact fds_byts _)
        clear h0 h1 h2 h3 h4 h5 h6 h7 h8 h9 h10 h11 h12
        go_wp2_with (fail)
        refine (Cr.sumD_any _ _ _ L11 _ (reads_row HO11.out) HBY.out HLL.out (by decide)).mono ?_
        rintro e w' ⟨rfl, hw'⟩
        obtain rfl := hw'.symm
        clear hw'
        have hs : (Cr.nm (Cr.sm L11) : Int) = ((s4 L11 : Nat) : Int) := rfl
        have hs4 := s4_lt L11
        rw [hs]
        have hcv : IntKind.i64.wrap ((s4 L11 : Nat) : Int) = ((s4 L11 : Nat) : Int) := Tl.wrap_i (by omega) (by omega)
        clear hs
        go_wp2_with (fail)
        refine (rbig_f w1 _ _ 28 32 L11 _ (s4 L11) 4 4 K11.out HO11.out rfl rfl (by decide) rfl (by decide)).mono ?_
        rintro e uz ⟨Vz, rfl, ho, kk⟩
        have HOz := Hid.mk ho
        have Kz := Hid.mk kk
        clear ho kk
        go_wp2
        go_ret
        refine ⟨_, rfl, ?_, K1'.out.trans Kz.out⟩
        have h9 := HOz.out
        rw [HLF.out] at h9
        exact own_lower h9 K1'.out.size
  · go_wp2_with (fail)
    refine (rbig_full w1.heap.size 4 ((big 4 1145854257).map byt) (W : Int) 2 _ rfl (fun j u hj => ?_) (by decide) (by decide) (by omega) (by decide)).mono ?_
    · match j, hj with
      | 0, hj => cases hj; exact (cell_of_row _ _ 0 _ 5 (4, 5) HU.out).trans rfl
      | 1, hj => cases hj; exact (cell_of_row _ _ 1 _ 5 (4, 5) HU.out).trans rfl
      | 2, hj => cases hj; exact (cell_of_row _ _ 2 _ 5 (4, 5) HU.out).trans rfl
      | 3, hj => cases hj; exact (cell_of_row _ _ 3 _ 5 (4, 5) HU.out).trans rfl
    rintro e u1 ⟨V1, rfl, ho, kk⟩
    obtain ⟨L1, EL⟩ : ∃ L, L = big 4 1145854257 ++ big 2 W := ⟨_, rfl⟩
    have HO1 : Hid (u1.ownsRow w1.heap.size 5 1 V1 6 (L1.map byt)) := Hid.mk (by rw [EL, List.map_append]; exact own_lower ho KU.out.size)
    have EL1 := Hid.mk EL
    have K1 := Hid.mk (KU.out.trans kk)
    clear EL ho kk h0 h1 h2 h3 h4 h5 h6 h7 h8 h9 h10 h11 h12 e1 kc
    obtain ⟨h0, h1, h2, h3, h4, h5, h6, h7, h8, h9, h10, h11, h12⟩ := cel13 (K1.out.heap HB.out (by simp))
    go_wp2_with (fail)
    refine (rbig_f w1 _ _ 6 8 L1 (H : Int) H 2 2 K1.out HO1.out (rfl) rfl (by decide) rfl (by decide)).mono ?_
    rintro e u2 ⟨V2, rfl, ho, kk⟩
    obtain ⟨L2, EL⟩ : ∃ L, L = L1 ++ big 2 H := ⟨_, rfl⟩
    rw [← EL] at ho
    have EL2 := Hid.mk EL
    have HO2 := Hid.mk ho
    have K2 := Hid.mk kk
    clear EL ho kk h0 h1 h2 h3 h4 h5 h6 h7 h8 h9 h10 h11 h12
    obtain ⟨h0, h1, h2, h3, h4, h5, h6, h7, h8, h9, h10, h11, h12⟩ := cel13 (K2.out.heap HB.out (by simp))
    go_wp2_with (fail)
    refine (rbig_f w1 _ _ 8 9 L2 (D : Int) D 1 1 K2.out HO2.out (rfl) rfl (by decide) rfl (by decide)).mono ?_
    rintro e u3 ⟨V3, rfl, ho, kk⟩
    obtain ⟨L3, EL⟩ : ∃ L, L = L2 ++ big 1 D := ⟨_, rfl⟩
    rw [← EL] at ho
    have EL3 := Hid.mk EL
    have HO3 := Hid.mk ho
    have K3 := Hid.mk kk
    clear EL ho kk h0 h1 h2 h3 h4 h5 h6 h7 h8 h9 h10 h11 h12
    obtain ⟨h0, h1, h2, h3, h4, h5, h6, h7, h8, h9, h10, h11, h12⟩ := cel13 (K3.out.heap HB.out (by simp))
    go_wp2_with (fail)
    refine (rbig_f w1 _ _ 9 10 L3 _ 1 1 1 K3.out HO3.out (rfl) rfl (by decide) rfl (by decide)).mono ?_
    rintro e u4 ⟨V4, rfl, ho, kk⟩
    obtain ⟨L4, EL⟩ : ∃ L, L = L3 ++ big 1 1 := ⟨_, rfl⟩
    rw [← EL] at ho
    have EL4 := Hid.mk EL
    have HO4 := Hid.mk ho
    have K4 := Hid.mk kk
    clear EL ho kk h0 h1 h2 h3 h4 h5 h6 h7 h8 h9 h10 h11 h12
    obtain ⟨h0, h1, h2, h3, h4, h5, h6, h7, h8, h9, h10, h11, h12⟩ := cel13 (K4.out.heap HB.out (by simp))
    go_wp2_with (fail)
    refine (rbig_f w1 _ _ 10 12 L4 (sw : Int) sw 2 2 K4.out HO4.out (rfl) rfl (by decide) rfl (by decide)).mono ?_
    rintro e u5 ⟨V5, rfl, ho, kk⟩
    obtain ⟨L5, EL⟩ : ∃ L, L = L4 ++ big 2 sw := ⟨_, rfl⟩
    rw [← EL] at ho
    have EL5 := Hid.mk EL
    have HO5 := Hid.mk ho
    have K5 := Hid.mk kk
    clear EL ho kk h0 h1 h2 h3 h4 h5 h6 h7 h8 h9 h10 h11 h12
    obtain ⟨h0, h1, h2, h3, h4, h5, h6, h7, h8, h9, h10, h11, h12⟩ := cel13 (K5.out.heap HB.out (by simp))
    go_wp2_with (fail)
    refine (rbig_f w1 _ _ 12 14 L5 (sh : Int) sh 2 2 K5.out HO5.out (rfl) rfl (by decide) rfl (by decide)).mono ?_
    rintro e u6 ⟨V6, rfl, ho, kk⟩
    obtain ⟨L6, EL⟩ : ∃ L, L = L5 ++ big 2 sh := ⟨_, rfl⟩
    rw [← EL] at ho
    have EL6 := Hid.mk EL
    have HO6 := Hid.mk ho
    have K6 := Hid.mk kk
    clear EL ho kk h0 h1 h2 h3 h4 h5 h6 h7 h8 h9 h10 h11 h12
    obtain ⟨h0, h1, h2, h3, h4, h5, h6, h7, h8, h9, h10, h11, h12⟩ := cel13 (K6.out.heap HB.out (by simp))
    go_wp2_with (fail)
    go_loopw [3, 5] (fun v1 i1 wr => ∃ t : Nat, t ≤ 4 ∧ i1 = .int .i64 (t : Int) ∧ Hid (wr.ownsRow w1.heap.size 5 1 v1 (14 + t) ((L6 ++ fds ([(r 0, 1), (r 1, 1), (r 2, 1), (r 3, 1)].take t)).map byt)) ∧ Hid (Kept [] w1 wr)) (fun _ i _ => 4 - (intOf i).toNat)
    case atStart => exact ⟨0, by decide, rfl, Hid.mk (by simpa [fds] using HO6.out), K6⟩
    case round =>
      obtain ⟨t, ht, rfl, HOr, Kr⟩ := hrel
      clear h0 h1 h2 h3 h4 h5 h6 h7 h8 h9 h10 h11 h12
      by_cases hlt : t < 4
      · have it : (t : Int) < 4 := by omega
        have hcell : wr.cell? ⟨w.heap.size, 6 + t, none⟩ = some (.int .i64 (r t : Int)) := by
          obtain ⟨h0, h1, h2, h3, h4, h5, h6, h7, h8, h9, h10, h11, h12⟩ := cel13 (Kr.out.heap HB.out (by simp))
          match t, hlt with
          | 0, _ => exact h6
          | 1, _ => exact h7
          | 2, _ => exact h8
          | 3, _ => exact h9
        have itn : t < 4 := hlt
        go_wp2_with (fail)
        refine (rbig_f w1 _ _ (14 + t) (14 + (t + 1)) _ (r t : Int) (r t) 1 1 Kr.out HOr.out rfl rfl (by decide) rfl (by omega)).mono ?_
        rintro e u9 ⟨V9, rfl, ho, kk⟩
        have HO9 : Hid (u9.ownsRow w1.heap.size 5 1 V9 (14 + (t + 1)) ((L6 ++ fds ([(r 0, 1), (r 1, 1), (r 2, 1), (r 3, 1)].take (t + 1))).map byt)) := Hid.mk (by
          rw [fds_take _ t (by simpa using hlt), ← List.append_assoc]
          have e9 : [(r 0, 1), (r 1, 1), (r 2, 1), (r 3, 1)].getD t (0, 0) = (r t, 1) := by
            match t, hlt with
            | 0, _ => rfl
            | 1, _ => rfl
            | 2, _ => rfl
            | 3, _ => rfl
          rw [e9]
          exact ho)
        have K9 := Hid.mk kk
        have hk1 := (wk9 (x := (t : Int) + 1) (by omega))
        clear ho kk hcell
        go_wp2
        go_roundw
        case rel => exact ⟨t + 1, by omega, by first | go_num | (congr 1), HO9, K9⟩
        case measure => simp [intOf]; omega
      · obtain rfl : t = 4 := by omega
        obtain ⟨h0, h1, h2, h3, h4, h5, h6, h7, h8, h9, h10, h11, h12⟩ := cel13 (Kr.out.heap HB.out (by simp))
        obtain ⟨L7, EL⟩ : ∃ L, L = L6 ++ fds [(r 0, 1), (r 1, 1), (r 2, 1), (r 3, 1)] := ⟨_, rfl⟩
        have HO7 : Hid (wr.ownsRow w1.heap.size 5 1 u3 18 (L7.map byt)) := Hid.mk (by rw [EL]; exact HOr.out)
        have EL7 := Hid.mk EL
        have K7 := Hid.mk Kr.out
        clear EL HOr ht hlt
        go_wp2_with (fail)
        refine (rbig_f w1 _ _ 18 22 L7 (N : Int) N 4 4 K7.out HO7.out (rfl) rfl (by decide) rfl (by decide)).mono ?_
        rintro e u8 ⟨V8, rfl, ho, kk⟩
        obtain ⟨L8, EL⟩ : ∃ L, L = L7 ++ big 4 N := ⟨_, rfl⟩
        rw [← EL] at ho
        have EL8 := Hid.mk EL
        have HO8 := Hid.mk ho
        have K8 := Hid.mk kk
        clear EL ho kk h0 h1 h2 h3 h4 h5 h6 h7 h8 h9 h10 h11 h12
        obtain ⟨h0, h1, h2, h3, h4, h5, h6, h7, h8, h9, h10, h11, h12⟩ := cel13 (K8.out.heap HB.out (by simp))
        go_wp2_with (fail)
        refine (rbig_f w1 _ _ 22 23 L8 (p : Int) p 1 1 K8.out HO8.out (rfl) rfl (by decide) rfl (by decide)).mono ?_
        rintro e u9 ⟨V9, rfl, ho, kk⟩
        obtain ⟨L9, EL⟩ : ∃ L, L = L8 ++ big 1 p := ⟨_, rfl⟩
        rw [← EL] at ho
        have EL9 := Hid.mk EL
        have HO9 := Hid.mk ho
        have K9 := Hid.mk kk
        clear EL ho kk h0 h1 h2 h3 h4 h5 h6 h7 h8 h9 h10 h11 h12
        obtain ⟨h0, h1, h2, h3, h4, h5, h6, h7, h8, h9, h10, h11, h12⟩ := cel13 (K9.out.heap HB.out (by simp))
        go_wp2_with (fail)
        refine (rbig_f w1 _ _ 23 24 L9 _ 0 1 1 K9.out HO9.out (rfl) rfl (by decide) rfl (by decide)).mono ?_
        rintro e u10 ⟨V10, rfl, ho, kk⟩
        obtain ⟨L10, EL⟩ : ∃ L, L = L9 ++ big 1 0 := ⟨_, rfl⟩
        rw [← EL] at ho
        have EL10 := Hid.mk EL
        have HO10 := Hid.mk ho
        have K10 := Hid.mk kk
        clear EL ho kk h0 h1 h2 h3 h4 h5 h6 h7 h8 h9 h10 h11 h12
        obtain ⟨h0, h1, h2, h3, h4, h5, h6, h7, h8, h9, h10, h11, h12⟩ := cel13 (K10.out.heap HB.out (by simp))
        go_wp2_with (fail)
        refine (rbig_f w1 _ _ 24 28 L10 (ln : Int) ln 4 4 K10.out HO10.out (rfl) rfl (by decide) rfl (by decide)).mono ?_
        rintro e u11 ⟨V11, rfl, ho, kk⟩
        obtain ⟨L11, EL⟩ : ∃ L, L = L10 ++ big 4 ln := ⟨_, rfl⟩
        rw [← EL] at ho
        have EL11 := Hid.mk EL
        have HO11 := Hid.mk ho
        have K11 := Hid.mk kk
        clear EL ho kk h0 h1 h2 h3 h4 h5 h6 h7 h8 h9 h10 h11 h12
        obtain ⟨h0, h1, h2, h3, h4, h5, h6, h7, h8, h9, h10, h11, h12⟩ := cel13 (K11.out.heap HB.out (by simp))
        obtain ⟨ao, ac, rfl⟩ := row_form HO11.out
        have HLF : Hid (L11 = fds (hdF W H D sw sh true r N p ln)) := Hid.mk (by
          rw [EL11.out, EL10.out, EL9.out, EL8.out, EL7.out, EL6.out, EL5.out, EL4.out, EL3.out, EL2.out, EL1.out] 
          simp [hdF, fds])
        have HLL : Hid (L11.length = 28) := Hid.mk (by rw [HLF.out]; exact hdF_len ..)
        have HBY : Hid (Byts L11) := Hid.mk (by rw [HLF.out]; exact fds_byts _)
        clear h0 h1 h2 h3 h4 h5 h6 h7 h8 h9 h10 h11 h12
        go_wp2_with (fail)
        refine (Cr.sumD_any _ _ _ L11 _ (reads_row HO11.out) HBY.out HLL.out (by decide)).mono ?_
        rintro e w' ⟨rfl, hw'⟩
        obtain rfl := hw'.symm
        clear hw'
        have hs : (Cr.nm (Cr.sm L11) : Int) = ((s4 L11 : Nat) : Int) := rfl
        have hs4 := s4_lt L11
        rw [hs]
        have hcv : IntKind.i64.wrap ((s4 L11 : Nat) : Int) = ((s4 L11 : Nat) : Int) := Tl.wrap_i (by omega) (by omega)
        clear hs
        go_wp2_with (fail)
        refine (rbig_f w1 _ _ 28 32 L11 _ (s4 L11) 4 4 K11.out HO11.out rfl rfl (by decide) rfl (by decide)).mono ?_
        rintro e uz ⟨Vz, rfl, ho, kk⟩
        have HOz := Hid.mk ho
        have Kz := Hid.mk kk
        clear ho kk
        go_wp2
        go_ret
        refine ⟨_, rfl, ?_, K1'.out.trans Kz.out⟩
        have h9 := HOz.out
        rw [HLF.out] at h9
        exact own_lower h9 K1'.out.size
end Go.Proofs.YtiganmmacmhndaaGreatDoor.Pc
