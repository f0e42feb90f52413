import Derived.Test.YtodlkpcbkilglaaDoorbKZ
import Derived.Deep.RegionHeld3
import Derived.Deep.RegionWith
import Derived.Deep.DeepCutAuto
import Derived.Deep.QuietTactic
import Derived.BigQuiet
import Derived.Laws.CopyOwn
namespace Go.Proofs.YtodlkpcbkilglaaDoor.Bt
open Go.RowKit

/-- The writer whose struct is block B: its bits are the number N of len digits; v is the slice of its full bytes. -/
def WriterAt (w : World) (B : Nat) (v : Value) (N len : Nat) : Prop :=
  w.heap[B]? = some (.cells #[v, .int .u64 ((N % 2 ^ (len % 8) : Nat) : Int), .int .i64 ((len % 8 : Nat) : Int)] 114 (0, 0)) ∧
  w.ownsRow 0 5 1 v (len / 8) ((big (len / 8) (N / 2 ^ (len % 8))).map byt)

set_option maxHeartbeats 400000 in
theorem newWriter_any (w : World) :
    Calls Tryd.prog 79 #[] w fun e w' => e = .returned (.pointer (some ⟨w.heap.size, 0, none⟩)) ∧ w' = w.alloc (.cells #[.slice none 0 0, .int .u64 0, .int .i64 0] 114) := by
  go_enter Tryd.func79, Tryd.ntmps79
  go_wp2
  go_ret
  exact ⟨rfl, rfl⟩

set_option maxHeartbeats 400000 in
theorem put_width (B : Nat) (v n : Int) (w : World) (h : n < 0 ∨ 32 < n) :
    Calls Tryd.prog 81 #[.pointer (some ⟨B, 0, none⟩), .int .u32 v, .int .i64 n] w fun e w' => e = .returned (.int .i64 11) ∧ w' = w := by
  rcases h with h | h
  · go_enter Tryd.func81, Tryd.ntmps81
    go_wp2
    go_ret
    exact ⟨rfl, rfl⟩
  · have h' : ¬ n < 0 := by omega
    go_enter Tryd.func81, Tryd.ntmps81
    go_wp2
    go_ret
    exact ⟨rfl, rfl⟩

set_option maxHeartbeats 400000 in
theorem put_value (B : Nat) (v n : Int) (w : World) (h0 : 0 ≤ n) (h1 : n ≤ 32) (hv : (v / 2 ^ n.toNat == 0) = false) :
    Calls Tryd.prog 81 #[.pointer (some ⟨B, 0, none⟩), .int .u32 v, .int .i64 n] w fun e w' => e = .returned (.int .i64 12) ∧ w' = w := by
  go_enter Tryd.func81, Tryd.ntmps81
  go_wp2_with (go_at_call 97; refine (fits32_any _ _ _ (by omega) (by omega)).mono ?_; rintro e w' ⟨rfl, rfl⟩)
  go_ret
  exact ⟨rfl, rfl⟩

theorem cells_three {w : World} {B : Nat} {a b c : Value} {t : TypeId} (h : w.heap[B]? = some (.cells #[a, b, c] t (0, 0))) :
    w.cell? ⟨B, 0, none⟩ = some a ∧ w.cell? ⟨B, 1, none⟩ = some b ∧ w.cell? ⟨B, 2, none⟩ = some c ∧ ∀ i, w.frozen? ⟨B, i, none⟩ = false := by
  refine ⟨?_, ?_, ?_, ?_⟩ <;> simp [World.cell?, World.frozen?, h]


theorem heap_setCell_at {w : World} {B i : Nat} {u : Value} {cs : Array Value} {t : TypeId} (h : w.heap[B]? = some (.cells cs t (0, 0))) :
    (w.setCell ⟨B, i, none⟩ u).heap[B]? = some (.cells (cs.setIfInBounds i u) t (0, 0)) := by
  have hlt := lt_of_block h
  have h' : w.heap[B] = .cells cs t (0, 0) := by simpa [Array.getElem?_eq_getElem hlt] using h
  show (w.heap.modify B _)[B]? = _
  rw [Array.getElem?_eq_getElem (by simpa using hlt), Array.getElem_modify_self, h']
  rfl

theorem own_ne {w : World} {B n : Nat} {V : Value} {xs : List Value} {cs : Array Value} {t : TypeId} (h : w.heap[B]? = some (.cells cs t (0, 0))) (ht : t ≠ 5) (ho : w.ownsRow 0 5 1 V n xs) : V.ownBlock ≠ some B := by
  intro e
  rcases ho.2 with ⟨rfl, _⟩ | ⟨g, cap, cur, rfl, _, hg, _⟩
  · simp [Value.ownBlock] at e
  · simp [Value.ownBlock] at e
    subst e
    rw [hg] at h
    simp at h
    exact ht h.2.symm

/-- appendBig beside a block that is not the row's. -/
theorem appendBig_b (B : Nat) (v : Value) (n : Nat) (xs : List Value) (X k : Int) (w : World) (hown : w.ownsRow 0 5 1 v n xs) (k0 : 0 ≤ k) (k1 : k ≤ 8) (X0 : 0 ≤ X) (hn : n + 8 ≤ 140737488355328)
    (hB : B < w.heap.size) (hne : v.ownBlock ≠ some B) :
    Calls Tryd.prog 98 #[v, .int .u64 X, .int .i64 k] w fun e w' => ∃ v', e = .returned v' ∧ w'.ownsRow 0 5 1 v' (n + k.toNat) (xs ++ (big k.toNat X.toNat).map byt) ∧ Kept v.ownBlock.toList w w' ∧ Lies w v v' ∧
      (∀ i, w'.cell? ⟨B, i, none⟩ = w.cell? ⟨B, i, none⟩) ∧ (∀ i, w'.frozen? ⟨B, i, none⟩ = w.frozen? ⟨B, i, none⟩) := by
  refine (appendBig_any v n xs X k w hown k0 k1 X0 hn).mono ?_
  rintro e w' ⟨v', rfl, ho, hk, hl⟩
  have hb := hk.block B hB (by simpa using hne)
  exact ⟨v', rfl, ho, hk, hl, fun i => World.cell?_of_block (a := ⟨B, i, none⟩) hb, fun i => World.frozen?_of_block (a := ⟨B, i, none⟩) hb⟩

theorem row_form {w : World} {base : Nat} {e : TypeId} {size : Nat} {v : Value} {n : Nat} {xs : List Value} (h : w.ownsRow base e size v n xs) : ∃ ao cap, v = .slice ao n cap := by
  rcases h.2 with ⟨rfl, rfl⟩ | ⟨g, cap, cur, rfl, _⟩
  · exact ⟨_, _, rfl⟩
  · exact ⟨_, _, rfl⟩

theorem wp_gen {P : Program} {c : Code} {Q : Exit → Act → World → Prop} {a : Act} {w0 : World} (R : World → Prop) (h0 : R w0) (h : ∀ W, R W → c.wp P Q a W) : c.wp P Q a w0 := h w0 h0

theorem put_meet {w0 W w1 : World} {B n : Nat} {V V1 h f : Value} {ys : List Value} (hBW : W.heap[B]? = some (.cells #[V, h, f] 114 (0, 0))) (hKW : Kept [B] w0 W) (hne : V.ownBlock ≠ some B)
    (ho : w1.ownsRow 0 5 1 V1 n ys) (hk : Kept V.ownBlock.toList W w1) (hL : Lies W V V1) :
    (w1.setCell ⟨B, 0, none⟩ V1).heap[B]? = some (.cells #[V1, h, f] 114 (0, 0)) ∧ (w1.setCell ⟨B, 0, none⟩ V1).ownsRow 0 5 1 V1 n ys ∧ Kept (B :: V.ownBlock.toList) w0 (w1.setCell ⟨B, 0, none⟩ V1) ∧ Lies w0 V V1 := by
  have h1 := hk.heap hBW (by simpa using hne)
  have hn1 := own_ne h1 (by decide) ho
  refine ⟨by rw [heap_setCell_at h1]; simp, ownsRow_setCell_other ho hn1 _, ?_, ?_⟩
  · exact ((hKW.mono (l2 := B :: V.ownBlock.toList) (by simp)).step hk (fun x hx => .inl (List.mem_cons_of_mem _ hx))).setCell (by simp) _
  · rcases hL with h | ⟨g, hg, hl⟩
    · exact .inl h
    · exact .inr ⟨g, hg, Nat.le_trans hKW.size hl⟩


set_option maxHeartbeats 4000000 in
set_option maxRecDepth 1000000 in
theorem put_low (B : Nat) (V : Value) (m : Nat) (xs : List Value) (H F v n T : Int) (w : World) (hB : w.heap[B]? = some (.cells #[V, .int .u64 H, .int .i64 F] 114 (0, 0))) (hown : w.ownsRow 0 5 1 V m xs)
    (h0 : 0 ≤ n) (h1 : n ≤ 32) (hv : (v / 2 ^ n.toNat == 0) = true) (F0 : 0 ≤ F) (F1 : F < 8) (T0 : 0 ≤ T) (T1 : T < 18446744073709551616)
    (hor : bits BinOp.or IntKind.u64 (IntKind.u64.wrap (H * 2 ^ n.toNat)) (IntKind.u64.wrap v) = T) (hl : m + 8 ≤ 140737488355328) :
    Calls Tryd.prog 81 #[.pointer (some ⟨B, 0, none⟩), .int .u32 v, .int .i64 n] w fun e w' => e = .returned (.int .i64 0) ∧
      ∃ V', w'.heap[B]? = some (.cells #[V', .int .u64 (T % 2 ^ ((F + n) % 8).toNat), .int .i64 ((F + n) % 8)] 114 (0, 0)) ∧
        w'.ownsRow 0 5 1 V' (m + ((F + n) / 8).toNat) (xs ++ (big ((F + n) / 8).toNat (T / 2 ^ ((F + n) % 8).toNat).toNat).map byt) ∧ Kept (B :: V.ownBlock.toList) w w' ∧ Lies w V V' := by
  obtain ⟨c0, c1, c2, fz⟩ := cells_three hB
  have hne := own_ne hB (by decide) hown
  have hBs := lt_of_block hB
  have f1 := fz 1
  have f2 := fz 2
  have f0 := fz 0
  clear fz
  go_enter Tryd.func81, Tryd.ntmps81
  go_wp2_with (go_at_call 97; refine (fits32_any _ _ _ (by omega) (by omega)).mono ?_; rintro e w' ⟨rfl, rfl⟩)
  refine wp_gen (fun W => W.heap[B]? = some (.cells #[V, .int .u64 T, .int .i64 ((F + n) % 8)] 114 (0, 0)) ∧ Kept [B] w' W) ⟨?_, ?_⟩ ?_
  · rw [heap_setCell_at (heap_setCell_at (heap_setCell_at hB))]; simp
  · exact (((Kept.refl _ _).setCell (by simp) _).setCell (by simp) _).setCell (by simp) _
  intro W ⟨hBW, hKW⟩
  have hoW := hKW.row hown (by simpa using fun g hg => fun e => hne (by rw [hg, e]))
  obtain ⟨d0, d1, d2, gz⟩ := cells_three hBW
  have g0 := gz 0
  have g1 := gz 1
  have hBs' := lt_of_block hBW
  clear gz c0 c1 c2 f0 f1 f2
  go_cut [0] (fun s0 w1 => s0 = .pointer (some ⟨B, 0, none⟩) ∧ ∃ V', w1.heap[B]? = some (.cells #[V', .int .u64 T, .int .i64 ((F + n) % 8)] 114 (0, 0)) ∧
        w1.ownsRow 0 5 1 V' (m + ((F + n) / 8).toNat) (xs ++ (big ((F + n) / 8).toNat (T / 2 ^ ((F + n) % 8).toNat).toNat).map byt) ∧ Kept (B :: V.ownBlock.toList) w' w1 ∧ Lies w' V V')
  case first =>
    go_region_with (go_at_call 98; refine (appendBig_b B V m xs _ _ _ ?_ ?_ ?_ ?_ ?_ ?_ ?_).mono ?_; exact hoW; omega; omega; exact Int.ediv_nonneg (by omega) (by exact Int.le_of_lt (Int.pow_pos (by decide))); omega; exact hBs'; exact hne; rintro e w1 ⟨v', rfl, ho, hk, hL, kc, kf⟩; obtain ⟨ao, cp, rfl⟩ := row_form ho; have k0 := (kc 0).trans d0; have k1 := (kc 1).trans d1; have k2 := (kc 2).trans d2; have z0 := (kf 0).trans g0; have z1 := (kf 1).trans g1; clear kc kf)
    all_goals go_wp2
    all_goals go_meet
    all_goals exact ⟨rfl, _, put_meet hBW hKW hne ho hk.undrew hL⟩
  case rest =>
    obtain ⟨rfl, V', e1, e2, e3, e4⟩ := hcut
    obtain ⟨a0, a1, a2, gz⟩ := cells_three e1
    have y1 := gz 1
    clear gz hBW d0 d1 d2 g0 g1 hoW hKW
    go_wp2_with fail
    go_region_with (go_at_call 99; refine (lowest_any _ _ _ (by omega) (by omega) (by omega) (by omega)).mono ?_; rintro e w1 ⟨rfl, rfl⟩)
    all_goals go_wp2
    all_goals go_ret
    all_goals
      refine ⟨rfl, V', ?_, ?_, ?_, e4⟩
      · show (World.setCell _ _ _).heap[B]? = _
        rw [heap_setCell_at e1]; simp
      · exact ownsRow_setCell_other e2 (own_ne e1 (by decide) e2) _
      · exact (e3.setCell (p := ⟨B, 1, none⟩) (by simp) _).drew
end Go.Proofs.YtodlkpcbkilglaaDoor.Bt

namespace Go.Proofs.YtodlkpcbkilglaaDoor.Bt
open Go.RowKit

theorem pow_two_int (n : Nat) : ((2 : Int) ^ n) = (((2 : Nat) ^ n : Nat) : Int) := by simp

/-- The writer's or: the bits held, moved up, and the new ones. -/
theorem or_eq (H : Nat) (v n : Int) (f : Nat) (hH : H < 2 ^ f) (hf : f < 8) (h1 : n ≤ 32) (v0 : 0 ≤ v) (hv : v.toNat < 2 ^ n.toNat) :
    bits BinOp.or IntKind.u64 (IntKind.u64.wrap ((H : Int) * 2 ^ n.toNat)) (IntKind.u64.wrap v) = ((H * 2 ^ n.toNat + v.toNat : Nat) : Int) := by
  obtain ⟨x, rfl⟩ := Int.eq_ofNat_of_zero_le v0
  rw [Int.toNat_natCast] at hv ⊢
  have hn : n.toNat ≤ 32 := by omega
  generalize n.toNat = k at *
  have hk : 2 ^ k ≤ 2 ^ 32 := Nat.pow_le_pow_right (by decide) hn
  have hH2 : H < 2 ^ 8 := Nat.lt_of_lt_of_le hH (Nat.pow_le_pow_right (by decide) (by omega))
  have hHk : H * 2 ^ k < 2 ^ 40 := by
    have h1 : H * 2 ^ k ≤ H * 2 ^ 32 := Nat.mul_le_mul_left _ hk
    have h2 : H * 2 ^ 32 < 2 ^ 8 * 2 ^ 32 := Nat.mul_lt_mul_of_pos_right hH2 (by decide)
    have h3 : 2 ^ 8 * 2 ^ 32 = 2 ^ 40 := by decide
    omega
  rw [IntKind.wrap_u64, IntKind.wrap_u64, pow_two_int]
  have e1 : ((H : Int) * ((2 ^ k : Nat) : Int)) % 18446744073709551616 = ((H * 2 ^ k : Nat) : Int) := by
    rw [← Int.natCast_mul]; omega
  have e2 : ((x : Int)) % 18446744073709551616 = (x : Int) := by omega
  rw [e1, e2, u64_or_nat _ _ (by omega) (by omega), nat_join k _ _ (by simp) hv]

theorem fits_iff (v n : Int) (v0 : 0 ≤ v) : (v / 2 ^ n.toNat == 0) = decide (v.toNat < 2 ^ n.toNat) := by
  obtain ⟨x, rfl⟩ := Int.eq_ofNat_of_zero_le v0
  rw [pow_two_int, Int.toNat_natCast, Bool.eq_iff_iff, beq_iff_eq, decide_eq_true_iff, ← Int.natCast_ediv]
  have := Nat.div_eq_zero_iff (a := x) (b := 2 ^ n.toNat)
  have hp := Nat.two_pow_pos n.toNat
  omega

theorem put_any (B : Nat) (V : Value) (N len : Nat) (v n : Int) (w : World) (hw : WriterAt w B V N len) (h0 : 0 ≤ n) (h1 : n ≤ 32) (v0 : 0 ≤ v) (hv : v.toNat < 2 ^ n.toNat) (hl : len / 8 + 8 ≤ 140737488355328) :
    Calls Tryd.prog 81 #[.pointer (some ⟨B, 0, none⟩), .int .u32 v, .int .i64 n] w fun e w' => e = .returned (.int .i64 0) ∧
      ∃ V', WriterAt w' B V' (N * 2 ^ n.toNat + v.toNat) (len + n.toNat) ∧ Kept (B :: V.ownBlock.toList) w w' ∧ Lies w V V' := by
  obtain ⟨hB, hown⟩ := hw
  have q0 : len % 8 < 8 := Nat.mod_lt _ (by decide)
  have hH : N % 2 ^ (len % 8) < 2 ^ (len % 8) := Nat.mod_lt _ (Nat.two_pow_pos _)
  have hk : 2 ^ n.toNat ≤ 2 ^ 32 := Nat.pow_le_pow_right (by decide) (by omega)
  have hH2 : N % 2 ^ (len % 8) < 2 ^ 8 := Nat.lt_of_lt_of_le hH (Nat.pow_le_pow_right (by decide) (by omega))
  have hT : N % 2 ^ (len % 8) * 2 ^ n.toNat < 2 ^ 40 := by
    have h1 : N % 2 ^ (len % 8) * 2 ^ n.toNat ≤ N % 2 ^ (len % 8) * 2 ^ 32 := Nat.mul_le_mul_left _ hk
    have h2 : N % 2 ^ (len % 8) * 2 ^ 32 < 2 ^ 8 * 2 ^ 32 := Nat.mul_lt_mul_of_pos_right hH2 (by decide)
    have h3 : 2 ^ 8 * 2 ^ 32 = 2 ^ 40 := by decide
    omega
  refine (put_low B V (len / 8) _ _ _ v n ((N % 2 ^ (len % 8) * 2 ^ n.toNat + v.toNat : Nat) : Int) w hB hown h0 h1 (by rw [fits_iff v n v0]; simpa using hv) (by omega) (by omega) (by omega) (by omega)
    (or_eq _ v n _ hH q0 h1 v0 hv) hl).mono ?_
  rintro e w' ⟨rfl, V', e1, e2, e3, e4⟩
  refine ⟨rfl, V', ⟨?_, ?_⟩, e3, e4⟩
  · rw [e1]
    have a1 : (((len % 8 : Nat) : Int) + n) % 8 = (((len % 8 + n.toNat) % 8 : Nat) : Int) := by omega
    have a2 : (len % 8 + n.toNat) % 8 = (len + n.toNat) % 8 := by omega
    rw [a1, Int.toNat_natCast, pow_two_int, ← Int.natCast_emod, put_held _ _ _ _ hv, a2]
  · have a1 : (((len % 8 : Nat) : Int) + n) % 8 = (((len % 8 + n.toNat) % 8 : Nat) : Int) := by omega
    have a2 : (((len % 8 : Nat) : Int) + n) / 8 = (((len % 8 + n.toNat) / 8 : Nat) : Int) := by omega
    have a3 : len / 8 + (len % 8 + n.toNat) / 8 = (len + n.toNat) / 8 := by omega
    have a4 : (len % 8 + n.toNat) % 8 = (len + n.toNat) % 8 := by omega
    rw [a1, a2, Int.toNat_natCast, Int.toNat_natCast, pow_two_int, ← Int.natCast_ediv, Int.toNat_natCast, ← List.map_append, put_bytes _ _ _ _ _ hv, a3, a4] at e2
    exact e2

set_option maxHeartbeats 400000 in
theorem len_any (B : Nat) (V : Value) (N len : Nat) (w : World) (hw : WriterAt w B V N len) (hl : len ≤ 2 ^ 60) :
    Calls Tryd.prog 102 #[.pointer (some ⟨B, 0, none⟩)] w fun e w' => e = .returned (.int .i64 (len : Int)) ∧ ∃ q, w' = w.drewN q := by
  obtain ⟨hB, hown⟩ := hw
  obtain ⟨c0, c1, c2, fz⟩ := cells_three hB
  obtain ⟨ao, cp, rfl⟩ := row_form hown
  have q0 : len % 8 < 8 := Nat.mod_lt _ (by decide)
  have q1 : len / 8 ≤ 1152921504606846976 := by omega
  go_enter Tryd.func102, Tryd.ntmps102
  go_wp2_with fail
  go_quiet (fail)
  go_wp2
  go_ret
  exact ⟨ret_int (by omega), _, rfl⟩

theorem madeBytes (n : Nat) : (madeCells (Value.int .u8 0).cells (n * 1)).toList = List.replicate n (byt 0) := by
  rw [Nat.mul_one]; exact toList_madeCells_one _ _

theorem row_heap {w : World} {base e n cap g : Nat} {xs : List Value} (h : w.ownsRow base e 1 (.slice (some ⟨g, 0, none⟩) n cap) n xs) (hc : cap = n) : w.heap[g]? = some (.cells xs.toArray e (0, 0)) := by
  subst hc
  rcases h.2 with ⟨h1, _⟩ | ⟨g', cap', cur, h1, _, hg, _, _, hs, ht⟩
  · simp at h1
  · simp at h1
    obtain ⟨rfl, rfl⟩ := h1
    rw [hg]
    have : cur.toList.take (cap * 1) = cur.toList := List.take_of_length_le (by simp; omega)
    rw [this] at ht
    rw [← ht]

theorem bytes_one (l : List Nat) : ∀ v ∈ l.map byt, v.oneCell' = true := by
  intro v hv
  simp only [List.mem_map] at hv
  obtain ⟨b, _, rfl⟩ := hv
  rfl

theorem row_src {w : World} {ao : Option Addr} {base e n cap : Nat} {xs : List Value} (h : w.ownsRow base e 1 (.slice ao n cap) n xs) : 0 < n → ∃ ad, ao = some ad ∧ ∀ j u, xs[j]? = some u → w.cell? (ad.add j) = some u := by
  intro hn
  rcases h.2 with ⟨_, h1⟩ | ⟨g, cap', cur, h1, _⟩
  · omega
  · simp at h1
    obtain ⟨rfl, rfl⟩ := h1
    exact ⟨_, rfl, h.cells rfl⟩

theorem Hid.mk {p : Prop} (h : p) : Hid p := h

theorem copy_run (w : World) (g n dcap : Nat) (ao : Option Addr) (m cp : Nat) (cur cs : List Value) (hr : w.heap[g]? = some (.cells cur.toArray 5 (0, 0))) (hcur : cur.length = n) (hm : cs.length = m) (hmn : m ≤ n)
    (hpos : 0 < m → ∃ ad, ao = some ad ∧ ∀ j u, cs[j]? = some u → w.cell? (ad.add j) = some u) (hone : ∀ v ∈ cs, v.oneCell' = true) :
    ∃ w2, Sem.run Tryd.prog (Builtin.copy_ #[37, 37] 3 #[.slice (some ⟨g, 0, none⟩) n dcap, .slice ao m cp]) w = .ok (goInt m) w2 ∧ w2.heap[g]? = some (.cells (cs ++ cur.drop m).toArray 5 (0, 0)) ∧ Kept [g] w w2 := by
  obtain ⟨i0, hi, hz0, hz1, hz2⟩ := info_parts Tryd.info5
  have hsz : (Tryd.prog.info? 5).map (·.size) = some 1 := by rw [hi]; simp [hz1]
  by_cases h0 : m = 0
  · subst h0
    have hcs : cs = [] := List.eq_nil_of_length_eq_zero hm
    subst hcs
    exact ⟨w, run_copy_none w 37 37 3 5 _ _ _ _ _ _ Tryd.underlying37 hsz (by simp), by simpa using hr, Kept.refl _ _⟩
  · obtain ⟨ad, rfl, hsrc⟩ := hpos (by omega)
    have h := run_copy_row (P := Tryd.prog) w 37 37 3 5 g 0 n dcap ad m cp cur.toArray 5 cs Tryd.underlying37 hsz hr (by show _ = min _ _; omega) hsrc (by simp; omega) hone
    rw [hm] at h
    refine ⟨w.setRow g (cs ++ cur.drop m).toArray, ?_, ?_, ?_⟩
    · refine h.trans ?_
      simp
    · exact setRow_heap w g _ _ 5 _ hr
    · exact ⟨rfl, rfl, rfl, by simp [World.setRow], fun k _ hk => setRow_other w g k _ (by simpa using hk)⟩

theorem bytes_even (N len : Nat) (h : len % 8 = 0) : (big (len / 8) (N / 2 ^ (len % 8))).map byt ++ (List.replicate ((len + 7) / 8) (Value.int .u8 0)).drop (len / 8) = (big ((len + 7) / 8) (N * 2 ^ (8 * ((len + 7) / 8) - len))).map byt := by
  have h1 : (len + 7) / 8 = len / 8 := by omega
  have h2 : 8 * (len / 8) - len = 0 := by omega
  rw [h, h1, h2]
  simp

theorem bytes_odd (N len : Nat) (h : len % 8 ≠ 0) (u : Nat) (hu : u = N % 2 ^ (len % 8) * 2 ^ (8 - len % 8)) :
    ((big (len / 8) (N / 2 ^ (len % 8))).map byt ++ (List.replicate ((len + 7) / 8) (Value.int .u8 0)).drop (len / 8)).set (len / 8) (byt u) = (big ((len + 7) / 8) (N * 2 ^ (8 * ((len + 7) / 8) - len))).map byt := by
  have h1 : (len + 7) / 8 = len / 8 + 1 := by omega
  have h2 : 8 * (len / 8 + 1) - len = 8 - len % 8 := by omega
  have h3 : 2 ^ (len % 8) * 2 ^ (8 - len % 8) = 256 := by rw [← Nat.pow_add, show len % 8 + (8 - len % 8) = 8 by omega]
  have e1 : N * 2 ^ (8 - len % 8) / 256 = N / 2 ^ (len % 8) := by rw [← h3, Nat.mul_div_mul_right _ _ (Nat.two_pow_pos _)]
  have e2 : N * 2 ^ (8 - len % 8) % 256 = u := by rw [← h3, Nat.mul_mod_mul_right, hu]
  rw [h1, h2, big, e1, e2]
  have e3 : (List.replicate (len / 8 + 1) (Value.int .u8 0)).drop (len / 8) = [Value.int .u8 0] := by simp
  rw [e3, List.set_append_right _ _ (by simp [big_length])]
  simp [big_length]

theorem byte_last (N len : Nat) : IntKind.u8.wrap (IntKind.u64.wrap ((N : Int) % 2 ^ (len % 8) * 2 ^ (8 - (len : Int) % 8).toNat)) = ((N % 2 ^ (len % 8) * 2 ^ (8 - len % 8) : Nat) : Int) := by
  have e : (8 - (len : Int) % 8).toNat = 8 - len % 8 := by omega
  have h3 : 2 ^ (len % 8) * 2 ^ (8 - len % 8) = 256 := by rw [← Nat.pow_add, show len % 8 + (8 - len % 8) = 8 by omega]
  have h4 : N % 2 ^ (len % 8) * 2 ^ (8 - len % 8) < 256 := by
    rw [← h3]; exact Nat.mul_lt_mul_of_pos_right (Nat.mod_lt _ (Nat.two_pow_pos _)) (Nat.two_pow_pos _)
  rw [e, pow_two_int, pow_two_int, ← Int.natCast_emod, ← Int.natCast_mul, IntKind.wrap_u64, IntKind.wrap_u8']
  omega

theorem row_cell_at {w : World} {g j e : Nat} {cs : List Value} (h : w.heap[g]? = some (.cells cs.toArray e (0, 0))) (hj : j < cs.length) : ∃ u, w.cell? ⟨g, j, none⟩ = some u := by
  exact ⟨cs[j], by simp [World.cell?, h, hj]⟩

set_option maxHeartbeats 2000000 in
set_option maxRecDepth 1000000 in
theorem bytes_any (B : Nat) (V : Value) (N len : Nat) (w : World) (hw : WriterAt w B V N len) (hl : len ≤ 2 ^ 50) :
    Calls Tryd.prog 83 #[.pointer (some ⟨B, 0, none⟩)] w fun e w' => e = .returned (.slice (some ⟨w.heap.size, 0, none⟩) ((len + 7) / 8) ((len + 7) / 8)) ∧
      w'.heap[w.heap.size]? = some (.cells ((big ((len + 7) / 8) (N * 2 ^ (8 * ((len + 7) / 8) - len))).map byt).toArray 5 (0, 0)) ∧ Kept [] w w' := by
  have hw' := hw
  obtain ⟨hB, hown⟩ := hw
  obtain ⟨c0, c1, c2, fz⟩ := cells_three hB
  obtain ⟨ao, cp, rfl⟩ := row_form hown
  have q0 : len % 8 < 8 := Nat.mod_lt _ (by decide)
  obtain ⟨i0, hi, hz0, hz1, hz2⟩ := info_parts Tryd.info5
  have hl2 : len ≤ 1125899906842624 := hl
  go_enter Tryd.func83, Tryd.ntmps83
  go_wp2_with (first
    | (go_at_call 102; refine (len_any B _ N len _ hw' (by omega)).mono ?_; rintro e w' ⟨rfl, q, rfl⟩)
    | (at_make; refine wpList_make_full _ rfl _ _ 37 rfl 0 5 i0 (.int .u8 0) 1 Tryd.underlying37 hi hz0 hz1 _ _ _ _ ((len + 7) / 8) rfl rfl (by omega) (by omega) ?b2 ?b3 (by omega) ?_))
  case b2 => rw [hz2]; omega
  case b3 => unfold maxLen; omega
  intro w1 ho1 hg1
  have hK1 : Kept [] w w1 := ((Kept.refl _ _).drewN q).trans (Kept.of_grown hg1)
  have hB1 := hK1.heap hB (by simp)
  have hlt := lt_of_block hB
  have ho2 := hK1.row hown (by simp)
  have hr1 := row_heap ho1 rfl
  rw [toList_madeCells_one] at hr1
  have hb1 : Below w.heap.size w w1 := hK1.below (Nat.le_refl _) (by simp)
  obtain ⟨d0, d1, d2, gz⟩ := cells_three hB1
  have hsz : (Tryd.prog.info? 5).map (·.size) = some 1 := by rw [hi]; simp [hz1]
  have hcl : ((big (len / 8) (N / 2 ^ (len % 8))).map byt).length = len / 8 := by simp [big_length]
  have hone : ∀ v ∈ (big (len / 8) (N / 2 ^ (len % 8))).map byt, v.oneCell' = true := bytes_one _
  have hpos := row_src ho2
  obtain ⟨cs, hcs⟩ : ∃ cs, cs = (big (len / 8) (N / 2 ^ (len % 8))).map byt := ⟨_, rfl⟩
  obtain ⟨cur, hcur⟩ : ∃ cur, cur = List.replicate ((len + 7) / 8) (Value.int .u8 0) := ⟨_, rfl⟩
  rw [← hcs] at hcl hone hpos
  rw [← hcur] at hr1
  have hcur2 : cur.length = (len + 7) / 8 := by rw [hcur]; simp
  have Hcs : Hid (cs = (big (len / 8) (N / 2 ^ (len % 8))).map byt) := hcs
  have Hcur : Hid (cur = List.replicate ((len + 7) / 8) (Value.int .u8 0)) := hcur
  have Hpos : Hid (0 < len / 8 → ∃ ad, ao = some ad ∧ ∀ j u, cs[j]? = some u → w1.cell? (ad.add j) = some u) := hpos
  clear hcs hcur hpos hown ho1 hg1 ho2 hB c0 c1 c2 fz hw' gz
  obtain ⟨w2, hrun, hr2, hK2⟩ := copy_run w1 w.heap.size ((len + 7) / 8) ((len + 7) / 8) ao (len / 8) cp cur cs hr1 hcur2 hcl (by omega) Hpos hone
  have hB2 := hK2.heap hB1 (by simp; omega)
  have hK02 : Kept [] w w2 := hK1.step hK2 (by simp)
  obtain ⟨d0, d1, d2, gz⟩ := cells_three hB2
  clear hB1 hr1 hb1 hsz hone hz0 hz1 hz2 hi i0 gz
  have HB2 := Hid.mk hB2
  have Hr2 := Hid.mk hr2
  have Hcl := Hid.mk hcl
  have Hcur2 := Hid.mk hcur2
  clear hB2 hr2 hcl hcur2
  by_cases hf : len % 8 = 0
  · have hf' : ¬ (0 : Int) < ((len % 8 : Nat) : Int) := by omega
    go_wp2
    go_ret
    refine ⟨rfl, ?_, hK02⟩
    rw [Hr2.out, Hcs.out, Hcur.out, bytes_even N len hf]
  · have hf' : (0 : Int) < ((len % 8 : Nat) : Int) := by omega
    have hne : B ≠ w.heap.size := by omega
    have hne2 : w.heap.size ≠ B := by omega
    have ix : ((len / 8 : Nat) : Int) < (((len + 7) / 8 : Nat) : Int) := by omega
    have hwc : ∃ u, w2.cell? ⟨w.heap.size, len / 8, none⟩ = some u := row_cell_at Hr2.out (by have := Hcl.out; have := Hcur2.out; simp; omega)
    obtain ⟨u, hu⟩ := hwc
    have hfz : w2.frozen? ⟨w.heap.size, len / 8, none⟩ = false := by have := Hr2.out; simp [World.frozen?, this]
    have et : ((len : Int) / 8).toNat = len / 8 := by omega
    have hu' : w2.cell? ⟨w.heap.size, ((len : Int) / 8).toNat, none⟩ = some u := by rw [et]; exact hu
    have hfz' : w2.frozen? ⟨w.heap.size, ((len : Int) / 8).toNat, none⟩ = false := by rw [et]; exact hfz
    clear et
    have hw8 : IntKind.i64.wrap (8 - (len : Int) % 8) = 8 - (len : Int) % 8 := by simp only [IntKind.wrap, IntKind.bits, IntKind.signed]; simp; omega
    have hs0 : (0 : Int) ≤ 8 - (len : Int) % 8 := by omega
    have ix0 : (0 : Int) ≤ (len : Int) / 8 := by omega
    have ix1 : (len : Int) / 8 < ((len : Int) + 7) / 8 := by omega
    have hs1 : 8 - (len : Int) % 8 ≤ 8 := by omega
    go_wp2
    go_region_held3 (fun w' => w'.cell? ⟨B, 0, none⟩ = some (Value.slice ao (len / 8) cp) ∧ w'.cell? ⟨B, 1, none⟩ = some (Value.int IntKind.u64 ((N % 2 ^ (len % 8) : Nat) : Int)) ∧ w'.cell? ⟨B, 2, none⟩ = some (Value.int IntKind.i64 ((len % 8 : Nat) : Int))) (go_keep) (fail)
    all_goals go_wp2
    all_goals go_ret
    refine ⟨rfl, ?_, (hK02.setCell (p := ⟨w.heap.size, ((len : Int) / 8).toNat, none⟩) (by simp) _).drew⟩
    show (World.setCell _ _ _).heap[w.heap.size]? = _
    have et : ((len : Int) / 8).toNat = len / 8 := by omega
    rw [heap_setCell_at Hr2.out, byte_last N len, et, Hcs.out, Hcur.out, List.setIfInBounds_toArray]
    have hb := bytes_odd N len hf _ rfl
    unfold byt at hb ⊢
    rw [hb]
end Go.Proofs.YtodlkpcbkilglaaDoor.Bt
