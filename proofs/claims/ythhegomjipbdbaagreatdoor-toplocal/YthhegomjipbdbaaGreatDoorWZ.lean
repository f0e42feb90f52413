import Derived.Test.YthhegomjipbdbaaGreatDoorKZ
import Derived.Deep.RegionHeld3
import Derived.Deep.RegionWith
import Derived.Deep.DeepCutAuto
import Derived.Deep.QuietTactic
import Derived.BigQuiet
import Derived.Laws.CopyOwn
import Derived.WalkKit
import Derived.WalkSpells
import Derived.WalkLawsBesides
import Derived.Maps.AppendAt
import Derived.Laws.OwnMore
namespace Go.Proofs.YthhegomjipbdbaaGreatDoor
open Go.RowKit

/-- The writer whose struct is block B: its bits are the number N of len digits; v is the slice of its full bytes. -/
def WriterAt (w : World) (B : Nat) (v : Value) (N len : Nat) : Prop :=
  w.heap[B]? = some (.cells #[v, .int .u64 ((N % 2 ^ (len % 8) : Nat) : Int), .int .i64 ((len % 8 : Nat) : Int)] 213 (0, 0)) ∧
  w.ownsRow 0 5 1 v (len / 8) ((big (len / 8) (N / 2 ^ (len % 8))).map byt)

set_option maxHeartbeats 400000 in
theorem newWriter_any (w : World) :
    Calls Tryz.prog 129 #[] w fun e w' => e = .returned (.pointer (some ⟨w.heap.size, 0, none⟩)) ∧ w' = w.alloc (.cells #[.slice none 0 0, .int .u64 0, .int .i64 0] 213) := by
  go_enter Tryz.func129, Tryz.ntmps129
  go_wp2
  go_ret
  exact ⟨rfl, rfl⟩

set_option maxHeartbeats 400000 in
theorem put_width (B : Nat) (v n : Int) (w : World) (h : n < 0 ∨ 32 < n) :
    Calls Tryz.prog 131 #[.pointer (some ⟨B, 0, none⟩), .int .u32 v, .int .i64 n] w fun e w' => e = .returned (.int .i64 11) ∧ w' = w := by
  rcases h with h | h
  · go_enter Tryz.func131, Tryz.ntmps131
    go_wp2
    go_ret
    exact ⟨rfl, rfl⟩
  · have h' : ¬ n < 0 := by omega
    go_enter Tryz.func131, Tryz.ntmps131
    go_wp2
    go_ret
    exact ⟨rfl, rfl⟩

set_option maxHeartbeats 400000 in
theorem put_value (B : Nat) (v n : Int) (w : World) (h0 : 0 ≤ n) (h1 : n ≤ 32) (hv : (v / 2 ^ n.toNat == 0) = false) :
    Calls Tryz.prog 131 #[.pointer (some ⟨B, 0, none⟩), .int .u32 v, .int .i64 n] w fun e w' => e = .returned (.int .i64 12) ∧ w' = w := by
  go_enter Tryz.func131, Tryz.ntmps131
  go_wp2_with (go_at_call 142; refine (fits32_any _ _ _ (by omega) (by omega)).mono ?_; rintro e w' ⟨rfl, rfl⟩)
  go_ret
  exact ⟨rfl, rfl⟩

theorem cells_three {w : World} {B : Nat} {a b c : Value} {t : TypeId} (h : w.heap[B]? = some (.cells #[a, b, c] t (0, 0))) :
    w.cell? ⟨B, 0, none⟩ = some a ∧ w.cell? ⟨B, 1, none⟩ = some b ∧ w.cell? ⟨B, 2, none⟩ = some c ∧ ∀ i, w.frozen? ⟨B, i, none⟩ = false := by
  refine ⟨?_, ?_, ?_, ?_⟩ <;> simp [World.cell?, World.frozen?, h]


theorem heap_setCell_at {w : World} {B i : Nat} {u : Value} {cs : Array Value} {t : TypeId} (h : w.heap[B]? = some (.cells cs t (0, 0))) :
    (w.setCell ⟨B, i, none⟩ u).heap[B]? = some (.cells (cs.setIfInBounds i u) t (0, 0)) := by
  have hlt := lt_of_block h
  have h' : w.heap[B] = .cells cs t (0, 0) := by simpa [Array.getElem?_eq_getElem hlt] using h
  show (w.heap.modify B _)[B]? = _
  rw [Array.getElem?_eq_getElem (by simpa using hlt), Array.getElem_modify_self, h']
  rfl

theorem own_ne {w : World} {B n : Nat} {V : Value} {xs : List Value} {cs : Array Value} {t : TypeId} (h : w.heap[B]? = some (.cells cs t (0, 0))) (ht : t ≠ 5) (ho : w.ownsRow 0 5 1 V n xs) : V.ownBlock ≠ some B := by
  intro e
  rcases ho.2 with ⟨rfl, _⟩ | ⟨g, cap, cur, rfl, _, hg, _⟩
  · simp [Value.ownBlock] at e
  · simp [Value.ownBlock] at e
    subst e
    rw [hg] at h
    simp at h
    exact ht h.2.symm

/-- appendBig beside a block that is not the row's. -/
theorem appendBig_b (B : Nat) (v : Value) (n : Nat) (xs : List Value) (X k : Int) (w : World) (hown : w.ownsRow 0 5 1 v n xs) (k0 : 0 ≤ k) (k1 : k ≤ 8) (X0 : 0 ≤ X) (hn : n + 8 ≤ 140737488355328)
    (hB : B < w.heap.size) (hne : v.ownBlock ≠ some B) :
    Calls Tryz.prog 116 #[v, .int .u64 X, .int .i64 k] w fun e w' => ∃ v', e = .returned v' ∧ w'.ownsRow 0 5 1 v' (n + k.toNat) (xs ++ (big k.toNat X.toNat).map byt) ∧ Kept v.ownBlock.toList w w' ∧ Lies w v v' ∧
      (∀ i, w'.cell? ⟨B, i, none⟩ = w.cell? ⟨B, i, none⟩) ∧ (∀ i, w'.frozen? ⟨B, i, none⟩ = w.frozen? ⟨B, i, none⟩) := by
  refine (appendBig_any v n xs X k w hown k0 k1 X0 hn).mono ?_
  rintro e w' ⟨v', rfl, ho, hk, hl⟩
  have hb := hk.block B hB (by simpa using hne)
  exact ⟨v', rfl, ho, hk, hl, fun i => World.cell?_of_block (a := ⟨B, i, none⟩) hb, fun i => World.frozen?_of_block (a := ⟨B, i, none⟩) hb⟩

theorem row_form {w : World} {base : Nat} {e : TypeId} {size : Nat} {v : Value} {n : Nat} {xs : List Value} (h : w.ownsRow base e size v n xs) : ∃ ao cap, v = .slice ao n cap := by
  rcases h.2 with ⟨rfl, rfl⟩ | ⟨g, cap, cur, rfl, _⟩
  · exact ⟨_, _, rfl⟩
  · exact ⟨_, _, rfl⟩

theorem wp_gen {P : Program} {c : Code} {Q : Exit → Act → World → Prop} {a : Act} {w0 : World} (R : World → Prop) (h0 : R w0) (h : ∀ W, R W → c.wp P Q a W) : c.wp P Q a w0 := h w0 h0

theorem put_meet {w0 W w1 : World} {B n : Nat} {V V1 h f : Value} {ys : List Value} (hBW : W.heap[B]? = some (.cells #[V, h, f] 213 (0, 0))) (hKW : Kept [B] w0 W) (hne : V.ownBlock ≠ some B)
    (ho : w1.ownsRow 0 5 1 V1 n ys) (hk : Kept V.ownBlock.toList W w1) (hL : Lies W V V1) :
    (w1.setCell ⟨B, 0, none⟩ V1).heap[B]? = some (.cells #[V1, h, f] 213 (0, 0)) ∧ (w1.setCell ⟨B, 0, none⟩ V1).ownsRow 0 5 1 V1 n ys ∧ Kept (B :: V.ownBlock.toList) w0 (w1.setCell ⟨B, 0, none⟩ V1) ∧ Lies w0 V V1 := by
  have h1 := hk.heap hBW (by simpa using hne)
  have hn1 := own_ne h1 (by decide) ho
  refine ⟨by rw [heap_setCell_at h1]; simp, ownsRow_setCell_other ho hn1 _, ?_, ?_⟩
  · exact ((hKW.mono (l2 := B :: V.ownBlock.toList) (by simp)).step hk (fun x hx => .inl (List.mem_cons_of_mem _ hx))).setCell (by simp) _
  · rcases hL with h | ⟨g, hg, hl⟩
    · exact .inl h
    · exact .inr ⟨g, hg, Nat.le_trans hKW.size hl⟩


set_option maxHeartbeats 4000000 in
set_option maxRecDepth 1000000 in
theorem put_low (B : Nat) (V : Value) (m : Nat) (xs : List Value) (H F v n T : Int) (w : World) (hB : w.heap[B]? = some (.cells #[V, .int .u64 H, .int .i64 F] 213 (0, 0))) (hown : w.ownsRow 0 5 1 V m xs)
    (h0 : 0 ≤ n) (h1 : n ≤ 32) (hv : (v / 2 ^ n.toNat == 0) = true) (F0 : 0 ≤ F) (F1 : F < 8) (T0 : 0 ≤ T) (T1 : T < 18446744073709551616)
    (hor : bits BinOp.or IntKind.u64 (IntKind.u64.wrap (H * 2 ^ n.toNat)) (IntKind.u64.wrap v) = T) (hl : m + 8 ≤ 140737488355328) :
    Calls Tryz.prog 131 #[.pointer (some ⟨B, 0, none⟩), .int .u32 v, .int .i64 n] w fun e w' => e = .returned (.int .i64 0) ∧
      ∃ V', w'.heap[B]? = some (.cells #[V', .int .u64 (T % 2 ^ ((F + n) % 8).toNat), .int .i64 ((F + n) % 8)] 213 (0, 0)) ∧
        w'.ownsRow 0 5 1 V' (m + ((F + n) / 8).toNat) (xs ++ (big ((F + n) / 8).toNat (T / 2 ^ ((F + n) % 8).toNat).toNat).map byt) ∧ Kept (B :: V.ownBlock.toList) w w' ∧ Lies w V V' := by
  obtain ⟨c0, c1, c2, fz⟩ := cells_three hB
  have hne := own_ne hB (by decide) hown
  have hBs := lt_of_block hB
  have f1 := fz 1
  have f2 := fz 2
  have f0 := fz 0
  clear fz
  go_enter Tryz.func131, Tryz.ntmps131
  go_wp2_with (go_at_call 142; refine (fits32_any _ _ _ (by omega) (by omega)).mono ?_; rintro e w' ⟨rfl, rfl⟩)
  refine wp_gen (fun W => W.heap[B]? = some (.cells #[V, .int .u64 T, .int .i64 ((F + n) % 8)] 213 (0, 0)) ∧ Kept [B] w' W) ⟨?_, ?_⟩ ?_
  · rw [heap_setCell_at (heap_setCell_at (heap_setCell_at hB))]; simp
  · exact (((Kept.refl _ _).setCell (by simp) _).setCell (by simp) _).setCell (by simp) _
  intro W ⟨hBW, hKW⟩
  have hoW := hKW.row hown (by simpa using fun g hg => fun e => hne (by rw [hg, e]))
  obtain ⟨d0, d1, d2, gz⟩ := cells_three hBW
  have g0 := gz 0
  have g1 := gz 1
  have hBs' := lt_of_block hBW
  clear gz c0 c1 c2 f0 f1 f2
  go_cut [0] (fun s0 w1 => s0 = .pointer (some ⟨B, 0, none⟩) ∧ ∃ V', w1.heap[B]? = some (.cells #[V', .int .u64 T, .int .i64 ((F + n) % 8)] 213 (0, 0)) ∧
        w1.ownsRow 0 5 1 V' (m + ((F + n) / 8).toNat) (xs ++ (big ((F + n) / 8).toNat (T / 2 ^ ((F + n) % 8).toNat).toNat).map byt) ∧ Kept (B :: V.ownBlock.toList) w' w1 ∧ Lies w' V V')
  case first =>
    go_region_with (go_at_call 116; refine (appendBig_b B V m xs _ _ _ ?_ ?_ ?_ ?_ ?_ ?_ ?_).mono ?_; exact hoW; omega; omega; exact Int.ediv_nonneg (by omega) (by exact Int.le_of_lt (Int.pow_pos (by decide))); omega; exact hBs'; exact hne; rintro e w1 ⟨v', rfl, ho, hk, hL, kc, kf⟩; obtain ⟨ao, cp, rfl⟩ := row_form ho; have k0 := (kc 0).trans d0; have k1 := (kc 1).trans d1; have k2 := (kc 2).trans d2; have z0 := (kf 0).trans g0; have z1 := (kf 1).trans g1; clear kc kf)
    all_goals go_wp2
    all_goals go_meet
    all_goals exact ⟨rfl, _, put_meet hBW hKW hne ho hk.undrew hL⟩
  case rest =>
    obtain ⟨rfl, V', e1, e2, e3, e4⟩ := hcut
    obtain ⟨a0, a1, a2, gz⟩ := cells_three e1
    have y1 := gz 1
    clear gz hBW d0 d1 d2 g0 g1 hoW hKW
    go_wp2_with fail
    go_region_with (go_at_call 143; refine (lowest_any _ _ _ (by omega) (by omega) (by omega) (by omega)).mono ?_; rintro e w1 ⟨rfl, rfl⟩)
    all_goals go_wp2
    all_goals go_ret
    all_goals
      refine ⟨rfl, V', ?_, ?_, ?_, e4⟩
      · show (World.setCell _ _ _).heap[B]? = _
        rw [heap_setCell_at e1]; simp
      · exact ownsRow_setCell_other e2 (own_ne e1 (by decide) e2) _
      · exact (e3.setCell (p := ⟨B, 1, none⟩) (by simp) _).drew
end Go.Proofs.YthhegomjipbdbaaGreatDoor

namespace Go.Proofs.YthhegomjipbdbaaGreatDoor
open Go.RowKit

theorem pow_two_int (n : Nat) : ((2 : Int) ^ n) = (((2 : Nat) ^ n : Nat) : Int) := by simp

/-- The writer's or: the bits held, moved up, and the new ones. -/
theorem or_eq (H : Nat) (v n : Int) (f : Nat) (hH : H < 2 ^ f) (hf : f < 8) (h1 : n ≤ 32) (v0 : 0 ≤ v) (hv : v.toNat < 2 ^ n.toNat) :
    bits BinOp.or IntKind.u64 (IntKind.u64.wrap ((H : Int) * 2 ^ n.toNat)) (IntKind.u64.wrap v) = ((H * 2 ^ n.toNat + v.toNat : Nat) : Int) := by
  obtain ⟨x, rfl⟩ := Int.eq_ofNat_of_zero_le v0
  rw [Int.toNat_natCast] at hv ⊢
  have hn : n.toNat ≤ 32 := by omega
  generalize n.toNat = k at *
  have hk : 2 ^ k ≤ 2 ^ 32 := Nat.pow_le_pow_right (by decide) hn
  have hH2 : H < 2 ^ 8 := Nat.lt_of_lt_of_le hH (Nat.pow_le_pow_right (by decide) (by omega))
  have hHk : H * 2 ^ k < 2 ^ 40 := by
    have h1 : H * 2 ^ k ≤ H * 2 ^ 32 := Nat.mul_le_mul_left _ hk
    have h2 : H * 2 ^ 32 < 2 ^ 8 * 2 ^ 32 := Nat.mul_lt_mul_of_pos_right hH2 (by decide)
    have h3 : 2 ^ 8 * 2 ^ 32 = 2 ^ 40 := by decide
    omega
  rw [IntKind.wrap_u64, IntKind.wrap_u64, pow_two_int]
  have e1 : ((H : Int) * ((2 ^ k : Nat) : Int)) % 18446744073709551616 = ((H * 2 ^ k : Nat) : Int) := by
    rw [← Int.natCast_mul]; omega
  have e2 : ((x : Int)) % 18446744073709551616 = (x : Int) := by omega
  rw [e1, e2, u64_or_nat _ _ (by omega) (by omega), nat_join k _ _ (by simp) hv]

theorem fits_iff (v n : Int) (v0 : 0 ≤ v) : (v / 2 ^ n.toNat == 0) = decide (v.toNat < 2 ^ n.toNat) := by
  obtain ⟨x, rfl⟩ := Int.eq_ofNat_of_zero_le v0
  rw [pow_two_int, Int.toNat_natCast, Bool.eq_iff_iff, beq_iff_eq, decide_eq_true_iff, ← Int.natCast_ediv]
  have := Nat.div_eq_zero_iff (a := x) (b := 2 ^ n.toNat)
  have hp := Nat.two_pow_pos n.toNat
  omega

theorem put_any (B : Nat) (V : Value) (N len : Nat) (v n : Int) (w : World) (hw : WriterAt w B V N len) (h0 : 0 ≤ n) (h1 : n ≤ 32) (v0 : 0 ≤ v) (hv : v.toNat < 2 ^ n.toNat) (hl : len / 8 + 8 ≤ 140737488355328) :
    Calls Tryz.prog 131 #[.pointer (some ⟨B, 0, none⟩), .int .u32 v, .int .i64 n] w fun e w' => e = .returned (.int .i64 0) ∧
      ∃ V', WriterAt w' B V' (N * 2 ^ n.toNat + v.toNat) (len + n.toNat) ∧ Kept (B :: V.ownBlock.toList) w w' ∧ Lies w V V' := by
  obtain ⟨hB, hown⟩ := hw
  have q0 : len % 8 < 8 := Nat.mod_lt _ (by decide)
  have hH : N % 2 ^ (len % 8) < 2 ^ (len % 8) := Nat.mod_lt _ (Nat.two_pow_pos _)
  have hk : 2 ^ n.toNat ≤ 2 ^ 32 := Nat.pow_le_pow_right (by decide) (by omega)
  have hH2 : N % 2 ^ (len % 8) < 2 ^ 8 := Nat.lt_of_lt_of_le hH (Nat.pow_le_pow_right (by decide) (by omega))
  have hT : N % 2 ^ (len % 8) * 2 ^ n.toNat < 2 ^ 40 := by
    have h1 : N % 2 ^ (len % 8) * 2 ^ n.toNat ≤ N % 2 ^ (len % 8) * 2 ^ 32 := Nat.mul_le_mul_left _ hk
    have h2 : N % 2 ^ (len % 8) * 2 ^ 32 < 2 ^ 8 * 2 ^ 32 := Nat.mul_lt_mul_of_pos_right hH2 (by decide)
    have h3 : 2 ^ 8 * 2 ^ 32 = 2 ^ 40 := by decide
    omega
  refine (put_low B V (len / 8) _ _ _ v n ((N % 2 ^ (len % 8) * 2 ^ n.toNat + v.toNat : Nat) : Int) w hB hown h0 h1 (by rw [fits_iff v n v0]; simpa using hv) (by omega) (by omega) (by omega) (by omega)
    (or_eq _ v n _ hH q0 h1 v0 hv) hl).mono ?_
  rintro e w' ⟨rfl, V', e1, e2, e3, e4⟩
  refine ⟨rfl, V', ⟨?_, ?_⟩, e3, e4⟩
  · rw [e1]
    have a1 : (((len % 8 : Nat) : Int) + n) % 8 = (((len % 8 + n.toNat) % 8 : Nat) : Int) := by omega
    have a2 : (len % 8 + n.toNat) % 8 = (len + n.toNat) % 8 := by omega
    rw [a1, Int.toNat_natCast, pow_two_int, ← Int.natCast_emod, put_held _ _ _ _ hv, a2]
  · have a1 : (((len % 8 : Nat) : Int) + n) % 8 = (((len % 8 + n.toNat) % 8 : Nat) : Int) := by omega
    have a2 : (((len % 8 : Nat) : Int) + n) / 8 = (((len % 8 + n.toNat) / 8 : Nat) : Int) := by omega
    have a3 : len / 8 + (len % 8 + n.toNat) / 8 = (len + n.toNat) / 8 := by omega
    have a4 : (len % 8 + n.toNat) % 8 = (len + n.toNat) % 8 := by omega
    rw [a1, a2, Int.toNat_natCast, Int.toNat_natCast, pow_two_int, ← Int.natCast_ediv, Int.toNat_natCast, ← List.map_append, put_bytes _ _ _ _ _ hv, a3, a4] at e2
    exact e2

set_option maxHeartbeats 400000 in
theorem len_any (B : Nat) (V : Value) (N len : Nat) (w : World) (hw : WriterAt w B V N len) (hl : len ≤ 2 ^ 60) :
    Calls Tryz.prog 156 #[.pointer (some ⟨B, 0, none⟩)] w fun e w' => e = .returned (.int .i64 (len : Int)) ∧ ∃ q, w' = w.drewN q := by
  obtain ⟨hB, hown⟩ := hw
  obtain ⟨c0, c1, c2, fz⟩ := cells_three hB
  obtain ⟨ao, cp, rfl⟩ := row_form hown
  have q0 : len % 8 < 8 := Nat.mod_lt _ (by decide)
  have q1 : len / 8 ≤ 1152921504606846976 := by omega
  go_enter Tryz.func156, Tryz.ntmps156
  go_wp2_with fail
  go_quiet (fail)
  go_wp2
  go_ret
  exact ⟨ret_int (by omega), _, rfl⟩

theorem madeBytes (n : Nat) : (madeCells (Value.int .u8 0).cells (n * 1)).toList = List.replicate n (byt 0) := by
  rw [Nat.mul_one]; exact toList_madeCells_one _ _

theorem row_heap {w : World} {base e n cap g : Nat} {xs : List Value} (h : w.ownsRow base e 1 (.slice (some ⟨g, 0, none⟩) n cap) n xs) (hc : cap = n) : w.heap[g]? = some (.cells xs.toArray e (0, 0)) := by
  subst hc
  rcases h.2 with ⟨h1, _⟩ | ⟨g', cap', cur, h1, _, hg, _, _, hs, ht⟩
  · simp at h1
  · simp at h1
    obtain ⟨rfl, rfl⟩ := h1
    rw [hg]
    have : cur.toList.take (cap * 1) = cur.toList := List.take_of_length_le (by simp; omega)
    rw [this] at ht
    rw [← ht]

theorem bytes_one (l : List Nat) : ∀ v ∈ l.map byt, v.oneCell' = true := by
  intro v hv
  simp only [List.mem_map] at hv
  obtain ⟨b, _, rfl⟩ := hv
  rfl

theorem row_src {w : World} {ao : Option Addr} {base e n cap : Nat} {xs : List Value} (h : w.ownsRow base e 1 (.slice ao n cap) n xs) : 0 < n → ∃ ad, ao = some ad ∧ ∀ j u, xs[j]? = some u → w.cell? (ad.add j) = some u := by
  intro hn
  rcases h.2 with ⟨_, h1⟩ | ⟨g, cap', cur, h1, _⟩
  · omega
  · simp at h1
    obtain ⟨rfl, rfl⟩ := h1
    exact ⟨_, rfl, h.cells rfl⟩

theorem Hid.mk {p : Prop} (h : p) : Hid p := h

theorem copy_run (w : World) (g n dcap : Nat) (ao : Option Addr) (m cp : Nat) (cur cs : List Value) (hr : w.heap[g]? = some (.cells cur.toArray 5 (0, 0))) (hcur : cur.length = n) (hm : cs.length = m) (hmn : m ≤ n)
    (hpos : 0 < m → ∃ ad, ao = some ad ∧ ∀ j u, cs[j]? = some u → w.cell? (ad.add j) = some u) (hone : ∀ v ∈ cs, v.oneCell' = true) :
    ∃ w2, Sem.run Tryz.prog (Builtin.copy_ #[28, 28] 3 #[.slice (some ⟨g, 0, none⟩) n dcap, .slice ao m cp]) w = .ok (goInt m) w2 ∧ w2.heap[g]? = some (.cells (cs ++ cur.drop m).toArray 5 (0, 0)) ∧ Kept [g] w w2 := by
  obtain ⟨i0, hi, hz0, hz1, hz2⟩ := info_parts Tryz.info5
  have hsz : (Tryz.prog.info? 5).map (·.size) = some 1 := by rw [hi]; simp [hz1]
  by_cases h0 : m = 0
  · subst h0
    have hcs : cs = [] := List.eq_nil_of_length_eq_zero hm
    subst hcs
    exact ⟨w, run_copy_none w 28 28 3 5 _ _ _ _ _ _ Tryz.underlying28 hsz (by simp), by simpa using hr, Kept.refl _ _⟩
  · obtain ⟨ad, rfl, hsrc⟩ := hpos (by omega)
    have h := run_copy_row (P := Tryz.prog) w 28 28 3 5 g 0 n dcap ad m cp cur.toArray 5 cs Tryz.underlying28 hsz hr (by show _ = min _ _; omega) hsrc (by simp; omega) hone
    rw [hm] at h
    refine ⟨w.setRow g (cs ++ cur.drop m).toArray, ?_, ?_, ?_⟩
    · refine h.trans ?_
      simp
    · exact setRow_heap w g _ _ 5 _ hr
    · exact ⟨rfl, rfl, rfl, by simp [World.setRow], fun k _ hk => setRow_other w g k _ (by simpa using hk)⟩

theorem bytes_even (N len : Nat) (h : len % 8 = 0) : (big (len / 8) (N / 2 ^ (len % 8))).map byt ++ (List.replicate ((len + 7) / 8) (Value.int .u8 0)).drop (len / 8) = (big ((len + 7) / 8) (N * 2 ^ (8 * ((len + 7) / 8) - len))).map byt := by
  have h1 : (len + 7) / 8 = len / 8 := by omega
  have h2 : 8 * (len / 8) - len = 0 := by omega
  rw [h, h1, h2]
  simp

theorem bytes_odd (N len : Nat) (h : len % 8 ≠ 0) (u : Nat) (hu : u = N % 2 ^ (len % 8) * 2 ^ (8 - len % 8)) :
    ((big (len / 8) (N / 2 ^ (len % 8))).map byt ++ (List.replicate ((len + 7) / 8) (Value.int .u8 0)).drop (len / 8)).set (len / 8) (byt u) = (big ((len + 7) / 8) (N * 2 ^ (8 * ((len + 7) / 8) - len))).map byt := by
  have h1 : (len + 7) / 8 = len / 8 + 1 := by omega
  have h2 : 8 * (len / 8 + 1) - len = 8 - len % 8 := by omega
  have h3 : 2 ^ (len % 8) * 2 ^ (8 - len % 8) = 256 := by rw [← Nat.pow_add, show len % 8 + (8 - len % 8) = 8 by omega]
  have e1 : N * 2 ^ (8 - len % 8) / 256 = N / 2 ^ (len % 8) := by rw [← h3, Nat.mul_div_mul_right _ _ (Nat.two_pow_pos _)]
  have e2 : N * 2 ^ (8 - len % 8) % 256 = u := by rw [← h3, Nat.mul_mod_mul_right, hu]
  rw [h1, h2, big, e1, e2]
  have e3 : (List.replicate (len / 8 + 1) (Value.int .u8 0)).drop (len / 8) = [Value.int .u8 0] := by simp
  rw [e3, List.set_append_right _ _ (by simp [big_length])]
  simp [big_length]

theorem byte_last (N len : Nat) : IntKind.u8.wrap (IntKind.u64.wrap ((N : Int) % 2 ^ (len % 8) * 2 ^ (8 - (len : Int) % 8).toNat)) = ((N % 2 ^ (len % 8) * 2 ^ (8 - len % 8) : Nat) : Int) := by
  have e : (8 - (len : Int) % 8).toNat = 8 - len % 8 := by omega
  have h3 : 2 ^ (len % 8) * 2 ^ (8 - len % 8) = 256 := by rw [← Nat.pow_add, show len % 8 + (8 - len % 8) = 8 by omega]
  have h4 : N % 2 ^ (len % 8) * 2 ^ (8 - len % 8) < 256 := by
    rw [← h3]; exact Nat.mul_lt_mul_of_pos_right (Nat.mod_lt _ (Nat.two_pow_pos _)) (Nat.two_pow_pos _)
  rw [e, pow_two_int, pow_two_int, ← Int.natCast_emod, ← Int.natCast_mul, IntKind.wrap_u64, IntKind.wrap_u8']
  omega

theorem row_cell_at {w : World} {g j e : Nat} {cs : List Value} (h : w.heap[g]? = some (.cells cs.toArray e (0, 0))) (hj : j < cs.length) : ∃ u, w.cell? ⟨g, j, none⟩ = some u := by
  exact ⟨cs[j], by simp [World.cell?, h, hj]⟩

set_option maxHeartbeats 2000000 in
set_option maxRecDepth 1000000 in
theorem bytes_any (B : Nat) (V : Value) (N len : Nat) (w : World) (hw : WriterAt w B V N len) (hl : len ≤ 2 ^ 50) :
    Calls Tryz.prog 135 #[.pointer (some ⟨B, 0, none⟩)] w fun e w' => e = .returned (.slice (some ⟨w.heap.size, 0, none⟩) ((len + 7) / 8) ((len + 7) / 8)) ∧
      w'.heap[w.heap.size]? = some (.cells ((big ((len + 7) / 8) (N * 2 ^ (8 * ((len + 7) / 8) - len))).map byt).toArray 5 (0, 0)) ∧ Kept [] w w' := by
  have hw' := hw
  obtain ⟨hB, hown⟩ := hw
  obtain ⟨c0, c1, c2, fz⟩ := cells_three hB
  obtain ⟨ao, cp, rfl⟩ := row_form hown
  have q0 : len % 8 < 8 := Nat.mod_lt _ (by decide)
  obtain ⟨i0, hi, hz0, hz1, hz2⟩ := info_parts Tryz.info5
  have hl2 : len ≤ 1125899906842624 := hl
  go_enter Tryz.func135, Tryz.ntmps135
  go_wp2_with (first
    | (go_at_call 156; refine (len_any B _ N len _ hw' (by omega)).mono ?_; rintro e w' ⟨rfl, q, rfl⟩)
    | (at_make; refine wpList_make_full _ rfl _ _ 28 rfl 0 5 i0 (.int .u8 0) 1 Tryz.underlying28 hi hz0 hz1 _ _ _ _ ((len + 7) / 8) rfl rfl (by omega) (by omega) ?b2 ?b3 (by omega) ?_))
  case b2 => rw [hz2]; omega
  case b3 => unfold maxLen; omega
  intro w1 ho1 hg1
  have hK1 : Kept [] w w1 := ((Kept.refl _ _).drewN q).trans (Kept.of_grown hg1)
  have hB1 := hK1.heap hB (by simp)
  have hlt := lt_of_block hB
  have ho2 := hK1.row hown (by simp)
  have hr1 := row_heap ho1 rfl
  rw [toList_madeCells_one] at hr1
  have hb1 : Below w.heap.size w w1 := hK1.below (Nat.le_refl _) (by simp)
  obtain ⟨d0, d1, d2, gz⟩ := cells_three hB1
  have hsz : (Tryz.prog.info? 5).map (·.size) = some 1 := by rw [hi]; simp [hz1]
  have hcl : ((big (len / 8) (N / 2 ^ (len % 8))).map byt).length = len / 8 := by simp [big_length]
  have hone : ∀ v ∈ (big (len / 8) (N / 2 ^ (len % 8))).map byt, v.oneCell' = true := bytes_one _
  have hpos := row_src ho2
  obtain ⟨cs, hcs⟩ : ∃ cs, cs = (big (len / 8) (N / 2 ^ (len % 8))).map byt := ⟨_, rfl⟩
  obtain ⟨cur, hcur⟩ : ∃ cur, cur = List.replicate ((len + 7) / 8) (Value.int .u8 0) := ⟨_, rfl⟩
  rw [← hcs] at hcl hone hpos
  rw [← hcur] at hr1
  have hcur2 : cur.length = (len + 7) / 8 := by rw [hcur]; simp
  have Hcs : Hid (cs = (big (len / 8) (N / 2 ^ (len % 8))).map byt) := hcs
  have Hcur : Hid (cur = List.replicate ((len + 7) / 8) (Value.int .u8 0)) := hcur
  have Hpos : Hid (0 < len / 8 → ∃ ad, ao = some ad ∧ ∀ j u, cs[j]? = some u → w1.cell? (ad.add j) = some u) := hpos
  clear hcs hcur hpos hown ho1 hg1 ho2 hB c0 c1 c2 fz hw' gz
  obtain ⟨w2, hrun, hr2, hK2⟩ := copy_run w1 w.heap.size ((len + 7) / 8) ((len + 7) / 8) ao (len / 8) cp cur cs hr1 hcur2 hcl (by omega) Hpos hone
  have hB2 := hK2.heap hB1 (by simp; omega)
  have hK02 : Kept [] w w2 := hK1.step hK2 (by simp)
  obtain ⟨d0, d1, d2, gz⟩ := cells_three hB2
  clear hB1 hr1 hb1 hsz hone hz0 hz1 hz2 hi i0 gz
  have HB2 := Hid.mk hB2
  have Hr2 := Hid.mk hr2
  have Hcl := Hid.mk hcl
  have Hcur2 := Hid.mk hcur2
  clear hB2 hr2 hcl hcur2
  by_cases hf : len % 8 = 0
  · have hf' : ¬ (0 : Int) < ((len % 8 : Nat) : Int) := by omega
    go_wp2
    go_ret
    refine ⟨rfl, ?_, hK02⟩
    rw [Hr2.out, Hcs.out, Hcur.out, bytes_even N len hf]
  · have hf' : (0 : Int) < ((len % 8 : Nat) : Int) := by omega
    have hne : B ≠ w.heap.size := by omega
    have hne2 : w.heap.size ≠ B := by omega
    have ix : ((len / 8 : Nat) : Int) < (((len + 7) / 8 : Nat) : Int) := by omega
    have hwc : ∃ u, w2.cell? ⟨w.heap.size, len / 8, none⟩ = some u := row_cell_at Hr2.out (by have := Hcl.out; have := Hcur2.out; simp; omega)
    obtain ⟨u, hu⟩ := hwc
    have hfz : w2.frozen? ⟨w.heap.size, len / 8, none⟩ = false := by have := Hr2.out; simp [World.frozen?, this]
    have et : ((len : Int) / 8).toNat = len / 8 := by omega
    have hu' : w2.cell? ⟨w.heap.size, ((len : Int) / 8).toNat, none⟩ = some u := by rw [et]; exact hu
    have hfz' : w2.frozen? ⟨w.heap.size, ((len : Int) / 8).toNat, none⟩ = false := by rw [et]; exact hfz
    clear et
    have hw8 : IntKind.i64.wrap (8 - (len : Int) % 8) = 8 - (len : Int) % 8 := by simp only [IntKind.wrap, IntKind.bits, IntKind.signed]; simp; omega
    have hs0 : (0 : Int) ≤ 8 - (len : Int) % 8 := by omega
    have ix0 : (0 : Int) ≤ (len : Int) / 8 := by omega
    have ix1 : (len : Int) / 8 < ((len : Int) + 7) / 8 := by omega
    have hs1 : 8 - (len : Int) % 8 ≤ 8 := by omega
    go_wp2
    go_region_held3 (fun w' => w'.cell? ⟨B, 0, none⟩ = some (Value.slice ao (len / 8) cp) ∧ w'.cell? ⟨B, 1, none⟩ = some (Value.int IntKind.u64 ((N % 2 ^ (len % 8) : Nat) : Int)) ∧ w'.cell? ⟨B, 2, none⟩ = some (Value.int IntKind.i64 ((len % 8 : Nat) : Int))) (go_keep) (fail)
    all_goals go_wp2
    all_goals go_ret
    refine ⟨rfl, ?_, (hK02.setCell (p := ⟨w.heap.size, ((len : Int) / 8).toNat, none⟩) (by simp) _).drew⟩
    show (World.setCell _ _ _).heap[w.heap.size]? = _
    have et : ((len : Int) / 8).toNat = len / 8 := by omega
    rw [heap_setCell_at Hr2.out, byte_last N len, et, Hcs.out, Hcur.out, List.setIfInBounds_toArray]
    have hb := bytes_odd N len hf _ rfl
    unfold byt at hb ⊢
    rw [hb]
end Go.Proofs.YthhegomjipbdbaaGreatDoor

namespace Go.Proofs.YthhegomjipbdbaaGreatDoor
open Go.RowKit

theorem set_mid {α : Type} (X Z : List α) (y u : α) (j : Nat) (hj : X.length = j) : (X ++ y :: Z).set j u = X ++ u :: Z := by
  subst hj
  rw [List.set_append_right _ _ (Nat.le_refl _), Nat.sub_self, List.set_cons_zero]

end Go.Proofs.YthhegomjipbdbaaGreatDoor

namespace Go.Proofs.YthhegomjipbdbaaGreatDoor
/-- The range: so many unlike quotients there are. -/
def rg (T d : Int) : Int := (T + 2 * d) / (2 * d + 1) + 1
def ct (n l h : Int) : Int := min (max n l) h
def mg (n : Int) : Int := if n < 0 then -n else n

/-- The unreduced quotient of an error within its bounds. -/
def uq (d e : Int) : Int := if e < 0 then -((-e + d) / (2 * d + 1)) else (e + d) / (2 * d + 1)
/-- Reduced. -/
def rq (T d q : Int) : Int := if q < -(rg T d / 2) then q + rg T d else if (rg T d - 1) / 2 < q then q - rg T d else q
def shr (T d e : Int) : Int := rq T d (uq d (ct e (-T) T))
/-- Brought back. -/
def bk (T d v : Int) : Int := if v < -d then v + rg T d * (2 * d + 1) else if T + d < v then v - rg T d * (2 * d + 1) else v
def gro (T d p q : Int) : Int := ct (bk T d (ct p 0 T + ct q (-rg T d) (rg T d) * (2 * d + 1))) 0 T

/-- What a model is made by. -/
structure Gd (T d : Int) : Prop where
  top : T = 1023 ∨ T = 4095
  lo : 0 ≤ d
  hi : d ≤ 63

theorem ct_id {n l h : Int} (h0 : l ≤ n) (h1 : n ≤ h) : ct n l h = n := by unfold ct; omega
theorem ct_lo {n l h : Int} (h0 : l ≤ h) : l ≤ ct n l h := by unfold ct; omega
theorem ct_hi {n l h : Int} : ct n l h ≤ h := by unfold ct; omega

theorem rg_mul (T d : Int) (G : Gd T d) : T + 2 * d + 1 ≤ rg T d * (2 * d + 1) ∧ rg T d * (2 * d + 1) ≤ T + 4 * d + 1 := by
  have h0 := G.lo
  unfold rg
  have h1 := Int.mul_ediv_add_emod (T + 2 * d) (2 * d + 1)
  have h2 := Int.emod_nonneg (T + 2 * d) (b := 2 * d + 1) (by omega)
  have h3 := Int.emod_lt_of_pos (T + 2 * d) (b := 2 * d + 1) (by omega)
  have h4 : ((T + 2 * d) / (2 * d + 1) + 1) * (2 * d + 1) = (2 * d + 1) * ((T + 2 * d) / (2 * d + 1)) + (2 * d + 1) := by rw [Int.add_mul, Int.mul_comm]; omega
  rw [h4]
  omega

theorem rg_pos (T d : Int) (G : Gd T d) : 9 ≤ rg T d ∧ rg T d ≤ 4096 := by
  have h0 := G.lo
  have h9 := G.hi
  unfold rg
  constructor
  · have : 8 ≤ (T + 2 * d) / (2 * d + 1) := by
      rw [Int.le_ediv_iff_mul_le (by omega)]
      rcases G.top with h | h <;> omega
    omega
  · have : (T + 2 * d) / (2 * d + 1) < 4096 := by
      rw [Int.ediv_lt_iff_lt_mul (by omega)]
      rcases G.top with h | h <;> omega
    omega

/-- What the unreduced quotient is. -/
theorem uq_is (d e : Int) (hd : 0 ≤ d) : -d ≤ e - uq d e * (2 * d + 1) ∧ e - uq d e * (2 * d + 1) ≤ d := by
  unfold uq
  split
  · have h1 := Int.mul_ediv_add_emod (-e + d) (2 * d + 1)
    have h2 := Int.emod_nonneg (-e + d) (b := 2 * d + 1) (by omega)
    have h3 := Int.emod_lt_of_pos (-e + d) (b := 2 * d + 1) (by omega)
    rw [Int.neg_mul, Int.mul_comm]
    omega
  · have h1 := Int.mul_ediv_add_emod (e + d) (2 * d + 1)
    have h2 := Int.emod_nonneg (e + d) (b := 2 * d + 1) (by omega)
    have h3 := Int.emod_lt_of_pos (e + d) (b := 2 * d + 1) (by omega)
    rw [Int.mul_comm]
    omega

/-- There is but one number so near. -/
theorem near_one {d e u v : Int} (hd : 0 ≤ d) (h1 : -d ≤ e - u * (2 * d + 1)) (h2 : e - u * (2 * d + 1) ≤ d)
    (h3 : -d ≤ e - v * (2 * d + 1)) (h4 : e - v * (2 * d + 1) ≤ d) : u = v := by
  have a : (u - v) * (2 * d + 1) < 1 * (2 * d + 1) := by rw [Int.sub_mul]; omega
  have b : (v - u) * (2 * d + 1) < 1 * (2 * d + 1) := by rw [Int.sub_mul]; omega
  have a' := Int.lt_of_mul_lt_mul_right a (by omega)
  have b' := Int.lt_of_mul_lt_mul_right b (by omega)
  omega

theorem uq_one {d e u : Int} (hd : 0 ≤ d) (h1 : -d ≤ e - u * (2 * d + 1)) (h2 : e - u * (2 * d + 1) ≤ d) : uq d e = u :=
  near_one hd (uq_is d e hd).1 (uq_is d e hd).2 h1 h2

theorem uq_lt (T d e : Int) (G : Gd T d) (h0 : -T ≤ e) (h1 : e ≤ T) : -rg T d < uq d e ∧ uq d e < rg T d := by
  have hm := (rg_mul T d G).1
  have hu := uq_is d e G.lo
  have hd := G.lo
  constructor
  · have : (-rg T d) * (2 * d + 1) < uq d e * (2 * d + 1) := by rw [Int.neg_mul]; omega
    exact Int.lt_of_mul_lt_mul_right this (by omega)
  · have : uq d e * (2 * d + 1) < rg T d * (2 * d + 1) := by omega
    exact Int.lt_of_mul_lt_mul_right this (by omega)

theorem rq_bounds (T d u : Int) (G : Gd T d) (h0 : -rg T d < u) (h1 : u < rg T d) : -(rg T d / 2) ≤ rq T d u ∧ rq T d u ≤ (rg T d - 1) / 2 := by
  have := rg_pos T d G
  unfold rq
  split
  · omega
  · split <;> omega

theorem bk_is (T d p x g u : Int) (G : Gd T d) (hg : g = 1 ∨ g = -1) (p0 : 0 ≤ p) (p1 : p ≤ T)
    (x0 : 0 ≤ x) (x1 : x ≤ T) (hu : -d ≤ x - (p + g * u * (2 * d + 1))) (hu' : x - (p + g * u * (2 * d + 1)) ≤ d)
    : bk T d (p + g * rq T d u * (2 * d + 1)) = p + g * u * (2 * d + 1) := by
  have hm := (rg_mul T d G).1
  have hd := G.lo
  unfold rq
  split
  · rcases hg with rfl | rfl
    · rw [Int.one_mul, Int.one_mul, Int.add_mul] at *
      unfold bk; split <;> first | omega | (split <;> omega)
    · simp only [Int.neg_mul, Int.one_mul, Int.add_mul] at *
      unfold bk; split <;> first | omega | (split <;> omega)
  · split
    · rcases hg with rfl | rfl
      · rw [Int.one_mul, Int.one_mul, Int.sub_mul] at *
        unfold bk; split <;> first | omega | (split <;> omega)
      · simp only [Int.neg_mul, Int.one_mul, Int.sub_mul] at *
        unfold bk; split <;> first | omega | (split <;> omega)
    · unfold bk
      rw [if_neg (by omega), if_neg (by omega)]

/-- P9.1, P9.2. -/
theorem near_all (T d x p g : Int) (G : Gd T d) (hg : g = 1 ∨ g = -1) (p0 : 0 ≤ p) (p1 : p ≤ T) (x0 : 0 ≤ x) (x1 : x ≤ T) :
    let q := shr T d (g * (x - p))
    let y := gro T d p (g * q)
    0 ≤ y ∧ y ≤ T ∧ -d ≤ y - x ∧ y - x ≤ d ∧ shr T d (g * (y - p)) = q ∧ -(rg T d / 2) ≤ q ∧ q ≤ (rg T d - 1) / 2 := by
  intro q y
  have hd := G.lo
  have hT : 0 ≤ T := by rcases G.top with h | h <;> omega
  have e0 : -T ≤ g * (x - p) := by rcases hg with rfl | rfl <;> omega
  have e1 : g * (x - p) ≤ T := by rcases hg with rfl | rfl <;> omega
  have hq : q = rq T d (uq d (g * (x - p))) := by
    show shr T d (g * (x - p)) = _
    unfold shr; rw [ct_id e0 e1]
  have hu := uq_is d (g * (x - p)) hd
  have hl := uq_lt T d (g * (x - p)) G e0 e1
  obtain ⟨u, hue⟩ : ∃ u, u = uq d (g * (x - p)) := ⟨_, rfl⟩
  rw [← hue] at hu hl hq
  have hb := rq_bounds T d u G hl.1 hl.2
  have hR := rg_pos T d G
  have hu1 : -d ≤ x - (p + g * u * (2 * d + 1)) ∧ x - (p + g * u * (2 * d + 1)) ≤ d := by
    rcases hg with rfl | rfl
    · rw [Int.one_mul] at *; omega
    · rw [Int.neg_mul, Int.one_mul] at *; rw [Int.neg_mul]; omega
  have hbk := bk_is T d p x g u G hg p0 p1 x0 x1 hu1.1 hu1.2
  have hgq : -rg T d ≤ g * q ∧ g * q ≤ rg T d := by
    rw [hq]; rcases hg with rfl | rfl <;> omega
  have hy : y = ct (p + g * u * (2 * d + 1)) 0 T := by
    show gro T d p (g * q) = _
    unfold gro
    rw [ct_id p0 p1, ct_id hgq.1 hgq.2, hq, hbk]
  have y0 : 0 ≤ y := by rw [hy]; exact ct_lo hT
  have y1 : y ≤ T := by rw [hy]; exact ct_hi
  have hyw : -d ≤ y - (p + g * u * (2 * d + 1)) ∧ y - (p + g * u * (2 * d + 1)) ≤ d := by
    rw [hy]; unfold ct; omega
  have hyx : -d ≤ y - x ∧ y - x ≤ d := by
    rw [hy]; unfold ct; omega
  refine ⟨y0, y1, hyx.1, hyx.2, ?_, by rw [hq]; exact hb.1, by rw [hq]; exact hb.2⟩
  have f0 : -T ≤ g * (y - p) := by rcases hg with rfl | rfl <;> omega
  have f1 : g * (y - p) ≤ T := by rcases hg with rfl | rfl <;> omega
  unfold shr
  rw [ct_id f0 f1, hq]
  congr 1
  refine uq_one hd ?_ ?_
  · rcases hg with h | h
    · rw [h, Int.one_mul] at hyw; rw [h, Int.one_mul]; omega
    · rw [h, Int.neg_mul, Int.neg_mul, Int.one_mul] at hyw; rw [h, Int.neg_mul, Int.one_mul]; omega
  · rcases hg with h | h
    · rw [h, Int.one_mul] at hyw; rw [h, Int.one_mul]; omega
    · rw [h, Int.neg_mul, Int.neg_mul, Int.one_mul] at hyw; rw [h, Int.neg_mul, Int.one_mul]; omega

theorem near_exact (T x p g : Int) (G : Gd T 0) (hg : g = 1 ∨ g = -1) (p0 : 0 ≤ p) (p1 : p ≤ T) (x0 : 0 ≤ x) (x1 : x ≤ T) :
    gro T 0 p (g * shr T 0 (g * (x - p))) = x := by
  have := near_all T 0 x p g G hg p0 p1 x0 x1
  simp only at this
  omega

/-- P9.3. -/
theorem far_zero (T d x a : Int) (G : Gd T d) (a0 : 0 ≤ a) (a1 : a ≤ T) (x0 : 0 ≤ x) (x1 : x ≤ T) (h0 : -d ≤ x - a) (h1 : x - a ≤ d) :
    shr T d (x - a) = 0 ∧ gro T d a 0 = a := by
  have hd := G.lo
  have hR := rg_pos T d G
  have hT : 0 ≤ T := by rcases G.top with h | h <;> omega
  constructor
  · unfold shr
    rw [ct_id (by omega) (by omega), uq_one (u := 0) hd (by omega) (by omega)]
    unfold rq
    rw [if_neg (by omega), if_neg (by omega)]
  · unfold gro
    rw [ct_id a0 a1, ct_id (n := 0) (l := -rg T d) (by omega) (by omega)]
    unfold bk
    rw [Int.zero_mul, Int.add_zero, if_neg (by omega), if_neg (by omega), ct_id a0 a1]

theorem far_all (T d x a : Int) (G : Gd T d) (a0 : 0 ≤ a) (a1 : a ≤ T) (x0 : 0 ≤ x) (x1 : x ≤ T) (h : d < x - a ∨ d < a - x) :
    shr T d (x - a) ≠ 0 ∧ (d < gro T d a (shr T d (x - a)) - a ∨ d < a - gro T d a (shr T d (x - a))) := by
  have hd := G.lo
  have hT : 0 ≤ T := by rcases G.top with h | h <;> omega
  have hR := rg_pos T d G
  have e0 : -T ≤ x - a := by omega
  have e1 : x - a ≤ T := by omega
  have hq : shr T d (x - a) = rq T d (uq d (x - a)) := by unfold shr; rw [ct_id e0 e1]
  have hu := uq_is d (x - a) hd
  have hl := uq_lt T d (x - a) G e0 e1
  rw [hq]
  obtain ⟨u, hue⟩ : ∃ u, u = uq d (x - a) := ⟨_, rfl⟩
  rw [← hue] at hu hl ⊢
  have hb := rq_bounds T d u G hl.1 hl.2
  have hu0 : u ≠ 0 := by rintro rfl; omega
  have hbk := bk_is T d a x 1 u G (Or.inl rfl) a0 a1 x0 x1 (by rw [Int.one_mul]; omega) (by rw [Int.one_mul]; omega)
  rw [Int.one_mul, Int.one_mul] at hbk
  have hgr : gro T d a (rq T d u) = ct (a + u * (2 * d + 1)) 0 T := by
    unfold gro
    rw [ct_id a0 a1, ct_id (n := rq T d u) (l := -rg T d) (by omega) (by omega), hbk]
  rw [hgr]
  refine ⟨?_, ?_⟩
  · unfold rq
    split
    · omega
    · split <;> omega
  · by_cases hp : 0 < u
    · have : 1 * (2 * d + 1) ≤ u * (2 * d + 1) := Int.mul_le_mul_of_nonneg_right (by omega) (by omega)
      left; unfold ct; omega
    · have : u * (2 * d + 1) ≤ (-1) * (2 * d + 1) := Int.mul_le_mul_of_nonneg_right (by omega) (by omega)
      right; unfold ct; omega
/-- The edges of degrees. -/
def e1 (T d : Int) : Int := (if T = 1023 then 6 else 18) + 3 * d
def e2 (T d : Int) : Int := (if T = 1023 then 19 else 67) + 5 * d
def e3 (T d : Int) : Int := (if T = 1023 then 72 else 276) + 7 * d
def sz (T d g : Int) : Int := if g ≤ d then 0 else if g < e1 T d then 1 else if g < e2 T d then 2 else if g < e3 T d then 3 else 4
def dg (T d g : Int) : Int := if g < 0 then -sz T d (-g) else sz T d g

theorem sz_lo (T d g : Int) : 0 ≤ sz T d g := by
  unfold sz; repeat' (first | (split) | omega)
theorem sz_hi (T d g : Int) : sz T d g ≤ 4 := by
  unfold sz; repeat' (first | (split) | omega)
theorem dg_lo (T d g : Int) : -4 ≤ dg T d g := by
  have := sz_lo T d g
  have := sz_hi T d (-g)
  unfold dg; split <;> omega
theorem dg_hi (T d g : Int) : dg T d g ≤ 4 := by
  have := sz_lo T d (-g)
  have := sz_hi T d g
  unfold dg; split <;> omega
theorem dg_neg (T d g : Int) (hd : 0 ≤ d) : dg T d (-g) = -dg T d g := by
  unfold dg
  by_cases h : g < 0
  · rw [if_pos h, if_neg (by omega)]; omega
  · by_cases h0 : g = 0
    · subst h0; simp [sz, hd]
    · rw [if_neg h, if_pos (by omega), Int.neg_neg]

/-- The context with its sign, of four numbers. -/
def fk (T d a b c e : Int) : Int := (dg T d (ct e 0 T - ct b 0 T) * 9 + dg T d (ct b 0 T - ct c 0 T)) * 9 + dg T d (ct c 0 T - ct a 0 T)
theorem fk_lo (T d a b c e : Int) : -364 ≤ fk T d a b c e := by
  have := dg_lo T d (ct e 0 T - ct b 0 T); have := dg_lo T d (ct b 0 T - ct c 0 T); have := dg_lo T d (ct c 0 T - ct a 0 T)
  unfold fk; omega
theorem fk_hi (T d a b c e : Int) : fk T d a b c e ≤ 364 := by
  have := dg_hi T d (ct e 0 T - ct b 0 T); have := dg_hi T d (ct b 0 T - ct c 0 T); have := dg_hi T d (ct c 0 T - ct a 0 T)
  unfold fk; omega
/-- P9.4. -/
theorem fk_neg (T d a b c e : Int) (hd : 0 ≤ d) (a0 : 0 ≤ a) (a1 : a ≤ T) (b0 : 0 ≤ b) (b1 : b ≤ T) (c0 : 0 ≤ c) (c1 : c ≤ T) (h0 : 0 ≤ e) (h1 : e ≤ T) :
    fk T d (T - a) (T - b) (T - c) (T - e) = -fk T d a b c e := by
  unfold fk
  rw [ct_id a0 a1, ct_id b0 b1, ct_id c0 c1, ct_id h0 h1, ct_id (n := T - a) (by omega) (by omega), ct_id (n := T - b) (by omega) (by omega), ct_id (n := T - c) (by omega) (by omega), ct_id (n := T - e) (by omega) (by omega)]
  rw [show T - e - (T - b) = -(e - b) by omega, show T - b - (T - c) = -(b - c) by omega, show T - c - (T - a) = -(c - a) by omega, dg_neg _ _ _ hd, dg_neg _ _ _ hd, dg_neg _ _ _ hd]
  omega
def fc (T d a b c e : Int) : Int := mg (fk T d a b c e)
def fs (T d a b c e : Int) : Int := if fk T d a b c e < 0 then -1 else 1

def med (a b c : Int) : Int := if max a b ≤ c then min a b else if c ≤ min a b then max a b else a + b - c
theorem med_in {a b c T : Int} (a0 : 0 ≤ a) (a1 : a ≤ T) (b0 : 0 ≤ b) (b1 : b ≤ T) : 0 ≤ med a b c ∧ med a b c ≤ T := by
  unfold med; split
  · omega
  · split <;> omega

/-- What a context has learnt. -/
structure Sx where
  A : Int
  B : Int
  S : Int
  N : Int
/-- May it be so? -/
structure Sx.Fit (s : Sx) : Prop where
  a0 : 0 ≤ s.A
  a1 : s.A ≤ 4096 * s.N
  b0 : -s.N < s.B
  b1 : s.B ≤ 0
  s0 : -128 ≤ s.S
  s1 : s.S ≤ 127
  n0 : 1 ≤ s.N
  n1 : s.N ≤ 64
def sx0 (T d : Int) : Sx := ⟨max ((rg T d + 32) / 64) 2, 0, 0, 1⟩
theorem sx0_fit (T d : Int) (G : Gd T d) : (sx0 T d).Fit := by
  have := rg_pos T d G
  exact ⟨by show 0 ≤ max ((rg T d + 32) / 64) 2; omega, by show max ((rg T d + 32) / 64) 2 ≤ 4096 * 1; omega, by show (-1 : Int) < 0; omega, by show (0 : Int) ≤ 0; omega, by show (-128 : Int) ≤ 0; omega, by show (0 : Int) ≤ 127; omega, by show (1 : Int) ≤ 1; omega, by show (1 : Int) ≤ 64; omega⟩
/-- Taken in. -/
def Sx.add (T d q : Int) (s : Sx) : Sx := ⟨s.A + mg (ct q (-rg T d) (rg T d)), s.B + ct q (-rg T d) (rg T d) * (2 * d + 1), s.S, s.N⟩
def Sx.age (s : Sx) : Sx := if s.N = 64 then ⟨s.A / 2, s.B / 2, s.S, 33⟩ else ⟨s.A, s.B, s.S, s.N + 1⟩
def Sx.follow (s : Sx) : Sx := if s.B ≤ -s.N then ⟨s.A, max (s.B + s.N) (1 - s.N), max (s.S - 1) (-128), s.N⟩ else if 0 < s.B then ⟨s.A, min (s.B - s.N) 0, min (s.S + 1) 127, s.N⟩ else s
def Sx.learn (T d q : Int) (s : Sx) : Sx := ((s.add T d q).age).follow

theorem add_a (T d q : Int) (G : Gd T d) (s : Sx) : s.A ≤ (s.add T d q).A ∧ (s.add T d q).A ≤ s.A + 4096 := by
  have := rg_pos T d G
  show s.A ≤ s.A + mg (ct q (-rg T d) (rg T d)) ∧ s.A + mg (ct q (-rg T d) (rg T d)) ≤ s.A + 4096
  have h0 := ct_lo (n := q) (l := -rg T d) (h := rg T d) (by omega)
  have h1 := ct_hi (n := q) (l := -rg T d) (h := rg T d)
  unfold mg; split <;> omega
theorem qs_in (T d q : Int) (G : Gd T d) : -4600 ≤ ct q (-rg T d) (rg T d) * (2 * d + 1) ∧ ct q (-rg T d) (rg T d) * (2 * d + 1) ≤ 4600 := by
  have hp := rg_pos T d G
  have hm := (rg_mul T d G).2
  have hd := G.lo
  have hh := G.hi
  have h0 := ct_lo (n := q) (l := -rg T d) (h := rg T d) (by omega)
  have h1 := ct_hi (n := q) (l := -rg T d) (h := rg T d)
  have m0 : (-rg T d) * (2 * d + 1) ≤ ct q (-rg T d) (rg T d) * (2 * d + 1) := Int.mul_le_mul_of_nonneg_right h0 (by omega)
  have m1 : ct q (-rg T d) (rg T d) * (2 * d + 1) ≤ rg T d * (2 * d + 1) := Int.mul_le_mul_of_nonneg_right h1 (by omega)
  rw [Int.neg_mul] at m0
  rcases G.top with h | h <;> omega

theorem age_fit (T d q : Int) (G : Gd T d) (s : Sx) (F : s.Fit) : 0 ≤ ((s.add T d q).age).A ∧ ((s.add T d q).age).A ≤ 4096 * ((s.add T d q).age).N ∧
    ((s.add T d q).age).S = s.S ∧ 2 ≤ ((s.add T d q).age).N ∧ ((s.add T d q).age).N ≤ 64 ∧ (s.N < 64 → ((s.add T d q).age).N = s.N + 1) ∧ (s.N = 64 → ((s.add T d q).age).N = 33) := by
  have ha := add_a T d q G s
  have f0 := F.a0
  have f1 := F.a1
  have n0 := F.n0
  have n1 := F.n1
  have hN : (s.add T d q).N = s.N := rfl
  have hS : (s.add T d q).S = s.S := rfl
  unfold Sx.age
  rw [hN, hS]
  split
  · refine ⟨?_, ?_, rfl, ?_, ?_, ?_, ?_⟩ <;> dsimp <;> omega
  · refine ⟨?_, ?_, rfl, ?_, ?_, ?_, ?_⟩ <;> dsimp <;> omega

theorem follow_fit (s : Sx) (a0 : 0 ≤ s.A) (a1 : s.A ≤ 4096 * s.N) (s0 : -128 ≤ s.S) (s1 : s.S ≤ 127) (n0 : 2 ≤ s.N) (n1 : s.N ≤ 64) :
    s.follow.Fit ∧ s.follow.N = s.N ∧ s.S - 1 ≤ s.follow.S ∧ s.follow.S ≤ s.S + 1 := by
  unfold Sx.follow
  split
  · refine ⟨⟨?_, ?_, ?_, ?_, ?_, ?_, ?_, ?_⟩, rfl, ?_, ?_⟩ <;> dsimp <;> omega
  · split
    · refine ⟨⟨?_, ?_, ?_, ?_, ?_, ?_, ?_, ?_⟩, rfl, ?_, ?_⟩ <;> dsimp <;> omega
    · refine ⟨⟨?_, ?_, ?_, ?_, ?_, ?_, ?_, ?_⟩, rfl, ?_, ?_⟩ <;> omega

/-- P9.5. -/
theorem learn_fit (T d q : Int) (G : Gd T d) (s : Sx) (F : s.Fit) :
    (s.learn T d q).Fit ∧ s.S - 1 ≤ (s.learn T d q).S ∧ (s.learn T d q).S ≤ s.S + 1 ∧ 2 ≤ (s.learn T d q).N ∧ (s.N < 64 → (s.learn T d q).N = s.N + 1) ∧ (s.N = 64 → (s.learn T d q).N = 33) := by
  have ⟨h1, h2, h3, h4, h5, h6, h7⟩ := age_fit T d q G s F
  have ⟨k1, k2, k3, k4⟩ := follow_fit _ h1 h2 (by rw [h3]; exact F.s0) (by rw [h3]; exact F.s1) h4 h5
  unfold Sx.learn
  rw [h3] at k3 k4
  refine ⟨k1, k3, k4, by rw [k2]; exact h4, ?_, ?_⟩
  · rw [k2]; exact h6
  · rw [k2]; exact h7
end Go.Proofs.YthhegomjipbdbaaGreatDoor
