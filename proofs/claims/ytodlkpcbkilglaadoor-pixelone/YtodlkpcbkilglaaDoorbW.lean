import Derived.Test.YtodlkpcbkilglaaDoorbKZ
import Derived.Deep.RegionHeld3
import Derived.Deep.RegionWith
import Derived.Deep.DeepCutAuto
import Derived.Deep.QuietTactic
import Derived.BigQuiet
import Derived.Laws.CopyOwn
namespace Go.Proofs.YtodlkpcbkilglaaDoor.Bt
open Go.RowKit

/-- The writer whose struct is block B: its bits are the number N of len digits; v is the slice of its full bytes. -/
def WriterAt (w : World) (B : Nat) (v : Value) (N len : Nat) : Prop :=
  w.heap[B]? = some (.cells #[v, .int .u64 ((N % 2 ^ (len % 8) : Nat) : Int), .int .i64 ((len % 8 : Nat) : Int)] 114 (0, 0)) ∧
  w.ownsRow 0 5 1 v (len / 8) ((big (len / 8) (N / 2 ^ (len % 8))).map byt)

set_option maxHeartbeats 400000 in
theorem newWriter_any (w : World) :
    Calls Tryd.prog 79 #[] w fun e w' => e = .returned (.pointer (some ⟨w.heap.size, 0, none⟩)) ∧ w' = w.alloc (.cells #[.slice none 0 0, .int .u64 0, .int .i64 0] 114) := by
  go_enter Tryd.func79, Tryd.ntmps79
  go_wp2
  go_ret
  exact ⟨rfl, rfl⟩

set_option maxHeartbeats 400000 in
theorem put_width (B : Nat) (v n : Int) (w : World) (h : n < 0 ∨ 32 < n) :
    Calls Tryd.prog 81 #[.pointer (some ⟨B, 0, none⟩), .int .u32 v, .int .i64 n] w fun e w' => e = .returned (.int .i64 11) ∧ w' = w := by
  rcases h with h | h
  · go_enter Tryd.func81, Tryd.ntmps81
    go_wp2
    go_ret
    exact ⟨rfl, rfl⟩
  · have h' : ¬ n < 0 := by omega
    go_enter Tryd.func81, Tryd.ntmps81
    go_wp2
    go_ret
    exact ⟨rfl, rfl⟩

set_option maxHeartbeats 400000 in
theorem put_value (B : Nat) (v n : Int) (w : World) (h0 : 0 ≤ n) (h1 : n ≤ 32) (hv : (v / 2 ^ n.toNat == 0) = false) :
    Calls Tryd.prog 81 #[.pointer (some ⟨B, 0, none⟩), .int .u32 v, .int .i64 n] w fun e w' => e = .returned (.int .i64 12) ∧ w' = w := by
  go_enter Tryd.func81, Tryd.ntmps81
  go_wp2_with (go_at_call 97; refine (fits32_any _ _ _ (by omega) (by omega)).mono ?_; rintro e w' ⟨rfl, rfl⟩)
  go_ret
  exact ⟨rfl, rfl⟩

theorem cells_three {w : World} {B : Nat} {a b c : Value} {t : TypeId} (h : w.heap[B]? = some (.cells #[a, b, c] t (0, 0))) :
    w.cell? ⟨B, 0, none⟩ = some a ∧ w.cell? ⟨B, 1, none⟩ = some b ∧ w.cell? ⟨B, 2, none⟩ = some c ∧ ∀ i, w.frozen? ⟨B, i, none⟩ = false := by
  refine ⟨?_, ?_, ?_, ?_⟩ <;> simp [World.cell?, World.frozen?, h]


theorem heap_setCell_at {w : World} {B i : Nat} {u : Value} {cs : Array Value} {t : TypeId} (h : w.heap[B]? = some (.cells cs t (0, 0))) :
    (w.setCell ⟨B, i, none⟩ u).heap[B]? = some (.cells (cs.setIfInBounds i u) t (0, 0)) := by
  have hlt := lt_of_block h
  have h' : w.heap[B] = .cells cs t (0, 0) := by simpa [Array.getElem?_eq_getElem hlt] using h
  show (w.heap.modify B _)[B]? = _
  rw [Array.getElem?_eq_getElem (by simpa using hlt), Array.getElem_modify_self, h']
  rfl

theorem own_ne {w : World} {B n : Nat} {V : Value} {xs : List Value} {cs : Array Value} {t : TypeId} (h : w.heap[B]? = some (.cells cs t (0, 0))) (ht : t ≠ 5) (ho : w.ownsRow 0 5 1 V n xs) : V.ownBlock ≠ some B := by
  intro e
  rcases ho.2 with ⟨rfl, _⟩ | ⟨g, cap, cur, rfl, _, hg, _⟩
  · simp [Value.ownBlock] at e
  · simp [Value.ownBlock] at e
    subst e
    rw [hg] at h
    simp at h
    exact ht h.2.symm

/-- appendBig beside a block that is not the row's. -/
theorem appendBig_b (B : Nat) (v : Value) (n : Nat) (xs : List Value) (X k : Int) (w : World) (hown : w.ownsRow 0 5 1 v n xs) (k0 : 0 ≤ k) (k1 : k ≤ 8) (X0 : 0 ≤ X) (hn : n + 8 ≤ 140737488355328)
    (hB : B < w.heap.size) (hne : v.ownBlock ≠ some B) :
    Calls Tryd.prog 98 #[v, .int .u64 X, .int .i64 k] w fun e w' => ∃ v', e = .returned v' ∧ w'.ownsRow 0 5 1 v' (n + k.toNat) (xs ++ (big k.toNat X.toNat).map byt) ∧ Kept v.ownBlock.toList w w' ∧ Lies w v v' ∧
      (∀ i, w'.cell? ⟨B, i, none⟩ = w.cell? ⟨B, i, none⟩) ∧ (∀ i, w'.frozen? ⟨B, i, none⟩ = w.frozen? ⟨B, i, none⟩) := by
  refine (appendBig_any v n xs X k w hown k0 k1 X0 hn).mono ?_
  rintro e w' ⟨v', rfl, ho, hk, hl⟩
  have hb := hk.block B hB (by simpa using hne)
  exact ⟨v', rfl, ho, hk, hl, fun i => World.cell?_of_block (a := ⟨B, i, none⟩) hb, fun i => World.frozen?_of_block (a := ⟨B, i, none⟩) hb⟩

theorem row_form {w : World} {base : Nat} {e : TypeId} {size : Nat} {v : Value} {n : Nat} {xs : List Value} (h : w.ownsRow base e size v n xs) : ∃ ao cap, v = .slice ao n cap := by
  rcases h.2 with ⟨rfl, rfl⟩ | ⟨g, cap, cur, rfl, _⟩
  · exact ⟨_, _, rfl⟩
  · exact ⟨_, _, rfl⟩

theorem wp_gen {P : Program} {c : Code} {Q : Exit → Act → World → Prop} {a : Act} {w0 : World} (R : World → Prop) (h0 : R w0) (h : ∀ W, R W → c.wp P Q a W) : c.wp P Q a w0 := h w0 h0

theorem put_meet {w0 W w1 : World} {B n : Nat} {V V1 h f : Value} {ys : List Value} (hBW : W.heap[B]? = some (.cells #[V, h, f] 114 (0, 0))) (hKW : Kept [B] w0 W) (hne : V.ownBlock ≠ some B)
    (ho : w1.ownsRow 0 5 1 V1 n ys) (hk : Kept V.ownBlock.toList W w1) (hL : Lies W V V1) :
    (w1.setCell ⟨B, 0, none⟩ V1).heap[B]? = some (.cells #[V1, h, f] 114 (0, 0)) ∧ (w1.setCell ⟨B, 0, none⟩ V1).ownsRow 0 5 1 V1 n ys ∧ Kept (B :: V.ownBlock.toList) w0 (w1.setCell ⟨B, 0, none⟩ V1) ∧ Lies w0 V V1 := by
  have h1 := hk.heap hBW (by simpa using hne)
  have hn1 := own_ne h1 (by decide) ho
  refine ⟨by rw [heap_setCell_at h1]; simp, ownsRow_setCell_other ho hn1 _, ?_, ?_⟩
  · exact ((hKW.mono (l2 := B :: V.ownBlock.toList) (by simp)).step hk (fun x hx => .inl (List.mem_cons_of_mem _ hx))).setCell (by simp) _
  · rcases hL with h | ⟨g, hg, hl⟩
    · exact .inl h
    · exact .inr ⟨g, hg, Nat.le_trans hKW.size hl⟩


set_option maxHeartbeats 4000000 in
set_option maxRecDepth 1000000 in
theorem put_low (B : Nat) (V : Value) (m : Nat) (xs : List Value) (H F v n T : Int) (w : World) (hB : w.heap[B]? = some (.cells #[V, .int .u64 H, .int .i64 F] 114 (0, 0))) (hown : w.ownsRow 0 5 1 V m xs)
    (h0 : 0 ≤ n) (h1 : n ≤ 32) (hv : (v / 2 ^ n.toNat == 0) = true) (F0 : 0 ≤ F) (F1 : F < 8) (T0 : 0 ≤ T) (T1 : T < 18446744073709551616)
    (hor : bits BinOp.or IntKind.u64 (IntKind.u64.wrap (H * 2 ^ n.toNat)) (IntKind.u64.wrap v) = T) (hl : m + 8 ≤ 140737488355328) :
    Calls Tryd.prog 81 #[.pointer (some ⟨B, 0, none⟩), .int .u32 v, .int .i64 n] w fun e w' => e = .returned (.int .i64 0) ∧
      ∃ V', w'.heap[B]? = some (.cells #[V', .int .u64 (T % 2 ^ ((F + n) % 8).toNat), .int .i64 ((F + n) % 8)] 114 (0, 0)) ∧
        w'.ownsRow 0 5 1 V' (m + ((F + n) / 8).toNat) (xs ++ (big ((F + n) / 8).toNat (T / 2 ^ ((F + n) % 8).toNat).toNat).map byt) ∧ Kept (B :: V.ownBlock.toList) w w' ∧ Lies w V V' := by
  obtain ⟨c0, c1, c2, fz⟩ := cells_three hB
  have hne := own_ne hB (by decide) hown
  have hBs := lt_of_block hB
  have f1 := fz 1
  have f2 := fz 2
  have f0 := fz 0
  clear fz
  go_enter Tryd.func81, Tryd.ntmps81
  go_wp2_with (go_at_call 97; refine (fits32_any _ _ _ (by omega) (by omega)).mono ?_; rintro e w' ⟨rfl, rfl⟩)
  refine wp_gen (fun W => W.heap[B]? = some (.cells #[V, .int .u64 T, .int .i64 ((F + n) % 8)] 114 (0, 0)) ∧ Kept [B] w' W) ⟨?_, ?_⟩ ?_
  · rw [heap_setCell_at (heap_setCell_at (heap_setCell_at hB))]; simp
  · exact (((Kept.refl _ _).setCell (by simp) _).setCell (by simp) _).setCell (by simp) _
  intro W ⟨hBW, hKW⟩
  have hoW := hKW.row hown (by simpa using fun g hg => fun e => hne (by rw [hg, e]))
  obtain ⟨d0, d1, d2, gz⟩ := cells_three hBW
  have g0 := gz 0
  have g1 := gz 1
  have hBs' := lt_of_block hBW
  clear gz c0 c1 c2 f0 f1 f2
  go_cut [0] (fun s0 w1 => s0 = .pointer (some ⟨B, 0, none⟩) ∧ ∃ V', w1.heap[B]? = some (.cells #[V', .int .u64 T, .int .i64 ((F + n) % 8)] 114 (0, 0)) ∧
        w1.ownsRow 0 5 1 V' (m + ((F + n) / 8).toNat) (xs ++ (big ((F + n) / 8).toNat (T / 2 ^ ((F + n) % 8).toNat).toNat).map byt) ∧ Kept (B :: V.ownBlock.toList) w' w1 ∧ Lies w' V V')
  case first =>
    go_region_with (go_at_call 98; refine (appendBig_b B V m xs _ _ _ ?_ ?_ ?_ ?_ ?_ ?_ ?_).mono ?_; exact hoW; omega; omega; exact Int.ediv_nonneg (by omega) (by exact Int.le_of_lt (Int.pow_pos (by decide))); omega; exact hBs'; exact hne; rintro e w1 ⟨v', rfl, ho, hk, hL, kc, kf⟩; obtain ⟨ao, cp, rfl⟩ := row_form ho; have k0 := (kc 0).trans d0; have k1 := (kc 1).trans d1; have k2 := (kc 2).trans d2; have z0 := (kf 0).trans g0; have z1 := (kf 1).trans g1; clear kc kf)
    all_goals go_wp2
    all_goals go_meet
    all_goals exact ⟨rfl, _, put_meet hBW hKW hne ho hk.undrew hL⟩
  case rest =>
    obtain ⟨rfl, V', e1, e2, e3, e4⟩ := hcut
    obtain ⟨a0, a1, a2, gz⟩ := cells_three e1
    have y1 := gz 1
    clear gz hBW d0 d1 d2 g0 g1 hoW hKW
    go_wp2_with fail
    go_region_with (go_at_call 99; refine (lowest_any _ _ _ (by omega) (by omega) (by omega) (by omega)).mono ?_; rintro e w1 ⟨rfl, rfl⟩)
    all_goals go_wp2
    all_goals go_ret
    all_goals
      refine ⟨rfl, V', ?_, ?_, ?_, e4⟩
      · show (World.setCell _ _ _).heap[B]? = _
        rw [heap_setCell_at e1]; simp
      · exact ownsRow_setCell_other e2 (own_ne e1 (by decide) e2) _
      · exact (e3.setCell (p := ⟨B, 1, none⟩) (by simp) _).drew
end Go.Proofs.YtodlkpcbkilglaaDoor.Bt
