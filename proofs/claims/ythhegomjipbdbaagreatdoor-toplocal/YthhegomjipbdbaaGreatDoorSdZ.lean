import Derived.Test.YthhegomjipbdbaaGreatDoorSaZ
import Derived.Deep.LoopGhost
namespace Go.Proofs.YthhegomjipbdbaaGreatDoor
open Go.RowKit

theorem three_new (w : World) (a b c : Value) (t : Nat) : ∃ w1, w.alloc (.cells #[a, b, c] t (0, 0)) = w1 ∧ Kept [] w w1 ∧ w1.heap[w.heap.size]? = some (.cells #[a, b, c] t (0, 0)) :=
  ⟨_, rfl, alloc_kept _ _, heap_alloc_new _ _⟩

set_option maxHeartbeats 4000000 in
set_option maxRecDepth 1000000 in
theorem spot_any (B P X G ty : Nat) (T d D : Int) (W n : Nat) (ext : List Value) (s : Wk) (w : World) (h : Wm w B P X G ty T d D W n ext s) (hD : Dp D T) (hn : n ≤ 4194304) (ht : s.t < n) (hW : 1 ≤ W) (hW2 : W ≤ 4096) (hb : s.In T) :
    Calls Tryz.prog 144 #[.pointer (some ⟨B, 0, none⟩)] w fun e w' => e = .returned (.agg #[.int .i64 (xk T d W s), .int .i64 (xs T d W s), .int .i64 (xp T d W s)]) ∧ Kept [] w w' := by
  have hG := h.md.good
  have hT := hG.t0
  obtain ⟨w1, hw1, k1, b1⟩ := three_new w (.int .i64 0) (.int .i64 0) (.int .i64 0) 220
  have h1 := h.keep k1 (by simp)
  have C := Hid.mk (neigh_any B P X G ty T d D W n ext s w1 h1 hD hn ht hW hW2 (fun i hi => by have := hb.bk i hi; omega))
  have C2 := Hid.mk (fun q => find_any P T d (nA T W s.b s.t) (nB T W s.b s.t) (nC T W s.b s.t) (nE T W s.b s.t) (w1.drewN q) (h1.drewN q).md.hd hG)
  have C3 := Hid.mk (fun q => guess_any P T d (xk T d W s) (xs T d W s) (nA T W s.b s.t) (nB T W s.b s.t) (nC T W s.b s.t) s.L (w1.drewN q) (h1.drewN q).md)
  obtain ⟨-, -, c2, -, -, -, -⟩ := h1.fact
  obtain ⟨z0, z1, z2, zf⟩ := cells_three b1
  have zf0 := zf 0
  have zf1 := zf 1
  have zf2 := zf 2
  clear zf
  have ek : fc T d (nA T W s.b s.t) (nB T W s.b s.t) (nC T W s.b s.t) (nE T W s.b s.t) = xk T d W s := rfl
  have es : fs T d (nA T W s.b s.t) (nB T W s.b s.t) (nC T W s.b s.t) (nE T W s.b s.t) = xs T d W s := rfl
  rw [ek, es] at C2
  have ep : Hid (xp T d W s = if xk T d W s = 0 then nA T W s.b s.t else gs T s.L (xk T d W s) (xs T d W s) (nA T W s.b s.t) (nB T W s.b s.t) (nC T W s.b s.t)) := Hid.mk rfl
  clear ek es
  generalize gs T s.L (xk T d W s) (xs T d W s) (nA T W s.b s.t) (nB T W s.b s.t) (nC T W s.b s.t) = gg at *
  generalize nA T W s.b s.t = a at *
  generalize nB T W s.b s.t = b at *
  generalize nC T W s.b s.t = c at *
  generalize nE T W s.b s.t = e at *
  generalize xk T d W s = k at *
  generalize xs T d W s = g at *
  generalize xp T d W s = p at *
  have HB := Hid.mk b1
  have HK := Hid.mk k1
  clear h h1 b1 k1 hb hT
  by_cases hk : k = 0
  · have e0 : p = a := by rw [ep.out, if_pos hk]
    subst hk e0
    clear ep
    go_enter Tryz.func144, Tryz.ntmps144
    go_wp2_with (first | (go_at_call 163; refine C.out.mono ?_; rintro r w' ⟨rfl, q, rfl⟩) | (go_at_call 164; refine (C2.out _).mono ?_; rintro r w' ⟨rfl, rfl⟩))
    refine bodyPost_ret (v := .agg #[.int .i64 0, .int .i64 g, .int .i64 p]) (by simp [results, Tryz.results144, go_sem, z0, z1, z2]) rfl ⟨rfl, ?_⟩
    exact (((HK.out.drewN q).setCell (p := ⟨w.heap.size, 0, none⟩) (by simp) _).setCell (p := ⟨w.heap.size, 1, none⟩) (by simp) _).setCell (p := ⟨w.heap.size, 2, none⟩) (by simp) _
  · have e0 : p = gg := by rw [ep.out, if_neg hk]
    have hk' : (k == 0) = false := by simpa using hk
    subst e0
    clear ep
    go_enter Tryz.func144, Tryz.ntmps144
    go_wp2_with (first | (go_at_call 163; refine C.out.mono ?_; rintro r w' ⟨rfl, q, rfl⟩) | (go_at_call 164; refine (C2.out _).mono ?_; rintro r w' ⟨rfl, rfl⟩) | (go_at_call 165; refine (C3.out _).mono ?_; rintro r w' ⟨rfl, rfl⟩))
    refine bodyPost_ret (v := .agg #[.int .i64 k, .int .i64 g, .int .i64 p]) (by simp [results, Tryz.results144, go_sem, z0, z1, z2]) rfl ⟨rfl, ?_⟩
    exact (((HK.out.drewN q).setCell (p := ⟨w.heap.size, 0, none⟩) (by simp) _).setCell (p := ⟨w.heap.size, 1, none⟩) (by simp) _).setCell (p := ⟨w.heap.size, 2, none⟩) (by simp) _
end Go.Proofs.YthhegomjipbdbaaGreatDoor

namespace Go.Proofs.YthhegomjipbdbaaGreatDoor
open Go.RowKit

/-- What drives a walk: how a run and one sample are told, where they are refused. -/
structure Drv (α : Type) where
  run : Wk → α → Nat → α → Prop
  one : Wk → Int → Int → Int → Nat → α → Int → α → Prop
  runB : Wk → α → Prop
  oneB : Wk → Int → Int → Int → Nat → α → Prop

/-- One round. -/
def It {α : Type} (T d : Int) (W n : Nat) (V : Drv α) (s : Wk) (x : α) (s' : Wk) (x' : α) : Prop :=
  s.t < n ∧ ((xk T d W s = 0 ∧ ∃ m x1, m ≤ rom W s.t ∧ V.run s x m x1 ∧ ((m = rom W s.t ∧ s' = gor T W s m ∧ x' = x1) ∨
      (m ≠ rom W s.t ∧ ∃ q, V.one (gor T W s m) 0 (xs T d W s) (nA T W s.b s.t) 1 x1 q x' ∧ s' = goo T d (gor T W s m) 0 (xs T d W s) (nA T W s.b s.t) q))) ∨
    (xk T d W s ≠ 0 ∧ ∃ q, V.one s (xk T d W s) (xs T d W s) (xp T d W s) 0 x q x' ∧ s' = goo T d s (xk T d W s) (xs T d W s) (xp T d W s) q))
/-- A round that is not ended. -/
def Stk {α : Type} (T d : Int) (W n : Nat) (V : Drv α) (s : Wk) (x : α) : Prop :=
  s.t < n ∧ ((xk T d W s = 0 ∧ (V.runB s x ∨ ∃ m x1, m ≤ rom W s.t ∧ m ≠ rom W s.t ∧ V.run s x m x1 ∧ V.oneB (gor T W s m) 0 (xs T d W s) (nA T W s.b s.t) 1 x1)) ∨
    (xk T d W s ≠ 0 ∧ V.oneB s (xk T d W s) (xs T d W s) (xp T d W s) 0 x))
inductive Rch {α : Type} (T d : Int) (W n : Nat) (V : Drv α) (s : Wk) (x : α) : Wk → α → Prop
  | refl : Rch T d W n V s x s x
  | tail {s1 : Wk} {x1 : α} {s2 : Wk} {x2 : α} : Rch T d W n V s x s1 x1 → It T d W n V s1 x1 s2 x2 → Rch T d W n V s x s2 x2

/-- Where one sample is asked for. -/
def Pre {α : Type} (T d : Int) (W n : Nat) (V : Drv α) (Rc : Wk → α → Prop) (s : Wk) (x : α) (k g p : Int) (least : Nat) : Prop :=
  (least = 0 ∧ k = xk T d W s ∧ g = xs T d W s ∧ p = xp T d W s ∧ xk T d W s ≠ 0 ∧ Rc s x) ∨
  (least = 1 ∧ k = 0 ∧ ∃ s0 x0 m, m ≤ rom W s0.t ∧ m ≠ rom W s0.t ∧ V.run s0 x0 m x ∧ s = gor T W s0 m ∧ g = xs T d W s0 ∧ p = nA T W s0.b s0.t ∧ xk T d W s0 = 0 ∧ s0.In T ∧ s0.t < n ∧ Rc s0 x0)

/-- What a spot lies in stays. -/
def S98 (w w' : World) : Prop := ∀ (Q : Nat) (c : Array Value), w.heap[Q]? = some (.cells c 220 (0, 0)) → w'.heap[Q]? = some (.cells c 220 (0, 0))
theorem S98.of_kept {w w' : World} {ks : List Nat} (hk : Kept ks w w') (h : ∀ b, b ∈ ks → b < w.heap.size → ∃ c t p, w.heap[b]? = some (.cells c t p) ∧ t ≠ 220) : S98 w w' := by
  intro Q c hQ
  refine hk.heap hQ (fun hm => ?_)
  obtain ⟨c', t, p, h1, h2⟩ := h Q hm (lt_of_block hQ)
  exact ne_ty h1 hQ h2 rfl

theorem Wm.learn {w w' : World} {B P X G ty : Nat} {T d D : Int} {W n : Nat} {ext : List Value} {s : Wk} {L' : Nat → Sx} (h : Wm w B P X G ty T d D W n ext s) (hk : Kept [P] w w') (hm : Md w' P T d L') : Wm w' B P X G ty T d D W n ext ⟨L', s.r, s.b, s.t⟩ := by
  obtain ⟨n1, n2, n3, n4, n5, n6⟩ := h.ne
  obtain ⟨cs, hr, hl, hc⟩ := h.row
  exact ⟨hk.heap h.blk (by simp; omega), hm, h.co.kept hk (by simp; omega), ⟨cs, hk.heap hr (by simp; omega), hl, hc⟩, h.ty⟩
theorem Wm.s98 {w w' : World} {B P X G ty : Nat} {T d D : Int} {W n : Nat} {ext : List Value} {s : Wk} (h : Wm w B P X G ty T d D W n ext s) (hk : Kept [B, G, P] w w') : S98 w w' := by
  refine S98.of_kept hk (fun b hb hl => ?_)
  obtain ⟨cs, hr4, _⟩ := h.row
  obtain ⟨ps, hp, _⟩ := h.md.blk
  have ht := h.ty
  rcases List.mem_cons.1 hb with rfl | hb
  · exact ⟨_, ty, _, h.blk, by rcases ht with h | h <;> rw [h] <;> decide⟩
  · rcases List.mem_cons.1 hb with rfl | hb
    · exact ⟨_, _, _, hr4, by decide⟩
    · rw [List.mem_singleton.1 hb]; exact ⟨_, _, _, hp, by decide⟩

/-- What is wanted of the two functions. -/
structure Hnd {α : Type} (B P X G ty : Nat) (T d D : Int) (W n : Nat) (ext : List Value) (fr fo : Nat) (V : Drv α) (I : World → Wk → α → Prop) (Bd : World → List PanicEntry → Prop) (Rc : Wk → α → Prop) : Prop where
  wm : ∀ w s x, I w s x → Wm w B P X G ty T d D W n ext s
  step : ∀ w w' s s' x, I w s x → Kept [B, G, P] w w' → Wm w' B P X G ty T d D W n ext s' → I w' s' x
  run : ∀ w s x, I w s x → s.In T → s.t < n → xk T d W s = 0 → Rc s x → Calls Tryz.prog fr #[.pointer (some ⟨B, 0, none⟩), .int .i64 (nA T W s.b s.t), .int .i64 (rom W s.t : Int)] w fun e w' =>
    (∃ (m : Nat) (x' : α), e = .returned (.int .i64 (m : Int)) ∧ m ≤ rom W s.t ∧ V.run s x m x' ∧ I w' ⟨s.L, rr s.r m (rom W s.t), s.b, s.t⟩ x' ∧ S98 w w') ∨ (∃ pc, e = .panicked pc ∧ V.runB s x ∧ Bd w' pc)
  one : ∀ w s x k g p least, I w s x → s.In T → s.t < n → Pre T d W n V Rc s x k g p least → Calls Tryz.prog fo #[.pointer (some ⟨B, 0, none⟩), .agg #[.int .i64 k, .int .i64 g, .int .i64 p], .int .i64 (least : Int)] w fun e w' =>
    (∃ (q : Int) (x' : α), e = .returned (.int .i64 q) ∧ -5000 ≤ q ∧ q ≤ 5000 ∧ V.one s k g p least x q x' ∧ I w' s x' ∧ S98 w w') ∨ (∃ pc, e = .panicked pc ∧ V.oneB s k g p least x ∧ Bd w' pc)

theorem gq_in {g q : Int} (hg : g = 1 ∨ g = -1) (h0 : -5000 ≤ q) (h1 : q ≤ 5000) : IntKind.i64.wrap (g * q) = g * q ∧ -5000 ≤ g * q ∧ g * q ≤ 5000 := by
  rcases hg with rfl | rfl
  · rw [Int.one_mul]; exact ⟨wrap_i (by omega) (by omega), by omega, by omega⟩
  · rw [Int.neg_mul, Int.one_mul]; exact ⟨wrap_i (by omega) (by omega), by omega, by omega⟩

theorem agg3 {w : World} {Q : Nat} {a b c : Value} (h : w.heap[Q]? = some (.cells #[a, b, c] 220 (0, 0))) : w.cell? ⟨Q, 0, none⟩ = some a ∧ w.cell? ⟨Q, 1, none⟩ = some b ∧ w.cell? ⟨Q, 2, none⟩ = some c := by
  obtain ⟨h0, h1, h2, _⟩ := cells_three h
  exact ⟨h0, h1, h2⟩

theorem bodyPost_panic {P : Program} {fn : Func} {R : Ending → World → Prop} {a : Act} {w : World} {pc : List PanicEntry} (h : a.defers = []) (hR : R (.panicked pc) w) : bodyPost P fn R (.panic pc) a w := ⟨h, hR⟩
end Go.Proofs.YthhegomjipbdbaaGreatDoor

namespace Go.Proofs.YthhegomjipbdbaaGreatDoor
open Go.RowKit

/-- Samples that are read. -/
def Smp (w : World) (sb so n : Nat) (f : Nat → Int) : Prop := ∀ i, i < n → w.cell? ⟨sb, so + i, none⟩ = some (.int .u16 (f i))

abbrev cext (sb so n sc : Nat) (d : Int) (O : Nat) : List Value := [.slice (some ⟨sb, so, none⟩) n sc, .int .i64 d, .pointer (some ⟨O, 0, none⟩)]

/-- A coder in memory. -/
structure Cm (w0 : World) (B P X G O : Nat) (T d D : Int) (W n sb so sc : Nat) (f : Nat → Int) (w : World) (s : Wk) (x : Nat × Nat) : Prop where
  wm : Wm w B P X G 173 T d D W n (cext sb so n sc d O) s
  wr : ∃ V, WriterAt w O V x.1 x.2 ∧ (∀ g, V.ownBlock = some g → w0.heap.size ≤ g)
  keep : Kept [] w0 w
  smp : Smp w0 sb so n f
  tab : Tab w0
  lo : w0.heap.size ≤ B ∧ w0.heap.size ≤ P ∧ w0.heap.size ≤ X ∧ w0.heap.size ≤ G ∧ w0.heap.size ≤ O

theorem Smp.keep {w w' : World} {sb so n : Nat} {f : Nat → Int} {ks : List Nat} (h : Smp w sb so n f) (hk : Kept ks w w') (h0 : sb ∉ ks) : Smp w' sb so n f := by
  intro i hi
  have := h i hi
  rw [← this]
  exact World.cell?_of_block (a := ⟨sb, so + i, none⟩) (hk.block sb (World.block_lt_of_cell? w _ this) h0)

theorem ext_cells {w : World} {B P X G : Nat} {T d D : Int} {W n sb so sc O : Nat} {s : Wk} (h : Wm w B P X G 173 T d D W n (cext sb so n sc d O) s) :
    w.cell? ⟨B, 6, none⟩ = some (.slice (some ⟨sb, so, none⟩) n sc) ∧ w.cell? ⟨B, 7, none⟩ = some (.int .i64 d) ∧ w.cell? ⟨B, 8, none⟩ = some (.pointer (some ⟨O, 0, none⟩)) := by
  have hb := h.blk
  refine ⟨?_, ?_, ?_⟩ <;> simp [World.cell?, hb]

set_option maxHeartbeats 2000000 in
set_option maxRecDepth 100000 in
theorem near_any (B : Nat) (d a v : Int) (w : World) (h7 : w.cell? ⟨B, 7, none⟩ = some (.int .i64 d)) (a0 : 0 ≤ a) (a1 : a ≤ 65535) (v0 : 0 ≤ v) (v1 : v ≤ 65535) :
    Calls Tryz.prog 149 #[.pointer (some ⟨B, 0, none⟩), .int .i64 a, .int .i64 v] w fun e w' => e = .returned (.bool (nea d a v)) ∧ w' = w := by
  by_cases h1 : v - a ≤ d
  · by_cases h2 : a - v ≤ d
    · rw [(nea_iff _ _ _).2 ⟨h1, h2⟩]
      go_enter Tryz.func149, Tryz.ntmps149
      go_wp2
      go_ret
      exact ⟨rfl, rfl⟩
    · have e : nea d a v = false := by unfold nea; rw [decide_eq_false]; omega
      rw [e]
      go_enter Tryz.func149, Tryz.ntmps149
      go_wp2
      go_ret
      exact ⟨rfl, rfl⟩
  · have e : nea d a v = false := by unfold nea; rw [decide_eq_false]; omega
    rw [e]
    go_enter Tryz.func149, Tryz.ntmps149
    go_wp2
    go_ret
    exact ⟨rfl, rfl⟩

/-- What drives a coder. -/
def cdr (T d : Int) (W : Nat) (f : Nat → Int) : Drv (Nat × Nat) where
  run s x m x' := m = rnl f (nA T W s.b s.t) d s.t (rom W s.t) ∧ x' = btr W s m x
  one s k g p least x q x' := q = shr T d (g * (f s.t - p)) ∧ x' = bto T d s k least q x
  runB _ _ := False
  oneB _ _ _ _ _ _ := False

theorem Cm.w98 {w0 : World} {B P X G O : Nat} {T d D : Int} {W n sb so sc : Nat} {f : Nat → Int} {w : World} {s : Wk} {x : Nat × Nat} (h : Cm w0 B P X G O T d D W n sb so sc f w s x) : 0 < w0.heap.size := h.tab.pos

set_option maxHeartbeats 4000000 in
set_option maxRecDepth 1000000 in
theorem crun_any (w0 : World) (B P X G O : Nat) (T d D : Int) (W n sb so sc : Nat) (f : Nat → Int) (w : World) (s : Wk) (x : Nat × Nat) (h : Cm w0 B P X G O T d D W n sb so sc f w s x) (a : Int) (rm : Nat) (a0 : 0 ≤ a) (a1 : a ≤ 4095) (hr1 : 1 ≤ rm) (hr2 : rm ≤ 4096) (hrt : s.t + rm ≤ n) (hn : n ≤ 4194304) (hf : ∀ i, 0 ≤ f i ∧ f i ≤ 4095) (hx : x.2 ≤ 1000000000000) :
    Calls Tryz.prog 133 #[.pointer (some ⟨B, 0, none⟩), .int .i64 a, .int .i64 (rm : Int)] w fun e w' =>
      ∃ (m : Nat), e = .returned (.int .i64 (m : Int)) ∧ m = rnl f a d s.t rm ∧ Cm w0 B P X G O T d D W n sb so sc f w' ⟨s.L, rr s.r m rm, s.b, s.t⟩ (ap x (rw_ s.r m rm) (rf s.r m rm)) ∧ S98 w w' := by
  have HC := Hid.mk h
  have Hf := Hid.mk hf
  have hne := h.wm.ne
  have hlo := h.lo
  have hpos := h.tab.pos
  clear h hf
  go_enter Tryz.func133, Tryz.ntmps133
  go_wp2
  go_loopw [7] (fun i wr => ∃ (k : Nat), k ≤ rm ∧ i = .int .i64 (k : Int) ∧ Hid (∀ j, j < k → nea d a (f (s.t + j)) = true) ∧ Kept [] w wr) (fun i _ => rm - (intOf i).toNat)
  case atStart => exact ⟨0, by omega, rfl, Hid.mk (by omega), Kept.refl _ _⟩
  case round =>
    obtain ⟨k, hk, rfl, hall, hkw⟩ := hrel
    have hm := HC.out.wm.keep hkw (by simp)
    obtain ⟨e6, e7, e8⟩ := ext_cells hm
    obtain ⟨-, -, -, c3, -, c5, -⟩ := hm.fact
    have hS := (HC.out.smp.keep HC.out.keep (by simp)).keep hkw (by simp)
    have HK := Hid.mk hkw
    clear hkw
    have hend : ∀ wr2, Kept [] w wr2 → Hid (rnl f a d s.t rm = k) → Hid (Calls Tryz.prog 150 #[.pointer (some ⟨X, 0, none⟩), .pointer (some ⟨O, 0, none⟩), .int .i64 (k : Int), .int .i64 (rm : Int)] wr2 fun e w' => e = .returned (.int .i64 0) ∧ Hid (Cm w0 B P X G O T d D W n sb so sc f w' ⟨s.L, rr s.r k rm, s.b, s.t⟩ (ap x (rw_ s.r k rm) (rf s.r k rm)) ∧ S98 w w') ∧ w'.cell? ⟨B, 3, none⟩ = some (.pointer (some ⟨X, 0, none⟩)) ∧ w'.cell? ⟨B, 8, none⟩ = some (.pointer (some ⟨O, 0, none⟩))) := by
      intro wr2 hk2 _
      have h2 := HC.out.wm.keep hk2 (by simp)
      obtain ⟨V, hw, hV⟩ := HC.out.wr
      have hw2 : WriterAt wr2 O V x.1 x.2 := hw.kept hk2 (by simp) (by simp)
      obtain ⟨cs, hr, hl, hc⟩ := h2.row
      obtain ⟨ps, hp, _⟩ := h2.md.blk
      have oB : O ≠ B := ne_ty hw2.1 h2.blk (by decide)
      have oP : O ≠ P := ne_ty hw2.1 hp (by decide)
      have oX : O ≠ X := ne_ty hw2.1 h2.co.1 (by decide)
      have oG : O ≠ G := ne_ty hw2.1 hr (by decide)
      refine Hid.mk ((rput_any X O V x.1 x.2 s.r (k : Int) (rm : Int) wr2 h2.co hw2 (HC.out.tab.kept (HC.out.keep.trans hk2) (by simp)) (by omega) (by omega) (fun e => by have := hV 0 e; omega) (by omega) (by omega) (by omega) (by omega) (by omega)).mono ?_)
      rintro e w' ⟨rfl, V', hco, hwr, hkk, hli⟩
      rw [Int.toNat_natCast, Int.toNat_natCast] at hco hwr
      have vB : ∀ b, (∃ c t, wr2.heap[b]? = some (.cells c t (0, 0)) ∧ t ≠ 5) → b ∉ V.ownBlock.toList := by
        intro b ⟨c, t, hb, ht⟩ hm
        have hvb : V.ownBlock = some b := by simpa using hm
        exact own_ne hb ht hw2.2 hvb
      have nB : B ∉ X :: O :: V.ownBlock.toList := by
        have := vB B ⟨_, _, h2.blk, by decide⟩
        simp only [List.mem_cons, not_or]; exact ⟨by omega, by omega, this⟩
      have nP : P ∉ X :: O :: V.ownBlock.toList := by
        have := vB P ⟨_, _, hp, by decide⟩
        simp only [List.mem_cons, not_or]; exact ⟨by omega, by omega, this⟩
      have nG : G ∉ X :: O :: V.ownBlock.toList := by
        have := vB G ⟨_, _, hr, by decide⟩
        simp only [List.mem_cons, not_or]; exact ⟨by omega, by omega, this⟩
      have hm' : Wm w' B P X G 173 T d D W n (cext sb so n sc d O) ⟨s.L, rr s.r k rm, s.b, s.t⟩ := ⟨hkk.heap h2.blk nB, h2.md.keep hkk nP, hco, ⟨cs, hkk.heap hr nG, hl, hc⟩, h2.ty⟩
      have k0 : Kept [] w0 w' := (HC.out.keep.trans hk2).step hkk (fun y hy => by
        right
        rcases List.mem_cons.1 hy with rfl | hy
        · omega
        · rcases List.mem_cons.1 hy with rfl | hy
          · omega
          · exact hV y (by simpa using hy))
      refine ⟨rfl, Hid.mk ⟨⟨hm', ⟨V', hwr, ?_⟩, k0, HC.out.smp, HC.out.tab, HC.out.lo⟩, ?_⟩, hm'.fact.c3, (ext_cells hm').2.2⟩
      · intro g hg
        rcases hli with h | ⟨g', hg', hl'⟩
        · rw [h] at hg; exact hV g hg
        · rw [hg'] at hg; simp at hg; subst hg
          have := (HC.out.keep.trans hk2).size; omega
      · intro Q c hQ
        have hQ2 := hk2.heap hQ (by simp)
        refine hkk.heap hQ2 ?_
        have := vB Q ⟨_, _, hQ2, by decide⟩
        simp only [List.mem_cons, not_or]
        exact ⟨ne_ty hQ2 h2.co.1 (by decide), ne_ty hQ2 hw2.1 (by decide), this⟩
    by_cases hlt : k < rm
    · have hlt' : (k : Int) < (rm : Int) := by omega
      have hs := hS (s.t + k) (by omega)
      have fv := Hf.out (s.t + k)
      obtain ⟨v, hv⟩ : ∃ v, f (s.t + k) = v := ⟨_, rfl⟩
      rw [hv] at hs fv
      have Hv := Hid.mk hv
      have C := Hid.mk (fun W' (hk : wr.cell? ⟨B, 7, none⟩ = W'.cell? ⟨B, 7, none⟩) => near_any B d a v W' (by rw [← hk]; exact e7) a0 (by omega) fv.1 (by omega))
      have ix : (s.t : Int) + k < n := by omega
      have ix0 : (0 : Int) ≤ (s.t : Int) + k := by omega
      have et : ((s.t : Int) + k).toNat = s.t + k := by omega
      have hs : wr.cell? ⟨sb, so + ((s.t : Int) + k).toNat, none⟩ = some (.int .u16 v) := by rw [et]; exact hs
      have wv : IntKind.i64.wrap v = v := wrap_i (by omega) (by omega)
      clear hv et hS hm
      by_cases hnv : nea d a v = true
      · rw [hnv] at C
        have Hnv := Hid.mk hnv
        clear hend hnv
        go_wp2
        go_quiet ((go_at_call 149; exact Calls.quiet_of_same (C.out _ (by simp))))
        go_wp2
        go_roundw
        case rel =>
          refine ⟨k + 1, by omega, by go_num, Hid.mk (fun j hj => ?_), HK.out.drewN _⟩
          by_cases e : j = k
          · subst e; rw [Hv.out]; exact Hnv.out
          · exact hall.out j (by omega)
        case measure => simp [intOf]; omega
      · have hnv' : nea d a v = false := by simpa using hnv
        rw [hnv'] at C
        have hR : Hid (rnl f a d s.t rm = k) := Hid.mk (rnl_is _ _ _ _ _ _ hk hall.out (fun _ => by rw [Hv.out]; exact hnv'))
        have HE := Hid.mk (fun q => hend (wr.drewN q).drew (HK.out.drewN q).drew hR)
        clear hend hnv hnv'
        go_wp2
        go_quiet ((go_at_call 149; exact Calls.quiet_of_same (C.out _ (by simp))))
        go_wp2
        go_region_held_law (fun w' => w'.cell? ⟨B, 3, none⟩ = some (.pointer (some ⟨X, 0, none⟩)) ∧ w'.cell? ⟨B, 8, none⟩ = some (.pointer (some ⟨O, 0, none⟩))) (first | exact ⟨c3, e8⟩ | exact ⟨t3, t8⟩ | go_keep) (first | (go_at_call 150; refine ((HE.out _).out).mono ?_; rintro e w3 ⟨rfl, R3, t3, t8⟩))
        go_wp2
        go_ret
        exact ⟨_, rfl, hR.out.symm, R3.out.1, R3.out.2⟩
    · obtain rfl : rm = k := by omega
      have hlt' : ¬ (rm : Int) < (rm : Int) := by omega
      have hR : Hid (rnl f a d s.t rm = rm) := Hid.mk (rnl_is _ _ _ _ _ _ hk hall.out (by omega))
      have HE := Hid.mk (fun q => hend (wr.drewN q).drew (HK.out.drewN q).drew hR)
      clear hend hS hm hlt
      go_wp2
      go_quiet (fail)
      go_wp2
      go_region_held_law (fun w' => w'.cell? ⟨B, 3, none⟩ = some (.pointer (some ⟨X, 0, none⟩)) ∧ w'.cell? ⟨B, 8, none⟩ = some (.pointer (some ⟨O, 0, none⟩))) (first | exact ⟨c3, e8⟩ | exact ⟨t3, t8⟩ | go_keep) (first | (go_at_call 150; refine ((HE.out _).out).mono ?_; rintro e w3 ⟨rfl, R3, t3, t8⟩))
      go_wp2
      go_ret
      exact ⟨_, rfl, hR.out.symm, R3.out.1, R3.out.2⟩
end Go.Proofs.YthhegomjipbdbaaGreatDoor

namespace Go.Proofs.YthhegomjipbdbaaGreatDoor
open Go.RowKit

end Go.Proofs.YthhegomjipbdbaaGreatDoor
