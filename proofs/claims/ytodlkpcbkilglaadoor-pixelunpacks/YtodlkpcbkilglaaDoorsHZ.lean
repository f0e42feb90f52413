import Derived.Test.YtodlkpcbkilglaaDoorA3
import Derived.WalkKit
import Derived.WalkSpells
import Derived.WalkLawsBesides
import Derived.Maps.AppendAt
import Derived.Deep.RegionHeld3
import Derived.Deep.RegionWith
import Derived.Deep.DeepCutAuto
import Derived.Deep.QuietTactic
import Derived.BigQuiet
import Derived.Laws.CopyOwn
import Derived.Laws.OwnMore
import Derived.ArgAppend
import Derived.Deep.RegionLaw
namespace Go.Proofs.YtodlkpcbkilglaaDoor.B6
open Go.RowKit

theorem set_mid {α : Type} (X Z : List α) (y u : α) (j : Nat) (hj : X.length = j) : (X ++ y :: Z).set j u = X ++ u :: Z := by
  subst hj
  rw [List.set_append_right _ _ (Nat.le_refl _), Nat.sub_self, List.set_cons_zero]

theorem row_at {w : World} {g e : Nat} {X : List Nat} (h : w.heap[g]? = some (.cells (X.map byt).toArray e (0, 0))) (j : Nat) (hj : j < X.length) : w.cell? ⟨g, j, none⟩ = some (byt (X.getD j 0)) := by
  simp [World.cell?, h, hj]

theorem drewN_two (w : World) (a b : Nat) : (w.drewN a).drewN b = w.drewN (a + b) := by
  induction b with
  | zero => rfl
  | succ b ih => show ((w.drewN a).drewN b).drew = (w.drewN (a + b)).drew; rw [ih]

theorem row_form {w : World} {base : Nat} {e : TypeId} {size : Nat} {v : Value} {n : Nat} {xs : List Value} (h : w.ownsRow base e size v n xs) : ∃ ao cap, v = .slice ao n cap := by
  rcases h.2 with ⟨rfl, rfl⟩ | ⟨g, cap, cur, rfl, _⟩
  · exact ⟨_, _, rfl⟩
  · exact ⟨_, _, rfl⟩
theorem wp_gen {P : Program} {c : Code} {Q : Exit → Act → World → Prop} {a : Act} {w0 : World} (R : World → Prop) (h0 : R w0) (h : ∀ W, R W → c.wp P Q a W) : c.wp P Q a w0 := h w0 h0
theorem cells_two {w : World} {B : Nat} {a b : Value} {t : TypeId} (h : w.heap[B]? = some (.cells #[a, b] t (0, 0))) :
    w.cell? ⟨B, 0, none⟩ = some a ∧ w.cell? ⟨B, 1, none⟩ = some b ∧ ∀ i, w.frozen? ⟨B, i, none⟩ = false := by
  refine ⟨?_, ?_, ?_⟩ <;> simp [World.cell?, World.frozen?, h]
theorem row_some {w : World} {base e n : Nat} {v : Value} {xs : List Value} (h : w.ownsRow base e 1 v n xs) (hn : 0 < n) : ∃ g cap, v = .slice (some ⟨g, 0, none⟩) n cap := by
  rcases h.2 with ⟨_, h1⟩ | ⟨g, cap, cur, h1, _⟩
  · omega
  · exact ⟨g, cap, h1⟩

theorem mem_own {v : Value} {x : Nat} : x ∈ v.ownBlock.toList ↔ v.ownBlock = some x := by
  cases h : v.ownBlock <;> simp
  exact ⟨fun e => e.symm, fun e => e.symm⟩

set_option maxHeartbeats 400000 in
theorem mark_any (i : Int) (w : World) (h0 : 0 ≤ i) (_ : i ≤ 1000000000000) :
    Calls Tryd.prog 52 #[.int .i64 i] w fun e w' => e = .returned (.int .u16 (50000 + i % 10000)) ∧ w' = w := by
  have e2 : IntKind.u16.wrap (50000 + i % 10000) = 50000 + i % 10000 := (by rw [IntKind.wrap_u16]; omega)
  go_enter Tryd.func52, Tryd.ntmps52
  go_wp2
  go_ret
  exact ⟨rfl, rfl⟩

set_option maxHeartbeats 1000000 in
set_option maxRecDepth 1000000 in
theorem full_any (ao : Option Addr) (cap n : Nat) (m : Int) (w : World) (hn : n ≤ 9223372036854775807) (hr : n = 0 ∨ ∃ g off, ao = some ⟨g, off, none⟩ ∧ ∀ i, i < n → w.cell? ⟨g, off + i, none⟩ = some (.int .u16 m)) :
    Calls Tryd.prog 53 #[.slice ao n cap, .int .u16 m] w fun e w' => e = .returned (.bool true) ∧ w' = w := by
  rcases hr with rfl | ⟨g, off, rfl, hc⟩
  · go_enter Tryd.func53, Tryd.ntmps53
    go_wp2
    refine wp_loop_rounds 1 ?_
    rw [rounds_succ]
    go_wp2
    go_ret
    exact ⟨rfl, rfl⟩
  · go_enter Tryd.func53, Tryd.ntmps53
    go_wp2
    go_loop [5] (fun i => ∃ k : Nat, k ≤ n ∧ i = .int .i64 k) (fun i => n - (intOf i).toNat)
    case atStart => exact ⟨0, Nat.zero_le _, rfl⟩
    case round =>
      obtain ⟨k, hk, rfl⟩ := hrel
      by_cases hlt : k < n
      · have hcell := hc k hlt
        go_wp2
        go_round
        case rel => exact ⟨k + 1, by omega, by go_num⟩
        case measure => simp [intOf]; omega
      · go_wp2
        go_ret
        exact ⟨rfl, rfl⟩

set_option maxHeartbeats 1000000 in
set_option maxRecDepth 1000000 in
/-- Two lists that are told alike. -/
theorem same_any (ao bo : Option Addr) (ca cb n : Nat) (f : Nat → Nat) (w : World) (hn : n ≤ 9223372036854775807) (ha : n = 0 ∨ ∃ g off, ao = some ⟨g, off, none⟩ ∧ ∀ i, i < n → w.cell? ⟨g, off + i, none⟩ = some (.int .u16 (f i : Int)))
    (hb : n = 0 ∨ ∃ g off, bo = some ⟨g, off, none⟩ ∧ ∀ i, i < n → w.cell? ⟨g, off + i, none⟩ = some (.int .u16 (f i : Int))) :
    Calls Tryd.prog 51 #[.slice ao n ca, .slice bo n cb] w fun e w' => e = .returned (.bool true) ∧ ∃ m, w' = w.drewN m := by
  by_cases h0 : n = 0
  · subst h0
    go_enter Tryd.func51, Tryd.ntmps51
    go_wp2
    refine wp_loop_rounds 1 ?_
    rw [rounds_succ]
    go_wp2
    go_ret
    exact ⟨rfl, 0, rfl⟩
  · obtain ⟨g, off, rfl, hc⟩ := ha.resolve_left h0
    obtain ⟨g2, off2, rfl, hc2⟩ := hb.resolve_left h0
    go_enter Tryd.func51, Tryd.ntmps51
    go_wp2
    go_loopw [5] (fun i wr => ∃ k : Nat, k ≤ n ∧ i = .int .i64 k ∧ ∃ q, wr = w.drewN q) (fun i _ => n - (intOf i).toNat)
    case atStart => exact ⟨0, Nat.zero_le _, rfl, 0, rfl⟩
    case round =>
      obtain ⟨k, hk, rfl, q, rfl⟩ := hrel
      by_cases hlt : k < n
      · have hcell := hc k hlt
        have hcell2 := hc2 k hlt
        go_wp2
        go_quiet (fail)
        go_wp2
        exact ⟨⟨k + 1, by omega, by go_num, _, rfl⟩, by simp [intOf]; omega⟩
      · go_wp2
        go_ret
        exact ⟨rfl, q, rfl⟩
theorem same_reads (ao bo : Option Addr) (ca cb n : Nat) (l : List Nat) (w : World) (hl : l.length = n) (hn : n ≤ 9223372036854775807) (ha : Reads w ao l) (hb : Reads w bo l) :
    Calls Tryd.prog 51 #[.slice ao n ca, .slice bo n cb] w fun e w' => e = .returned (.bool true) ∧ ∃ m, w' = w.drewN m := by
  subst hl
  refine same_any ao bo ca cb _ (fun i => l.getD i 0) w hn ?_ ?_
  · rcases ha with h | ⟨g, off, e, hc⟩
    · exact .inl (by rw [h]; rfl)
    · exact .inr ⟨g, off, e, hc⟩
  · rcases hb with h | ⟨g, off, e, hc⟩
    · exact .inl (by rw [h]; rfl)
    · exact .inr ⟨g, off, e, hc⟩
end Go.Proofs.YtodlkpcbkilglaaDoor.B6

namespace Go.Proofs.YtodlkpcbkilglaaDoor.B6
open Go.RowKit

/-- A list of bytes that fills its row, or nil. -/
def Lst (w : World) (v : Value) (l : List Nat) : Prop :=
  (v = .slice none 0 0 ∧ l = []) ∨ ∃ g, v = .slice (some ⟨g, 0, none⟩) l.length l.length ∧ w.heap[g]? = some (.cells (l.map byt).toArray 70 (0, 0))
theorem Lst.reads {w : World} {v : Value} {l : List Nat} (h : Lst w v l) : ∃ ao, v = .slice ao l.length l.length ∧ Reads w ao l := by
  rcases h with ⟨rfl, rfl⟩ | ⟨g, rfl, hg⟩
  · exact ⟨none, rfl, .inl rfl⟩
  · refine ⟨_, rfl, .inr ⟨g, 0, rfl, fun i hi => ?_⟩⟩
    simp [World.cell?, hg, hi]
theorem Lst.kept {w w' : World} {v : Value} {l : List Nat} {ks : List Nat} (h : Lst w v l) (hk : Kept ks w w') (hn : ∀ g, v.ownBlock = some g → g ∉ ks) : Lst w' v l := by
  rcases h with h | ⟨g, rfl, hg⟩
  · exact .inl h
  · exact .inr ⟨g, rfl, hk.heap hg (hn g rfl)⟩
theorem Lst.keep {w w' : World} {v : Value} {l : List Nat} (h : Lst w v l) (hk : Kept [] w w') : Lst w' v l := h.kept hk (by simp)
end Go.Proofs.YtodlkpcbkilglaaDoor.B6

namespace Go.Proofs.YtodlkpcbkilglaaDoor.B6
open Go.RowKit


/-- append onto what the call owns, as one step of a region that draws. -/
theorem step_own {P : Program} (w : World) {ops : Array Oper} {o : Oper} {a : Act} {K : Act → World → Prop} {Q : Exit → Act → World → Prop} {E : Prop} (hgd : o.guard = none) (s x : Operand) (t : TypeId)
    (ho : o.op = .call { callee := .builtin .append, args := #[s, x], argTypes := #[t, t] })
    (base : Nat) (e : TypeId) (i : TypeInfo) (z : Value) (size bytes : Nat) (ht : P.underlying t = some (.slice e)) (hi : P.info? e = some i) (hz : i.zero = some z)
    (hsize : i.size = size) (hby : i.bytes = bytes) (hzs : z.cells.size = size) (hsz : 0 < size)
    (v : Value) (n : Nat) (xs : List Value) (hs : a.eval s = v) (hown : w.ownsRow base e size v n xs)
    (ad : Addr) (m c : Nat) (news : List Value) (hx : a.eval x = .slice (some ad) m c) (hl : news.length = m * size) (hnews : ∀ j u, news[j]? = some u → w.cell? (ad.add j) = some u) (h1 : ∀ u ∈ news, u.oneCell' = true)
    (h63 : n + m ≤ maxLen) (hbytes : (n + m) * bytes ≤ 140737488355328) (hbase : base ≤ w.heap.size)
    (h : ∀ ao cap w', w'.ownsRow base e size (.slice ao (n + m) cap) (n + m) (xs ++ news) → w.grownBy w' v.ownBlock → ((Value.slice ao (n + m) cap).ownBlock = v.ownBlock ∨ (Value.slice ao (n + m) cap).ownBlock = some w.heap.size) → K (a.put o.dst (.slice ao (n + m) cap)) w') :
    if Region.wanted o (yielded ops a.tmps) = true then Oper.wp P o a w K Q else E := by
  have hw : Region.wanted o (yielded ops a.tmps) = true := by simp [Region.wanted, hgd]
  rw [if_pos hw]
  obtain ⟨v', w', hr, h2, h3, _, h5⟩ := run_append_own_at (P := P) w base t o.type e i z size bytes ht hi hz hsize hby hzs hsz v n xs hown ad m c news hl hnews h1 h63 hbytes hbase
  obtain ⟨ao, cap, rfl⟩ := row_form h2
  unfold Oper.wp execOp
  simp only [ho, resolve, invoke, builtin, Sem.run_bind, Sem.run_pure, Result.andThen_ok, List.map_toArray, List.map_cons, List.map_nil, hs, hx, hr]
  exact h ao cap w' h2 h3 h5

theorem own_ne2 {w : World} {B n : Nat} {V : Value} {xs : List Value} {cs : Array Value} {t e : TypeId} (h : w.heap[B]? = some (.cells cs t (0, 0))) (ht : t ≠ e) (ho : w.ownsRow 0 e 1 V n xs) : V.ownBlock ≠ some B := by
  intro he
  rcases ho.2 with ⟨rfl, _⟩ | ⟨g, cap, cur, rfl, _, hg, _⟩
  · simp [Value.ownBlock] at he
  · simp [Value.ownBlock] at he
    subst he
    rw [hg] at h
    simp at h
    exact ht h.2.symm

theorem news_of {w : World} {g : Nat} {l : List Nat} (h : w.heap[g]? = some (.cells (l.map byt).toArray 70 (0, 0))) : ∀ j u, (l.map byt)[j]? = some u → w.cell? ((⟨g, 0, none⟩ : Addr).add j) = some u := by
  intro j u hu
  have hadd : (⟨g, 0, none⟩ : Addr).add j = ⟨g, j, none⟩ := by unfold Addr.add; split <;> simp_all
  rw [hadd]
  simp only [World.cell?, h]
  simpa using hu

theorem kept_lit {W w3 : World} (h : (W.alloc (.cells #[] 70)).drew.grownBy w3 (Value.slice (some ⟨W.heap.size, 0, none⟩) 0 0).ownBlock) : Kept [] W w3 :=
  (((Kept.refl [] W).alloc _).drew).step (Kept.of_grown h) (by simp [Value.ownBlock])

theorem kept_step {w3 w4 : World} {o : Obj} {v : Value} (h : (w3.alloc o).grownBy w4 v.ownBlock) : Kept v.ownBlock.toList w3 w4 :=
  ((Kept.refl _ w3).alloc _).step (Kept.of_grown h) (fun _ hx => .inl hx)


theorem rows_apart {w : World} {v1 v2 : Value} {n1 n2 : Nat} {x1 x2 : List Value} {e1 e2 : TypeId} (h1 : w.ownsRow 0 e1 1 v1 n1 x1) (h2 : w.ownsRow 0 e2 1 v2 n2 x2) (he : e1 ≠ e2) : ∀ x, v1.ownBlock = some x → v2.ownBlock ≠ some x := by
  intro x hx hx2
  rcases h1.2 with ⟨rfl, _⟩ | ⟨g, cap, cur, rfl, _, hg, _⟩
  · simp [Value.ownBlock] at hx
  · simp [Value.ownBlock] at hx
    subst hx
    exact own_ne2 hg he h2 hx2

theorem keep_end {w W w3 w4 : World} {Bk n k y : Nat} {vl vw vl' vw' u : Value} {X ys : List Value} {l : List Nat} (HB2 : W.heap[Bk]? = some (.cells #[vl', vw] 46 (0, 0))) (Hl2 : W.ownsRow 0 68 1 vl' (n + 1) X) (Hw2 : W.ownsRow 0 68 1 vw n ys)
    (HK2 : Kept (Bk :: vl.ownBlock.toList) w W) (Hsep1 : ∀ x, vl'.ownBlock = some x → vw.ownBlock ≠ some x) (HL1 : Lies w vl vl') (hK3 : Kept [] W w3) (ho3 : w3.ownsRow 0 70 1 u k (l.map byt))
    {pa pb : Nat} (ha3 : u.ownBlock = some pa ∨ u.ownBlock = some pb) (hpa : W.heap.size ≤ pa) (hpb : W.heap.size ≤ pb) (hK4 : Kept vw.ownBlock.toList w3 w4) (ho4 : w4.ownsRow 0 68 1 vw' (n + 1) (ys ++ [u])) (ha4 : vw'.ownBlock = vw.ownBlock ∨ vw'.ownBlock = some y) (hy : w3.heap.size ≤ y) :
    ∃ vl'' vw'' u, (w4.setCell ⟨Bk, 1, none⟩ vw').heap[Bk]? = some (.cells #[vl'', vw''] 46 (0, 0)) ∧
      (w4.setCell ⟨Bk, 1, none⟩ vw').ownsRow 0 68 1 vl'' (n + 1) X ∧ (w4.setCell ⟨Bk, 1, none⟩ vw').ownsRow 0 68 1 vw'' (n + 1) (ys ++ [u]) ∧ (w4.setCell ⟨Bk, 1, none⟩ vw').ownsRow 0 70 1 u k (l.map byt) ∧ (∀ g, u.ownBlock = some g → w.heap.size ≤ g) ∧
      Lies w vl vl'' ∧ Lies w vw vw'' ∧ (∀ g, vl''.ownBlock = some g → vw''.ownBlock ≠ some g) ∧ Kept (Bk :: (vl.ownBlock.toList ++ vw.ownBlock.toList)) w (w4.setCell ⟨Bk, 1, none⟩ vw') := by
  have hB3 := hK3.heap HB2 (by simp)
  have hw3 := hK3.row Hw2 (by simp)
  have hl3 := hK3.row Hl2 (by simp)
  have hB4 := hK4.heap hB3 (by rw [mem_own]; exact own_ne2 hB3 (by decide) hw3)
  have hl4 := hK4.row hl3 (fun x hx => by rw [mem_own]; exact Hsep1 x hx)
  have hu4 := hK4.row ho3 (fun x hx => by rw [mem_own]; exact rows_apart ho3 hw3 (by decide) x hx)
  have s1 := HK2.size
  have s2 := hK3.size
  refine ⟨vl', vw', u, ?_, ?_, ?_, ?_, ?_, HL1, ?_, ?_, ?_⟩
  · rw [heap_setCell_at hB4]; simp
  · exact ownsRow_setCell_other hl4 (own_ne2 hB4 (by decide) hl4) _
  · exact ownsRow_setCell_other ho4 (own_ne2 hB4 (by decide) ho4) _
  · exact ownsRow_setCell_other hu4 (own_ne2 hB4 (by decide) hu4) _
  · intro x hx
    rcases ha3 with h | h <;> · rw [h] at hx; simp at hx; omega
  · rcases ha4 with h | h
    · exact .inl h
    · exact .inr ⟨y, h, by omega⟩
  · intro x hx hx2
    rcases ha4 with h | h
    · rw [h] at hx2; exact Hsep1 x hx hx2
    · rw [h] at hx2
      have := (Hl2.lt x hx).2
      simp at hx2
      omega
  · have k1 : Kept (Bk :: (vl.ownBlock.toList ++ vw.ownBlock.toList)) w W := HK2.mono (fun x hx => .inl (by simp at hx ⊢; rcases hx with h | h; exact .inl h; exact .inr (.inl h)))
    have k2 := k1.step hK3 (by simp)
    have k3 := k2.step hK4 (fun x hx => .inl (by simp at hx ⊢; exact .inr (.inr hx)))
    exact k3.setCell (p := ⟨Bk, 1, none⟩) (by simp) _

set_option maxHeartbeats 2000000 in
set_option maxRecDepth 1000000 in
theorem keep_some (Bk g k : Nat) (vl vw : Value) (n : Nat) (xs ys : List Value) (l : List Nat) (w : World) (hB : w.heap[Bk]? = some (.cells #[vl, vw] 46 (0, 0))) (hl : w.ownsRow 0 68 1 vl n xs) (hw : w.ownsRow 0 68 1 vw n ys)
    (hsep : ∀ g, vl.ownBlock = some g → vw.ownBlock ≠ some g) (hg : w.heap[g]? = some (.cells (l.map byt).toArray 70 (0, 0))) (hk : l.length = k) (hn : n ≤ 1000000000) (hkb : k ≤ 70368744177664) :
    Calls Tryd.prog 50 #[.pointer (some ⟨Bk, 0, none⟩), .slice (some ⟨g, 0, none⟩) k k] w fun e w' => e = .returned (.tuple #[]) ∧ ∃ vl' vw' u, w'.heap[Bk]? = some (.cells #[vl', vw'] 46 (0, 0)) ∧
      w'.ownsRow 0 68 1 vl' (n + 1) (xs ++ [.slice (some ⟨g, 0, none⟩) k k]) ∧ w'.ownsRow 0 68 1 vw' (n + 1) (ys ++ [u]) ∧ w'.ownsRow 0 70 1 u k (l.map byt) ∧ (∀ g, u.ownBlock = some g → w.heap.size ≤ g) ∧
      Lies w vl vl' ∧ Lies w vw vw' ∧ (∀ g, vl'.ownBlock = some g → vw'.ownBlock ≠ some g) ∧ Kept (Bk :: (vl.ownBlock.toList ++ vw.ownBlock.toList)) w w' := by
  obtain ⟨i0, hi, hz0, hz1, hz2⟩ := info_parts Tryd.infoR
  obtain ⟨j0, hj, jz0, jz1, jz2⟩ := info_parts Tryd.info65
  obtain ⟨c0, c1, fz⟩ := cells_two hB
  have f0 := fz 0
  have f1 := fz 1
  clear fz
  go_enter Tryd.func50, Tryd.ntmps50
  go_wp2_with (at_builtin; refine wpList_append_own_at _ rfl _ _ 29 rfl 0 68 i0 (.slice none 0 0) 1 24 Tryd.underlying29 hi hz0 hz1 hz2 rfl (by decide) _ _ _ rfl (hl.alloc _) ⟨w.heap.size, 0, none⟩ 1 1 [.slice (some ⟨g, 0, none⟩) k k] rfl rfl ?c1 ?c2 ?c3 ?c4 ?c5 ?_)
  case c1 =>
    intro i u hu
    match i, hu with
    | 0, hu => simp at hu; subst hu; simp [Addr.add]
  case c2 => intro u hu; simp at hu; subst hu; rfl
  case c3 => unfold maxLen; omega
  case c4 => omega
  case c5 => omega
  intro vl' w1 hl1 hg1 _ hat1
  obtain ⟨ao, cp, rfl⟩ := row_form hl1
  have hK1 : Kept vl.ownBlock.toList w w1 := ((Kept.refl _ w).alloc _).step (Kept.of_grown hg1) (fun x hx => .inl hx)
  have hL1 : Lies w vl (.slice ao (n + 1) cp) := by
    rcases hat1 with h | h
    · exact .inl h
    · exact .inr ⟨_, h, by simp⟩
  have hnB := own_ne2 hB (by decide) hl
  have hnB1 := hK1.heap hB (by rw [mem_own]; exact hnB)
  have hw1 := hK1.row hw (fun x hx => by rw [mem_own]; exact fun h => hsep x h hx)
  have hg2 := hK1.heap hg (by rw [mem_own]; exact own_ne2 hg (by decide) hl)
  obtain ⟨b0, b1, bz⟩ := cells_two hnB1
  have bz0 := bz 0
  clear bz
  have hsep1 : ∀ x, (Value.slice ao (n + 1) cp).ownBlock = some x → vw.ownBlock ≠ some x := fun x hx hx2 => by
    rcases hL1 with h | ⟨y, h, hy⟩
    · rw [h] at hx; exact hsep x hx hx2
    · rw [h] at hx; have hxy : y = x := by simpa using hx
      have := (hw.lt x hx2).2
      omega
  have Hl1 := Hid.mk hl1
  have Hw1 := Hid.mk hw1
  have Hg2 := Hid.mk hg2
  have HB1 := Hid.mk hnB1
  have HK1 := Hid.mk hK1
  have Hsep1 := Hid.mk hsep1
  have HL1 := Hid.mk hL1
  clear hl1 hw1 hg2 hnB1 hK1 hsep1 hL1 hg1 hat1 c0 c1 f0 f1 hB hl hw hsep hg hnB
  go_wp2
  refine wp_gen (fun W => W.heap[Bk]? = some (.cells #[.slice ao (n + 1) cp, vw] 46 (0, 0)) ∧ W.ownsRow 0 68 1 (.slice ao (n + 1) cp) (n + 1) (xs ++ [.slice (some ⟨g, 0, none⟩) k k]) ∧ W.ownsRow 0 68 1 vw n ys ∧
    W.heap[g]? = some (.cells (l.map byt).toArray 70 (0, 0)) ∧ Kept (Bk :: vl.ownBlock.toList) w W) ⟨?_, ?_, ?_, ?_, ?_⟩ ?_
  · rw [heap_setCell_at HB1.out]; simp
  · exact ownsRow_setCell_other Hl1.out (own_ne2 HB1.out (by decide) Hl1.out) _
  · exact ownsRow_setCell_other Hw1.out (own_ne2 HB1.out (by decide) Hw1.out) _
  · rw [Below.heap_setCell _ _ _ _ (by intro e; have h1 := Hg2.out; have h2 := HB1.out; simp at e; subst e; rw [h1] at h2; simp at h2)]; exact Hg2.out
  · exact (HK1.out.mono (fun x hx => .inl (List.mem_cons_of_mem _ hx))).setCell (p := ⟨Bk, 0, none⟩) (by simp) _
  rintro W ⟨hB2, hl2, hw2, hg2, hK2⟩
  obtain ⟨d0, d1, dz⟩ := cells_two hB2
  have dz1 := dz 1
  have HB2 := Hid.mk hB2
  have hBW := lt_of_block hB2
  have hBW2 : ¬ Bk = W.heap.size := by omega
  have hBW3 : ¬ W.heap.size = Bk := by omega
  have d1a : (W.alloc (.cells #[] 70)).cell? ⟨Bk, 1, none⟩ = some vw := (cells_two ((((Kept.refl [] W).alloc (.cells #[] 70))).heap hB2 (by simp))).2.1
  have Hl2 := Hid.mk hl2
  have Hw2 := Hid.mk hw2
  have Hg3 := Hid.mk hg2
  have HK2 := Hid.mk hK2
  clear dz hB2 hl2 hw2 hg2 hK2 b0 b1 bz0 Hl1 Hw1 Hg2 HB1 HK1
  go_region_law (first | (refine step_own _ (by rfl) (.tmp 19) (.tmp 20) 68 (by rfl) 0 70 j0 (.int .u16 0) 1 2 Tryd.underlying68 hj jz0 jz1 jz2 rfl (by decide) _ 0 [] (by rfl) ((World.ownsRow_made W #[] 0 (Nat.zero_le _) (Nat.zero_le _) (by rfl)).drew) ⟨g, 0, none⟩ k k (l.map byt) (by rfl) (by simp [hk]) (news_of ((((Kept.refl [] W).alloc _).drew).heap Hg3.out (by simp))) (bytes_one l) (by unfold maxLen; omega) (by omega) (Nat.zero_le _) ?_; intro ao3 cp3 w3 ho3 hg3 ha3; have hK3 := kept_lit hg3; have hw3 := hK3.row Hw2.out (by simp); have hB3 := hK3.heap HB2.out (by simp); have e1 := (cells_two hB3).2.1; have ez := (cells_two hB3).2.2 1; have h3a := lt_of_block hB3; have h3b : ¬ Bk = w3.heap.size := (by omega); have h3c : ¬ w3.heap.size = Bk := (by omega); have h3d : (w3.alloc (.cells #[.slice ao3 k cp3] 68)).cell? ⟨Bk, 1, none⟩ = some vw := (cells_two ((((Kept.refl [] w3).alloc (.cells #[.slice ao3 k cp3] 68))).heap hB3 (by simp))).2.1) | (refine step_own _ (by rfl) (.tmp 18) (.tmp 22) 29 (by rfl) 0 68 i0 (.slice none 0 0) 1 24 Tryd.underlying29 hi hz0 hz1 hz2 rfl (by decide) vw n ys (by rfl) (hw3.alloc _) ⟨w3.heap.size, 0, none⟩ 1 1 [.slice ao3 k cp3] (by rfl) (by rfl) (cell_one_new _ _ _) (by intro u hu; simp at hu; subst hu; rfl) (by unfold maxLen; omega) (by omega) (Nat.zero_le _) ?_; intro ao4 cp4 w4 ho4 hg4 ha4; have hK4 := kept_step hg4; have hB4 := hK4.heap hB3 (by rw [mem_own]; exact own_ne2 hB3 (by decide) hw3); have q1 := (cells_two hB4).2.1; have qz := (cells_two hB4).2.2 1))
  all_goals go_wp2
  all_goals go_end0
  all_goals simp only [Nat.zero_add, List.nil_append] at ho3 ha3
  all_goals refine ⟨rfl, ?_⟩
  all_goals exact keep_end HB2.out Hl2.out Hw2.out HK2.out Hsep1.out HL1.out hK3 ho3 (pa := W.heap.size) (pb := (W.alloc (Obj.cells #[] 70)).drew.heap.size) ha3 (Nat.le_refl _) (by show W.heap.size ≤ (W.alloc (Obj.cells #[] 70)).heap.size; simp) hK4 ho4 ha4 (by simp)
end Go.Proofs.YtodlkpcbkilglaaDoor.B6

namespace Go.Proofs.YtodlkpcbkilglaaDoor.B6
open Go.RowKit

/-- append of nothing, as one step of a region that draws. -/
theorem step_none {P : Program} (w : World) {ops : Array Oper} {o : Oper} {a : Act} {K : Act → World → Prop} {Q : Exit → Act → World → Prop} {E : Prop} (hgd : o.guard = none) (s x : Operand) (t : TypeId)
    (ho : o.op = .call { callee := .builtin .append, args := #[s, x], argTypes := #[t, t] })
    (base : Nat) (e : TypeId) (i : TypeInfo) (size : Nat) (ht : P.underlying t = some (.slice e)) (hi : P.info? e = some i)
    (v : Value) (n : Nat) (xs : List Value) (hs : a.eval s = v) (hown : w.ownsRow base e size v n xs) (hx : a.eval x = .slice none 0 0)
    (h : ∀ w', w'.ownsRow base e size v n xs → w.grownBy w' none → K (a.put o.dst v) w') :
    if Region.wanted o (yielded ops a.tmps) = true then Oper.wp P o a w K Q else E := by
  have hw : Region.wanted o (yielded ops a.tmps) = true := by simp [Region.wanted, hgd]
  rw [if_pos hw]
  have hrun := run_append_owned_none (P := P) (w := w) base t o.type e i size ht hi v n xs hown
  unfold Oper.wp
  simp [execOp, ho, resolve, invoke, builtin, hs, hx, hrun, Result.andThen]
  exact h w hown (World.grownBy.refl _ _)

theorem kept_lit2 {W w3 : World} (h : (W.alloc (.cells #[] 70)).drew.grownBy w3 none) : Kept [] W w3 :=
  (((Kept.refl [] W).alloc _).drew).trans (Kept.of_grown h)

set_option maxHeartbeats 2000000 in
set_option maxRecDepth 1000000 in
theorem keep_nil (Bk : Nat) (vl vw : Value) (n : Nat) (xs ys : List Value) (w : World) (hB : w.heap[Bk]? = some (.cells #[vl, vw] 46 (0, 0))) (hl : w.ownsRow 0 68 1 vl n xs) (hw : w.ownsRow 0 68 1 vw n ys)
    (hsep : ∀ g, vl.ownBlock = some g → vw.ownBlock ≠ some g) (hn : n ≤ 1000000000) :
    Calls Tryd.prog 50 #[.pointer (some ⟨Bk, 0, none⟩), .slice none 0 0] w fun e w' => e = .returned (.tuple #[]) ∧ ∃ vl' vw' u, w'.heap[Bk]? = some (.cells #[vl', vw'] 46 (0, 0)) ∧
      w'.ownsRow 0 68 1 vl' (n + 1) (xs ++ [.slice none 0 0]) ∧ w'.ownsRow 0 68 1 vw' (n + 1) (ys ++ [u]) ∧ w'.ownsRow 0 70 1 u 0 [] ∧ (∀ g, u.ownBlock = some g → w.heap.size ≤ g) ∧
      Lies w vl vl' ∧ Lies w vw vw' ∧ (∀ g, vl'.ownBlock = some g → vw'.ownBlock ≠ some g) ∧ Kept (Bk :: (vl.ownBlock.toList ++ vw.ownBlock.toList)) w w' := by
  obtain ⟨i0, hi, hz0, hz1, hz2⟩ := info_parts Tryd.infoR
  obtain ⟨j0, hj, _, _, _⟩ := info_parts Tryd.info65
  obtain ⟨c0, c1, fz⟩ := cells_two hB
  have f0 := fz 0
  have f1 := fz 1
  clear fz
  go_enter Tryd.func50, Tryd.ntmps50
  go_wp2_with (at_builtin; refine wpList_append_own_at _ rfl _ _ 29 rfl 0 68 i0 (.slice none 0 0) 1 24 Tryd.underlying29 hi hz0 hz1 hz2 rfl (by decide) _ _ _ rfl (hl.alloc _) ⟨w.heap.size, 0, none⟩ 1 1 [.slice none 0 0] rfl rfl ?c1 ?c2 ?c3 ?c4 ?c5 ?_)
  case c1 =>
    intro i u hu
    match i, hu with
    | 0, hu => simp at hu; subst hu; simp [Addr.add]
  case c2 => intro u hu; simp at hu; subst hu; rfl
  case c3 => unfold maxLen; omega
  case c4 => omega
  case c5 => omega
  intro vl' w1 hl1 hg1 _ hat1
  obtain ⟨ao, cp, rfl⟩ := row_form hl1
  have hK1 : Kept vl.ownBlock.toList w w1 := ((Kept.refl _ w).alloc _).step (Kept.of_grown hg1) (fun x hx => .inl hx)
  have hL1 : Lies w vl (.slice ao (n + 1) cp) := by
    rcases hat1 with h | h
    · exact .inl h
    · exact .inr ⟨_, h, by simp⟩
  have hnB := own_ne2 hB (by decide) hl
  have hnB1 := hK1.heap hB (by rw [mem_own]; exact hnB)
  have hw1 := hK1.row hw (fun x hx => by rw [mem_own]; exact fun h => hsep x h hx)
  obtain ⟨b0, b1, bz⟩ := cells_two hnB1
  have bz0 := bz 0
  clear bz
  have hsep1 : ∀ x, (Value.slice ao (n + 1) cp).ownBlock = some x → vw.ownBlock ≠ some x := fun x hx hx2 => by
    rcases hL1 with h | ⟨y, h, hy⟩
    · rw [h] at hx; exact hsep x hx hx2
    · rw [h] at hx; have hxy : y = x := by simpa using hx
      have := (hw.lt x hx2).2
      omega
  have Hl1 := Hid.mk hl1
  have Hw1 := Hid.mk hw1
  have HB1 := Hid.mk hnB1
  have HK1 := Hid.mk hK1
  have Hsep1 := Hid.mk hsep1
  have HL1 := Hid.mk hL1
  clear hl1 hw1 hnB1 hK1 hsep1 hL1 hg1 hat1 c0 c1 f0 f1 hB hl hw hsep hnB
  go_wp2
  refine wp_gen (fun W => W.heap[Bk]? = some (.cells #[.slice ao (n + 1) cp, vw] 46 (0, 0)) ∧ W.ownsRow 0 68 1 (.slice ao (n + 1) cp) (n + 1) (xs ++ [.slice none 0 0]) ∧ W.ownsRow 0 68 1 vw n ys ∧
    Kept (Bk :: vl.ownBlock.toList) w W) ⟨?_, ?_, ?_, ?_⟩ ?_
  · rw [heap_setCell_at HB1.out]; simp
  · exact ownsRow_setCell_other Hl1.out (own_ne2 HB1.out (by decide) Hl1.out) _
  · exact ownsRow_setCell_other Hw1.out (own_ne2 HB1.out (by decide) Hw1.out) _
  · exact (HK1.out.mono (fun x hx => .inl (List.mem_cons_of_mem _ hx))).setCell (p := ⟨Bk, 0, none⟩) (by simp) _
  rintro W ⟨hB2, hl2, hw2, hK2⟩
  obtain ⟨d0, d1, dz⟩ := cells_two hB2
  have dz1 := dz 1
  have HB2 := Hid.mk hB2
  have hBW := lt_of_block hB2
  have hBW2 : ¬ Bk = W.heap.size := by omega
  have hBW3 : ¬ W.heap.size = Bk := by omega
  have d1a : (W.alloc (.cells #[] 70)).cell? ⟨Bk, 1, none⟩ = some vw := (cells_two ((((Kept.refl [] W).alloc (.cells #[] 70))).heap hB2 (by simp))).2.1
  have Hl2 := Hid.mk hl2
  have Hw2 := Hid.mk hw2
  have HK2 := Hid.mk hK2
  clear dz hB2 hl2 hw2 hK2 b0 b1 bz0 Hl1 Hw1 HB1 HK1
  go_region_law (first | (refine step_none _ (by rfl) (.tmp 19) (.tmp 20) 68 (by rfl) 0 70 j0 1 Tryd.underlying68 hj _ 0 [] (by rfl) ((World.ownsRow_made W #[] 0 (Nat.zero_le _) (Nat.zero_le _) (by rfl)).drew) (by rfl) ?_; intro w3 ho3 hg3; have hK3 := kept_lit2 hg3; have hw3 := hK3.row Hw2.out (by simp); have hB3 := hK3.heap HB2.out (by simp); have e1 := (cells_two hB3).2.1; have ez := (cells_two hB3).2.2 1; have h3a := lt_of_block hB3; have h3b : ¬ Bk = w3.heap.size := (by omega); have h3c : ¬ w3.heap.size = Bk := (by omega); have h3d : (w3.alloc (.cells #[.slice (some ⟨W.heap.size, 0, none⟩) 0 0] 68)).cell? ⟨Bk, 1, none⟩ = some vw := (cells_two ((((Kept.refl [] w3).alloc (.cells #[.slice (some ⟨W.heap.size, 0, none⟩) 0 0] 68))).heap hB3 (by simp))).2.1) | (refine step_own _ (by rfl) (.tmp 18) (.tmp 22) 29 (by rfl) 0 68 i0 (.slice none 0 0) 1 24 Tryd.underlying29 hi hz0 hz1 hz2 rfl (by decide) vw n ys (by rfl) (hw3.alloc _) ⟨w3.heap.size, 0, none⟩ 1 1 [.slice (some ⟨W.heap.size, 0, none⟩) 0 0] (by rfl) (by rfl) (cell_one_new _ _ _) (by intro u hu; simp at hu; subst hu; rfl) (by unfold maxLen; omega) (by omega) (Nat.zero_le _) ?_; intro ao4 cp4 w4 ho4 hg4 ha4; have hK4 := kept_step hg4; have hB4 := hK4.heap hB3 (by rw [mem_own]; exact own_ne2 hB3 (by decide) hw3); have q1 := (cells_two hB4).2.1; have qz := (cells_two hB4).2.2 1))
  all_goals go_wp2
  all_goals go_end0
  all_goals refine ⟨rfl, ?_⟩
  all_goals exact keep_end (l := []) HB2.out Hl2.out Hw2.out HK2.out Hsep1.out HL1.out hK3 ho3 (pa := W.heap.size) (pb := W.heap.size) (.inl rfl) (Nat.le_refl _) (Nat.le_refl _) hK4 ho4 ha4 (by simp)

/-- Book.keep of a list that fills its row. -/
theorem keep_any (Bk : Nat) (vl vw v : Value) (n : Nat) (xs ys : List Value) (l : List Nat) (w : World) (hB : w.heap[Bk]? = some (.cells #[vl, vw] 46 (0, 0))) (hl : w.ownsRow 0 68 1 vl n xs) (hw : w.ownsRow 0 68 1 vw n ys)
    (hsep : ∀ g, vl.ownBlock = some g → vw.ownBlock ≠ some g) (hv : Lst w v l) (hn : n ≤ 1000000000) (hkb : l.length ≤ 70368744177664) :
    Calls Tryd.prog 50 #[.pointer (some ⟨Bk, 0, none⟩), v] w fun e w' => e = .returned (.tuple #[]) ∧ ∃ vl' vw' u, w'.heap[Bk]? = some (.cells #[vl', vw'] 46 (0, 0)) ∧
      w'.ownsRow 0 68 1 vl' (n + 1) (xs ++ [v]) ∧ w'.ownsRow 0 68 1 vw' (n + 1) (ys ++ [u]) ∧ w'.ownsRow 0 70 1 u l.length (l.map byt) ∧ (∀ g, u.ownBlock = some g → w.heap.size ≤ g) ∧
      Lies w vl vl' ∧ Lies w vw vw' ∧ (∀ g, vl'.ownBlock = some g → vw'.ownBlock ≠ some g) ∧ Kept (Bk :: (vl.ownBlock.toList ++ vw.ownBlock.toList)) w w' := by
  rcases hv with ⟨rfl, rfl⟩ | ⟨g, rfl, hg⟩
  · exact keep_nil Bk vl vw n xs ys w hB hl hw hsep hn
  · exact keep_some Bk g l.length vl vw n xs ys l w hB hl hw hsep hg rfl hn hkb
end Go.Proofs.YtodlkpcbkilglaaDoor.B6

namespace Go.Proofs.YtodlkpcbkilglaaDoor.B6
open Go.RowKit

/-- A slice of n bytes that are all c: it is full and old, or it lies in memory that is new to W0. -/
def Grow (W0 w : World) (v : Value) (n : Nat) (c : Value) : Prop :=
  (∃ ao, v = .slice ao n n ∧ (ao = none → n = 0) ∧ ∀ b, ao = some b → ∀ j u, (List.replicate n c)[j]? = some u → w.cell? (b.add j) = some u) ∨ w.ownsRow W0.heap.size 70 1 v n (List.replicate n c)

theorem Grow.alloc {W0 w : World} {v : Value} {n : Nat} {c : Value} (h : Grow W0 w v n c) (o : Obj) : Grow W0 (w.alloc o) v n c := by
  rcases h with ⟨ao, hv, h1, h2⟩ | h
  · refine .inl ⟨ao, hv, h1, fun b hb j u hu => ?_⟩
    have hc := h2 b hb j u hu
    have hlt := World.block_lt_of_cell? w _ hc
    rw [World.cell?_of_block (w := w) (Below.heap_alloc w o _ hlt)]
    exact hc
  · exact .inr (h.alloc o)

/-- One more of them is appended. -/
theorem wpList_grow (w : World) {ops : Array Oper} {rest : List Oper} {o : Oper} {a : Act} {Q : Exit → Act → World → Prop} (hgd : o.guard = none) (s x : Operand)
    (ho : o.op = .call { callee := .builtin .append, args := #[s, x], argTypes := #[68, 68] }) (W0 : World) (hk : Kept [] W0 w) (v : Value) (n : Nat) (c : Value) (hc1 : c.oneCell' = true) (hs : a.eval s = v) (hG : Grow W0 w v n c)
    (ad : Addr) (hx : a.eval x = .slice (some ad) 1 1) (hnews : ∀ j u, [c][j]? = some u → w.cell? (ad.add j) = some u) (hn : n + 1 ≤ 70368744177664)
    (h : ∀ v' w', w'.ownsRow W0.heap.size 70 1 v' (n + 1) (List.replicate (n + 1) c) → Kept [] W0 w' → wpList Tryd.prog ops Q rest (a.put o.dst v') w') : wpList Tryd.prog ops Q (o :: rest) a w := by
  obtain ⟨i0, hi, hz0, hz1, hz2⟩ := info_parts Tryd.info65
  have h1 : ∀ u ∈ [c], u.oneCell' = true := by intro u hu; simp at hu; subst hu; exact hc1
  have hrep : List.replicate (n + 1) c = List.replicate n c ++ [c] := by rw [List.replicate_succ']
  rcases hG with ⟨ao, hv, hnone, hold⟩ | hown
  · subst hv
    refine wpList_append_grows w hgd s x 68 ho 70 i0 (.int .u16 0) 1 2 Tryd.underlying68 hi hz0 hz1 hz2 rfl (by decide) ao n n (List.replicate n c) hs (fun e => ⟨hnone e, hnone e⟩) (by simp) hold ad 1 1 [c] hx (by simp) hnews h1 (by omega) (by unfold maxLen; omega) (by omega) ?_
    intro v' w' ho' hg'
    refine h v' w' ?_ (hk.step (Kept.of_grown hg') (by simp))
    rw [hrep]
    have hsz := hk.size
    refine ⟨ho'.1, ?_⟩
    rcases ho'.2 with h2 | ⟨g, cap, cur, e1, e2, e3⟩
    · exact .inl h2
    · exact .inr ⟨g, cap, cur, e1, by omega, e3⟩
  · refine wpList_append_own_at w hgd s x 68 ho W0.heap.size 70 i0 (.int .u16 0) 1 2 Tryd.underlying68 hi hz0 hz1 hz2 rfl (by decide) v n _ hs hown ad 1 1 [c] hx (by simp) hnews h1 (by unfold maxLen; omega) (by omega) hk.size ?_
    intro v' w' ho' hg' _ _
    refine h v' w' (by rw [hrep]; exact ho') (hk.step (Kept.of_grown hg') ?_)
    intro y hy
    rw [mem_own] at hy
    exact .inr (hown.lt y hy).1

end Go.Proofs.YtodlkpcbkilglaaDoor.B6
