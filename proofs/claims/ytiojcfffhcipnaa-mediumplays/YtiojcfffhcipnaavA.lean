import Derived.Test.YtiojcfffhcipnaaR
import Derived.Test.YtiojcfffhcipnaaD
import Derived.Handy
import Derived.Laws.CopyOwn
import Derived.Deep.DeepAppendWide
namespace Go.Proofs.Ytiojcfffhcipnaa
open Go.RowKit

theorem ret_int' {k : IntKind} {a b : Int} (h : a = b) : Ending.returned (.int k a) = .returned (.int k b) := by rw [h]

/-- Bytes that are put behind a row. -/
theorem app_wide (u : World) (ty B : Nat) (v : Value) (n : Nat) (xs : List Value) (ho : u.ownsRow B 5 1 v n xs) (hB : B ≤ u.heap.size) (so : Option Addr) (m c : Nat) (l : List Nat) (hr : Reads u so l) (hm : l.length = m) (hmb : n + m ≤ 140737488355200) (hnc : so = none → c = 0) :
    ∃ v' u', Sem.run Try.prog (Builtin.append_ #[29, 29] ty #[v, .slice so m c]) u = .ok v' u' ∧ u'.ownsRow B 5 1 v' (n + m) (xs ++ l.map byt) ∧ Kept v.ownBlock.toList u u' := by
  obtain ⟨i0, hi, hz0, hz1, hz2⟩ := info_parts Try.info5
  match so, hnc with
  | none, hnc =>
    obtain rfl : c = 0 := hnc rfl
    have hl : l = [] := by
      rcases hr with h | ⟨g, off, h, _⟩
      · exact h
      · cases h
    subst hl
    obtain rfl : m = 0 := by simpa using hm.symm
    exact ⟨v, u, run_append_owned_none (P := Try.prog) (w := u) B 29 ty 5 i0 1 Try.underlying29 hi v n xs ho, by simpa using ho, Kept.refl _ _⟩
  | some ad, _ =>
    obtain ⟨v', u', hrun, h2, h3, _⟩ := run_append_own_wide (P := Try.prog) u B 29 ty 5 i0 (.int .u8 0) 1 1 Try.underlying29 hi hz0 hz1 hz2 rfl (by decide) v n xs ho ad m c (l.map byt) (by simp [hm]) (fun j x hj => by
      rcases hr with h | ⟨g, off, h, hc⟩
      · subst h; simp at hj
      · cases h
        have hjl : j < l.length := by
          rcases Nat.lt_or_ge j l.length with h | h
          · exact h
          · rw [List.getElem?_eq_none (by simpa using h)] at hj; cases hj
        rw [show (⟨g, off, none⟩ : Addr).add j = ⟨g, off + j, none⟩ by unfold Addr.add; split <;> simp_all, hc j hjl]
        rw [List.getElem?_map, List.getElem?_eq_getElem hjl] at hj
        simp only [Option.map_some, Option.some.injEq] at hj
        rw [← hj, List.getD_eq_getElem?_getD, List.getElem?_eq_getElem hjl]
        rfl) (fun x hx => by
      simp only [List.mem_map] at hx
      obtain ⟨b, _, rfl⟩ := hx
      rfl) (by unfold maxLen; omega) (by omega) hB
    exact ⟨v', u', hrun, h2, Kept.of_grown h3⟩
theorem wpList_app_eq' {P : Program} {w : World} {ops : Array Oper} {rest : List Oper} {o : Oper} {a : Act} {Q : Exit → Act → World → Prop} (hgd : o.guard = none) (s x : Operand) (t : TypeId)
    (ho : o.op = .call { callee := .builtin .append, args := #[s, x], argTypes := #[t, t] }) (v y v' : Value) (w' : World) (hs : a.eval s = v) (hx : a.eval x = y)
    (hrun : Sem.run P (Builtin.append_ #[t, t] o.type #[v, y]) w = .ok v' w') (h : wpList P ops Q rest (a.put o.dst v') w') : wpList P ops Q (o :: rest) a w := by
  refine wpList_plain hgd fun K hK => ?_
  unfold Oper.wp
  simp [execOp, ho, resolve, invoke, builtin, hs, hx, hrun, Result.andThen]
  exact hK _ _ h

theorem row_none {w : World} {B e n : Nat} {v : Value} {xs : List Value} (h : w.ownsRow B e 1 v n xs) : ∃ bo c, v = .slice bo n c ∧ (bo = none → c = 0) ∧ n ≤ c ∧ (∀ g o, bo = some ⟨g, o, none⟩ → B ≤ g ∧ o = 0) := by
  rcases h.2 with ⟨h1, h2⟩ | ⟨g', cap', cur, h1, h3, h4, h5, _⟩
  · subst h1; subst h2; exact ⟨none, 0, rfl, (fun _ => rfl), Nat.le_refl _, (fun g o h => by cases h)⟩
  · subst h1; exact ⟨_, _, rfl, (fun h => by cases h), h5, (fun g o h => by cases h; exact ⟨h3, rfl⟩)⟩

set_option maxHeartbeats 4000000 in
set_option maxRecDepth 1000000 in
/-- bytes.Clone. -/
theorem bclone_any (ao : Option Addr) (m cap : Nat) (l : List Nat) (w : World) (hr : Reads w ao l) (hm : l.length = m) (hc : ao = none → cap = 0) (hl : m ≤ 140737488355200) :
    Calls Try.prog 50 #[.slice ao m cap] w fun e w' => ∃ bo c, e = .returned (.slice bo m c) ∧ w'.ownsRow w.heap.size 5 1 (.slice bo m c) m (l.map byt) ∧ Kept [] w w' := by
  have hq : ∀ W : World, (binOp BinOp.eql 29 (.slice ao m cap) (.slice none 0 0)).run Try.prog W = .ok (.bool ao.isNone) W := fun W => by
    have := Lib.run_eql_slice_nil (P := Try.prog) W 29 5 ao m cap 0 0 Try.underlying29
    simpa using this
  cases ao with
  | none =>
    obtain rfl := hc rfl
    have hl0 : l = [] := by
      rcases hr with h | ⟨g, off, h, _⟩
      · exact h
      · cases h
    subst hl0
    obtain rfl : m = 0 := by simpa using hm.symm
    have hq2 : ∀ W : World, (binOp BinOp.eql 29 (.slice none 0 0) (.slice none 0 0)).run Try.prog W = .ok (.bool true) W := hq
    clear hq hr hm hc
    go_enter Try.func50, Try.ntmps50
    go_wp2
    go_ret
    exact ⟨none, 0, rfl, ⟨rfl, .inl ⟨rfl, rfl⟩⟩, Kept.refl _ _⟩
  | some ad =>
    have hq2 : ∀ W : World, (binOp BinOp.eql 29 (.slice (some ad) m cap) (.slice none 0 0)).run Try.prog W = .ok (.bool false) W := hq
    have ho : (w.alloc (.cells #[] 5)).ownsRow w.heap.size 5 1 (.slice (some ⟨w.heap.size, 0, none⟩) 0 0) 0 ([] : List Value) := World.ownsRow_lit w #[] 0 (Nat.le_refl _) (by decide) rfl
    have k0 : Kept [] w (w.alloc (.cells #[] 5)) := (Kept.refl [] w).alloc _
    obtain ⟨v', u', hrun, h2, h3⟩ := app_wide _ 29 _ _ _ _ ho (by rw [World.size_alloc]; omega) (some ad) m cap l (hr.keep k0) hm (by omega) (by simp)
    rw [Nat.zero_add, List.nil_append] at h2
    have H2 := Hid.mk h2
    have HK : Hid (Kept [] w u') := Hid.mk (k0.step h3 (fun x hx => by simp [Value.ownBlock] at hx; subst hx; exact .inr (Nat.le_refl _)))
    clear hq h3 k0 ho hr h2
    go_enter Try.func50, Try.ntmps50
    go_wp2_with (at_builtin; refine wpList_app_eq' rfl _ _ 29 rfl _ _ v' u' rfl rfl hrun ?_)
    go_ret
    obtain ⟨bo, c, rfl, h1, h2, h3⟩ := row_none H2.out
    exact ⟨bo, c, rfl, H2.out, HK.out⟩

theorem make_bytes (n : Nat) (w : World) (hn : n ≤ 140737488355300) : ∃ w', Sem.run Try.prog (Instr.makeSlice 29 (.int .i64 (n : Int)) (.int .i64 (n : Int))) w = .ok (.slice (some ⟨w.heap.size, 0, none⟩) n n) w' ∧ w'.heap[w.heap.size]? = some (.cells (List.replicate n (byt 0)).toArray 5 (0, 0)) ∧ Kept [] w w' := by
  obtain ⟨j0, gi, gz0, gz1, gz2⟩ := info_parts Try.info5
  obtain ⟨w', hrun, r1, r2⟩ := run_make_full (P := Try.prog) w 0 29 5 j0 (.int .u8 0) 1 Try.underlying29 gi gz0 gz1 .i64 .i64 n (by rw [gz2]; omega) (by unfold maxLen; omega) (by omega)
  have hr3 := row_heap r1 rfl
  rw [madeBytes] at hr3
  exact ⟨w', hrun, hr3, (Kept.of_grown r2).mono (by simp)⟩

theorem setRow_kept {w : World} {B t : Nat} {old : Array Value} (h : w.heap[B]? = some (.cells old t (0, 0))) (cs : Array Value) : ∃ w', w.setRow B cs = w' ∧ w'.heap[B]? = some (.cells cs t (0, 0)) ∧ Kept [B] w w' :=
  ⟨_, rfl, setRow_heap w B old cs t (0, 0) h, ⟨rfl, rfl, rfl, by simp [World.setRow], fun k _ hk => setRow_other w B k _ (by simpa using hk)⟩⟩
theorem byt_len (l : List Nat) : (l.map byt).length = l.length := List.length_map _

/-- Copy of as many bytes as there is room for. -/
theorem bcopy_run (w : World) (g n : Nat) (so : Option Addr) (sl sc : Nat) (l : List Nat) (cur : List Value) (hg : w.heap[g]? = some (.cells cur.toArray 5 (0, 0))) (hcur : cur.length = n) (hr : Reads w so l) (hsl : l.length = sl) (hn : n ≤ sl) :
    ∃ w', Sem.run Try.prog (Builtin.copy_ #[29, 29] 3 #[.slice (some ⟨g, 0, none⟩) n n, .slice so sl sc]) w = .ok (.int .i64 (n : Int)) w' ∧ w'.heap[g]? = some (.cells ((l.take n).map byt).toArray 5 (0, 0)) ∧ Kept [g] w w' := by
  have hsz : (Try.prog.info? 5).map (·.size) = some 1 := by kernel_rfl
  by_cases h0 : n = 0
  · subst h0
    have hc0 : cur = [] := List.length_eq_zero_iff.1 hcur
    subst hc0
    exact ⟨w, run_copy_none w 29 29 3 5 _ _ _ _ _ _ Try.underlying29 hsz (by simp), by simpa using hg, Kept.refl _ _⟩
  · rcases hr with h | ⟨sg, off, e, hc⟩
    · subst h; simp at hsl; omega
    · subst e
      have h := run_copy_row (P := Try.prog) w 29 29 3 5 g 0 n n ⟨sg, off, none⟩ sl sc cur.toArray 5 ((l.take n).map byt) Try.underlying29 hsz hg (by rw [List.length_map, List.length_take]; show min n _ = min _ n; omega) (fun j v hv => by
        have hj : j < n := by
          rcases Nat.lt_or_ge j n with h | h
          · exact h
          · rw [List.getElem?_eq_none (by simp; omega)] at hv; cases hv
        rw [show (⟨sg, off, none⟩ : Addr).add j = ⟨sg, off + j, none⟩ by unfold Addr.add; split <;> simp_all, hc j (by omega)]
        rw [List.getElem?_map, List.getElem?_take_of_lt hj, List.getElem?_eq_getElem (by omega)] at hv
        simp only [Option.map_some, Option.some.injEq] at hv
        rw [← hv, List.getD_eq_getElem?_getD, List.getElem?_eq_getElem (by omega)]
        rfl) (by simp; omega) (bytes_one _)
      have hln : ((l.take n).map byt).length = n := by simp; omega
      rw [hln] at h
      obtain ⟨w', h1, h2, h3⟩ := setRow_kept hg (cur.toArray.toList.take 0 ++ (l.take n).map byt ++ cur.toArray.toList.drop (0 + n)).toArray
      refine ⟨w', by rw [h, h1]; rfl, ?_, h3⟩
      rw [h2]
      simp [hcur, List.drop_eq_nil_of_le]

/-- What Bound answers. -/
def vbE (a b : Int) : Int := if 0 ≤ a ∧ a ≤ 4194304 ∧ 0 ≤ b ∧ b ≤ 268435456 then 0 else 1
def vbN (a b : Int) : Int := if 0 ≤ a ∧ a ≤ 4194304 ∧ 0 ≤ b ∧ b ≤ 268435456 then 4 * a + 2 * b else 0
end Go.Proofs.Ytiojcfffhcipnaa
