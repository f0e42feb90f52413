import Derived.Test.YtnbhboojhmmdhaaR
import Derived.Test.YtnbhboojhmmdhaaD
import Derived.Handy
import Derived.Laws.CopyOwn
import Derived.Deep.DeepAppendWide
namespace Go.Proofs.Ytnbhboojhmmdhaa
open Go.RowKit

theorem ret_int' {k : IntKind} {a b : Int} (h : a = b) : Ending.returned (.int k a) = .returned (.int k b) := by rw [h]

/-- Bytes that are put behind a row. -/
theorem app_wide (u : World) (ty B : Nat) (v : Value) (n : Nat) (xs : List Value) (ho : u.ownsRow B 5 1 v n xs) (hB : B ≤ u.heap.size) (so : Option Addr) (m c : Nat) (l : List Nat) (hr : Reads u so l) (hm : l.length = m) (hmb : n + m ≤ 140737488355200) (hnc : so = none → c = 0) :
    ∃ v' u', Sem.run Try.prog (Builtin.append_ #[23, 23] ty #[v, .slice so m c]) u = .ok v' u' ∧ u'.ownsRow B 5 1 v' (n + m) (xs ++ l.map byt) ∧ Kept v.ownBlock.toList u u' := by
  obtain ⟨i0, hi, hz0, hz1, hz2⟩ := info_parts Try.info5
  match so, hnc with
  | none, hnc =>
    obtain rfl : c = 0 := hnc rfl
    have hl : l = [] := by
      rcases hr with h | ⟨g, off, h, _⟩
      · exact h
      · cases h
    subst hl
    obtain rfl : m = 0 := by simpa using hm.symm
    exact ⟨v, u, run_append_owned_none (P := Try.prog) (w := u) B 23 ty 5 i0 1 Try.underlying23 hi v n xs ho, by simpa using ho, Kept.refl _ _⟩
  | some ad, _ =>
    obtain ⟨v', u', hrun, h2, h3, _⟩ := run_append_own_wide (P := Try.prog) u B 23 ty 5 i0 (.int .u8 0) 1 1 Try.underlying23 hi hz0 hz1 hz2 rfl (by decide) v n xs ho ad m c (l.map byt) (by simp [hm]) (fun j x hj => by
      rcases hr with h | ⟨g, off, h, hc⟩
      · subst h; simp at hj
      · cases h
        have hjl : j < l.length := by
          rcases Nat.lt_or_ge j l.length with h | h
          · exact h
          · rw [List.getElem?_eq_none (by simpa using h)] at hj; cases hj
        rw [show (⟨g, off, none⟩ : Addr).add j = ⟨g, off + j, none⟩ by unfold Addr.add; split <;> simp_all, hc j hjl]
        rw [List.getElem?_map, List.getElem?_eq_getElem hjl] at hj
        simp only [Option.map_some, Option.some.injEq] at hj
        rw [← hj, List.getD_eq_getElem?_getD, List.getElem?_eq_getElem hjl]
        rfl) (fun x hx => by
      simp only [List.mem_map] at hx
      obtain ⟨b, _, rfl⟩ := hx
      rfl) (by unfold maxLen; omega) (by omega) hB
    exact ⟨v', u', hrun, h2, Kept.of_grown h3⟩
theorem wpList_app_eq' {P : Program} {w : World} {ops : Array Oper} {rest : List Oper} {o : Oper} {a : Act} {Q : Exit → Act → World → Prop} (hgd : o.guard = none) (s x : Operand) (t : TypeId)
    (ho : o.op = .call { callee := .builtin .append, args := #[s, x], argTypes := #[t, t] }) (v y v' : Value) (w' : World) (hs : a.eval s = v) (hx : a.eval x = y)
    (hrun : Sem.run P (Builtin.append_ #[t, t] o.type #[v, y]) w = .ok v' w') (h : wpList P ops Q rest (a.put o.dst v') w') : wpList P ops Q (o :: rest) a w := by
  refine wpList_plain hgd fun K hK => ?_
  unfold Oper.wp
  simp [execOp, ho, resolve, invoke, builtin, hs, hx, hrun, Result.andThen]
  exact hK _ _ h

theorem row_none {w : World} {B e n : Nat} {v : Value} {xs : List Value} (h : w.ownsRow B e 1 v n xs) : ∃ bo c, v = .slice bo n c ∧ (bo = none → c = 0) ∧ n ≤ c ∧ (∀ g o, bo = some ⟨g, o, none⟩ → B ≤ g ∧ o = 0) := by
  rcases h.2 with ⟨h1, h2⟩ | ⟨g', cap', cur, h1, h3, h4, h5, _⟩
  · subst h1; subst h2; exact ⟨none, 0, rfl, (fun _ => rfl), Nat.le_refl _, (fun g o h => by cases h)⟩
  · subst h1; exact ⟨_, _, rfl, (fun h => by cases h), h5, (fun g o h => by cases h; exact ⟨h3, rfl⟩)⟩

set_option maxHeartbeats 4000000 in
set_option maxRecDepth 1000000 in
/-- bytes.Clone. -/
theorem bclone_any (ao : Option Addr) (m cap : Nat) (l : List Nat) (w : World) (hr : Reads w ao l) (hm : l.length = m) (hc : ao = none → cap = 0) (hl : m ≤ 140737488355200) :
    Calls Try.prog 8 #[.slice ao m cap] w fun e w' => ∃ bo c, e = .returned (.slice bo m c) ∧ w'.ownsRow w.heap.size 5 1 (.slice bo m c) m (l.map byt) ∧ Kept [] w w' := by
  have hq : ∀ W : World, (binOp BinOp.eql 23 (.slice ao m cap) (.slice none 0 0)).run Try.prog W = .ok (.bool ao.isNone) W := fun W => by
    have := Lib.run_eql_slice_nil (P := Try.prog) W 23 5 ao m cap 0 0 Try.underlying23
    simpa using this
  cases ao with
  | none =>
    obtain rfl := hc rfl
    have hl0 : l = [] := by
      rcases hr with h | ⟨g, off, h, _⟩
      · exact h
      · cases h
    subst hl0
    obtain rfl : m = 0 := by simpa using hm.symm
    have hq2 : ∀ W : World, (binOp BinOp.eql 23 (.slice none 0 0) (.slice none 0 0)).run Try.prog W = .ok (.bool true) W := hq
    clear hq hr hm hc
    go_enter Try.func8, Try.ntmps8
    go_wp2
    go_ret
    exact ⟨none, 0, rfl, ⟨rfl, .inl ⟨rfl, rfl⟩⟩, Kept.refl _ _⟩
  | some ad =>
    have hq2 : ∀ W : World, (binOp BinOp.eql 23 (.slice (some ad) m cap) (.slice none 0 0)).run Try.prog W = .ok (.bool false) W := hq
    have ho : (w.alloc (.cells #[] 5)).ownsRow w.heap.size 5 1 (.slice (some ⟨w.heap.size, 0, none⟩) 0 0) 0 ([] : List Value) := World.ownsRow_lit w #[] 0 (Nat.le_refl _) (by decide) rfl
    have k0 : Kept [] w (w.alloc (.cells #[] 5)) := (Kept.refl [] w).alloc _
    obtain ⟨v', u', hrun, h2, h3⟩ := app_wide _ 23 _ _ _ _ ho (by rw [World.size_alloc]; omega) (some ad) m cap l (hr.keep k0) hm (by omega) (by simp)
    rw [Nat.zero_add, List.nil_append] at h2
    have H2 := Hid.mk h2
    have HK : Hid (Kept [] w u') := Hid.mk (k0.step h3 (fun x hx => by simp [Value.ownBlock] at hx; subst hx; exact .inr (Nat.le_refl _)))
    clear hq h3 k0 ho hr h2
    go_enter Try.func8, Try.ntmps8
    go_wp2_with (at_builtin; refine wpList_app_eq' rfl _ _ 23 rfl _ _ v' u' rfl rfl hrun ?_)
    go_ret
    obtain ⟨bo, c, rfl, h1, h2, h3⟩ := row_none H2.out
    exact ⟨bo, c, rfl, H2.out, HK.out⟩

/-- Bytes that a source holds, in the block P, all of it in blocks from B on. -/
def Src (w : World) (B P : Nat) (l : List Nat) : Prop := ∃ bo c, w.heap[P]? = some (.cells #[.slice bo l.length c] 38 (0, 0)) ∧ Reads w bo l ∧ l.length ≤ c ∧ (bo = none → c = 0) ∧ B ≤ P ∧ ∀ g o, bo = some ⟨g, o, none⟩ → B ≤ g
theorem Src.kept {w w' : World} {B P : Nat} {l : List Nat} {ks : List Nat} (h : Src w B P l) (hk : Kept ks w w') (hs : ∀ x ∈ ks, x < B) : Src w' B P l := by
  obtain ⟨bo, c, h1, h2, h3, h4, h5, h6⟩ := h
  exact ⟨bo, c, hk.heap h1 (fun h => by have := hs _ h; omega), h2.kept hk (fun g o e h => by have := hs _ h; have := h6 g o e; omega), h3, h4, h5, h6⟩
theorem Src.keep {w w' : World} {B P : Nat} {l : List Nat} (h : Src w B P l) (hk : Kept [] w w') : Src w' B P l := h.kept hk (by simp)

set_option maxHeartbeats 4000000 in
set_option maxRecDepth 1000000 in
theorem of_any (ao : Option Addr) (m cap : Nat) (l : List Nat) (w : World) (hr : Reads w ao l) (hm : l.length = m) (hc : ao = none → cap = 0) (hl : m ≤ 140737488355200) :
    Calls Try.prog 6 #[.slice ao m cap] w fun e w' => ∃ P, e = .returned (.iface 35 (.pointer (some ⟨P, 0, none⟩))) ∧ Src w' w.heap.size P l ∧ Kept [] w w' := by
  have C1 := Hid.mk (bclone_any ao m cap l w hr hm hc hl)
  clear hr hc
  go_enter Try.func6, Try.ntmps6
  go_wp2_with (fail)
  refine C1.out.mono ?_
  rintro e w1 ⟨bo, c, rfl, h1, k1⟩
  have H1 := Hid.mk h1
  have K1 := Hid.mk k1
  clear C1 h1 k1
  go_wp2
  go_ret
  obtain ⟨bo', c', e9, a1, a2, a3⟩ := row_none H1.out
  cases e9
  have ka : Kept [] w1 (w1.alloc (.cells #[.slice bo m c] 38 (0, 0))) := (Kept.refl [] w1).alloc _
  refine ⟨w1.heap.size, rfl, ⟨bo, c, ?_, (reads_row H1.out).keep ka, by omega, a1, K1.out.size, fun g o e => (a3 g o e).1⟩, K1.out.trans ka⟩
  rw [hm]
  exact heap_alloc_new _ _

set_option maxHeartbeats 4000000 in
set_option maxRecDepth 1000000 in
theorem hsize_any (B P : Nat) (l : List Nat) (w : World) (h : Src w B P l) :
    Calls Try.prog 27 #[.pointer (some ⟨P, 0, none⟩)] w fun e w' => e = .returned (.int .i64 (l.length : Int)) ∧ w' = w := by
  obtain ⟨bo, c, h1, -, -, -, -, -⟩ := h
  have c0 : w.cell? ⟨P, 0, none⟩ = some (.slice bo l.length c) := by simp [World.cell?, h1]
  clear h1
  obtain ⟨m, em⟩ : ∃ m, l.length = m := ⟨_, rfl⟩
  rw [em] at c0 ⊢
  clear em
  go_enter Try.func27, Try.ntmps27
  go_wp2
  go_ret
  exact ⟨rfl, rfl⟩

theorem make_bytes (n : Nat) (w : World) (hn : n ≤ 140737488355300) : ∃ w', Sem.run Try.prog (Instr.makeSlice 23 (.int .i64 (n : Int)) (.int .i64 (n : Int))) w = .ok (.slice (some ⟨w.heap.size, 0, none⟩) n n) w' ∧ w'.heap[w.heap.size]? = some (.cells (List.replicate n (byt 0)).toArray 5 (0, 0)) ∧ Kept [] w w' := by
  obtain ⟨j0, gi, gz0, gz1, gz2⟩ := info_parts Try.info5
  obtain ⟨w', hrun, r1, r2⟩ := run_make_full (P := Try.prog) w 0 23 5 j0 (.int .u8 0) 1 Try.underlying23 gi gz0 gz1 .i64 .i64 n (by rw [gz2]; omega) (by unfold maxLen; omega) (by omega)
  have hr3 := row_heap r1 rfl
  rw [madeBytes] at hr3
  exact ⟨w', hrun, hr3, (Kept.of_grown r2).mono (by simp)⟩

theorem setRow_kept {w : World} {B t : Nat} {old : Array Value} (h : w.heap[B]? = some (.cells old t (0, 0))) (cs : Array Value) : ∃ w', w.setRow B cs = w' ∧ w'.heap[B]? = some (.cells cs t (0, 0)) ∧ Kept [B] w w' :=
  ⟨_, rfl, setRow_heap w B old cs t (0, 0) h, ⟨rfl, rfl, rfl, by simp [World.setRow], fun k _ hk => setRow_other w B k _ (by simpa using hk)⟩⟩
theorem byt_len (l : List Nat) : (l.map byt).length = l.length := List.length_map _

/-- Copy of as many bytes as there is room for. -/
theorem bcopy_run (w : World) (g n : Nat) (so : Option Addr) (sl sc : Nat) (l : List Nat) (cur : List Value) (hg : w.heap[g]? = some (.cells cur.toArray 5 (0, 0))) (hcur : cur.length = n) (hr : Reads w so l) (hsl : l.length = sl) (hn : n ≤ sl) :
    ∃ w', Sem.run Try.prog (Builtin.copy_ #[23, 23] 3 #[.slice (some ⟨g, 0, none⟩) n n, .slice so sl sc]) w = .ok (.int .i64 (n : Int)) w' ∧ w'.heap[g]? = some (.cells ((l.take n).map byt).toArray 5 (0, 0)) ∧ Kept [g] w w' := by
  have hsz : (Try.prog.info? 5).map (·.size) = some 1 := by kernel_rfl
  by_cases h0 : n = 0
  · subst h0
    have hc0 : cur = [] := List.length_eq_zero_iff.1 hcur
    subst hc0
    exact ⟨w, run_copy_none w 23 23 3 5 _ _ _ _ _ _ Try.underlying23 hsz (by simp), by simpa using hg, Kept.refl _ _⟩
  · rcases hr with h | ⟨sg, off, e, hc⟩
    · subst h; simp at hsl; omega
    · subst e
      have h := run_copy_row (P := Try.prog) w 23 23 3 5 g 0 n n ⟨sg, off, none⟩ sl sc cur.toArray 5 ((l.take n).map byt) Try.underlying23 hsz hg (by rw [List.length_map, List.length_take]; show min n _ = min _ n; omega) (fun j v hv => by
        have hj : j < n := by
          rcases Nat.lt_or_ge j n with h | h
          · exact h
          · rw [List.getElem?_eq_none (by simp; omega)] at hv; cases hv
        rw [show (⟨sg, off, none⟩ : Addr).add j = ⟨sg, off + j, none⟩ by unfold Addr.add; split <;> simp_all, hc j (by omega)]
        rw [List.getElem?_map, List.getElem?_take_of_lt hj, List.getElem?_eq_getElem (by omega)] at hv
        simp only [Option.map_some, Option.some.injEq] at hv
        rw [← hv, List.getD_eq_getElem?_getD, List.getElem?_eq_getElem (by omega)]
        rfl) (by simp; omega) (bytes_one _)
      have hln : ((l.take n).map byt).length = n := by simp; omega
      rw [hln] at h
      obtain ⟨w', h1, h2, h3⟩ := setRow_kept hg (cur.toArray.toList.take 0 ++ (l.take n).map byt ++ cur.toArray.toList.drop (0 + n)).toArray
      refine ⟨w', by rw [h, h1]; rfl, ?_, h3⟩
      rw [h2]
      simp [hcur, List.drop_eq_nil_of_le]

set_option maxHeartbeats 4000000 in
set_option maxRecDepth 1000000 in
/-- Read of what lies there. -/
theorem hread_ok (B P : Nat) (l : List Nat) (a n : Nat) (w : World) (h : Src w B P l) (hl : l.length ≤ 140737488355300) (hn : a + n ≤ l.length) :
    Calls Try.prog 26 #[.pointer (some ⟨P, 0, none⟩), .int .i64 (a : Int), .int .i64 (n : Int)] w fun e w' => e = .returned (.tuple #[.slice (some ⟨w.heap.size, 0, none⟩) n n, .int .i64 0]) ∧ w'.heap[w.heap.size]? = some (.cells (((l.drop a).take n).map byt).toArray 5 (0, 0)) ∧ Kept [] w w' := by
  obtain ⟨bo, c, h1, h2, h3, h4, -, -⟩ := h
  have c0 : w.cell? ⟨P, 0, none⟩ = some (.slice bo l.length c) := by simp [World.cell?, h1]
  obtain ⟨w1, hm1, b1, k1⟩ := make_bytes n w (by omega)
  have c1 : w1.cell? ⟨P, 0, none⟩ = some (.slice bo l.length c) := by
    have := k1.heap h1 (by simp)
    simp [World.cell?, this]
  have HR := Hid.mk (h2.keep k1)
  have K1 := Hid.mk k1
  have B1 := Hid.mk b1
  obtain ⟨m, em⟩ : ∃ m, l.length = m := ⟨_, rfl⟩
  rw [em] at c0 c1 hl hn h3
  have d1 : decide ((a : Int) < 0) = false := by simp
  have d2 : decide ((n : Int) < 0) = false := by simp
  have v1 : wrap64 ((m : Int) - (a : Int)) = ((m - a : Nat) : Int) := by
    rw [show (m : Int) - (a : Int) = ((m - a : Nat) : Int) by omega]
    unfold wrap64; omega
  have v2 : IntKind.i64.wrap ((m : Int) - (a : Int)) = ((m - a : Nat) : Int) := by
    rw [show (m : Int) - (a : Int) = ((m - a : Nat) : Int) by omega]
    unfold IntKind.wrap; simp [IntKind.bits, IntKind.signed]; omega
  have d3 : decide (((m - a : Nat) : Int) < (n : Int)) = false := by simp; omega
  have hcur : (List.replicate n (byt 0)).length = n := by simp
  have hdl : (l.drop a).length = m - a := by simp [em]
  have hrd : ∀ so : Option Addr, (c ≠ a → so = bo.map (fun x => x.add a)) → Reads w1 so (l.drop a) := fun so hso => by
    by_cases hca : c = a
    · exact .inl (List.drop_eq_nil_of_le (by omega))
    · rw [hso hca]
      rcases HR.out with h | ⟨sg, off, e, hc⟩
      · exact .inl (by simp [h])
      · subst e
        refine .inr ⟨sg, off + a, by simp [Addr.add], fun i hi => ?_⟩
        have hi2 : a + i < l.length := by rw [hdl] at hi; omega
        have := hc (a + i) hi2
        rw [← Nat.add_assoc] at this
        rw [this]
        congr 2
        simp [List.getD_eq_getElem?_getD]
  have H2 : Hid (∀ (so : Option Addr) (cs : Nat), (c ≠ a → so = bo.map (fun x => x.add a)) → ∃ w2, Sem.run Try.prog (Builtin.copy_ #[23, 23] 3 #[.slice (some ⟨w.heap.size, 0, none⟩) n n, .slice so (m - a) cs]) w1 = .ok (.int .i64 (n : Int)) w2 ∧ w2.heap[w.heap.size]? = some (.cells (((l.drop a).take n).map byt).toArray 5 (0, 0)) ∧ Kept [] w w2) := Hid.mk fun so cs hso => by
    obtain ⟨w2, hr2, b2, k2⟩ := bcopy_run w1 w.heap.size n so (m - a) cs (l.drop a) _ B1.out hcur (hrd so hso) hdl (by omega)
    exact ⟨w2, hr2, b2, K1.out.step k2 (fun x hx => by simp at hx; subst hx; exact .inr (Nat.le_refl _))⟩
  clear h1 h2 k1 b1 hrd hdl hcur
  go_enter Try.func26, Try.ntmps26
  go_wp2
  · obtain ⟨w2, hr2, b2, k2⟩ := H2.out bo 0 (fun hne => absurd (by assumption : c = a) hne)
    rw [hr2]
    have R2 := Hid.mk (And.intro b2 k2)
    clear hr2 b2 k2
    go_wp2
    refine bodyPost_ret (v := .tuple #[.slice (some ⟨w.heap.size, 0, none⟩) n n, .int .i64 0]) (by simp [results, Try.results26, go_sem]) rfl ⟨rfl, R2.out⟩
  · obtain ⟨w2, hr2, b2, k2⟩ := H2.out (bo.map (fun x => x.add a)) (c - a) (fun _ => rfl)
    rw [hr2]
    have R2 := Hid.mk (And.intro b2 k2)
    clear hr2 b2 k2
    go_wp2
    refine bodyPost_ret (v := .tuple #[.slice (some ⟨w.heap.size, 0, none⟩) n n, .int .i64 0]) (by simp [results, Try.results26, go_sem]) rfl ⟨rfl, R2.out⟩

set_option maxHeartbeats 4000000 in
set_option maxRecDepth 1000000 in
/-- Read of what does not lie there. -/
theorem hread_no (B P : Nat) (l : List Nat) (a n : Int) (w : World) (h : Src w B P l) (hl : l.length ≤ 140737488355300) (a1 : a ≤ 9223372036854775807) (hn : ¬ (0 ≤ a ∧ 0 ≤ n ∧ a + n ≤ l.length)) :
    Calls Try.prog 26 #[.pointer (some ⟨P, 0, none⟩), .int .i64 a, .int .i64 n] w fun e w' => e = .returned (.tuple #[.slice none 0 0, .int .i64 151]) ∧ w' = w := by
  obtain ⟨bo, c, h1, h2, h3, h4, -, -⟩ := h
  have c0 : w.cell? ⟨P, 0, none⟩ = some (.slice bo l.length c) := by simp [World.cell?, h1]
  obtain ⟨m, em⟩ : ∃ m, l.length = m := ⟨_, rfl⟩
  rw [em] at c0 hl hn h3
  clear h1 h2 em
  by_cases ha : a < 0
  · clear hn
    go_enter Try.func26, Try.ntmps26
    go_wp2
    refine bodyPost_ret (v := .tuple #[.slice none 0 0, .int .i64 151]) (by simp [results, Try.results26, go_sem]) rfl ⟨rfl, rfl⟩
  · by_cases hb : n < 0
    · clear hn
      go_enter Try.func26, Try.ntmps26
      go_wp2
      refine bodyPost_ret (v := .tuple #[.slice none 0 0, .int .i64 151]) (by simp [results, Try.results26, go_sem]) rfl ⟨rfl, rfl⟩
    · have v1 : wrap64 ((m : Int) - a) = (m : Int) - a := by unfold wrap64; omega
      have v2 : IntKind.i64.wrap ((m : Int) - a) = (m : Int) - a := by unfold IntKind.wrap; simp [IntKind.bits, IntKind.signed]; omega
      have d3 : decide ((m : Int) - a < n) = true := by simp; omega
      have d4 : (m : Int) - a < n := by omega
      clear hn
      go_enter Try.func26, Try.ntmps26
      go_wp2
      refine bodyPost_ret (v := .tuple #[.slice none 0 0, .int .i64 151]) (by simp [results, Try.results26, go_sem]) rfl ⟨rfl, rfl⟩

/-- What Bound answers. -/
def vbE (a b : Int) : Int := if 0 ≤ a ∧ a ≤ 4194304 ∧ 0 ≤ b ∧ b ≤ 268435456 then 0 else 1
def vbN (a b : Int) : Int := if 0 ≤ a ∧ a ≤ 4194304 ∧ 0 ≤ b ∧ b ≤ 268435456 then 4 * a + 2 * b else 0
set_option maxHeartbeats 4000000 in
set_option maxRecDepth 1000000 in
theorem vbound_any (a b : Int) (w : World) :
    Calls Try.prog 7 #[.int .i64 a, .int .i64 b] w fun e w' => e = .returned (.tuple #[.int .i64 (vbN a b), .int .i64 (vbE a b)]) ∧ w' = w := by
  by_cases h : 0 ≤ a ∧ a ≤ 4194304 ∧ 0 ≤ b ∧ b ≤ 268435456
  · rw [show vbN a b = 4 * a + 2 * b from if_pos h, show vbE a b = 0 from if_pos h]
    obtain ⟨h1, h2, h3, h4⟩ := h
    go_enter Try.func7, Try.ntmps7
    go_wp2
    refine bodyPost_ret (v := .tuple #[.int .i64 (4 * a + 2 * b), .int .i64 0]) ?_ rfl ⟨rfl, rfl⟩
    simp [results, Try.results7, go_sem]
    try (unfold wrap64; omega)
  · rw [show vbN a b = 0 from if_neg h, show vbE a b = 1 from if_neg h]
    go_enter Try.func7, Try.ntmps7
    by_cases h1 : a < 0
    · clear h
      go_wp2
      refine bodyPost_ret (v := .tuple #[.int .i64 0, .int .i64 1]) (by simp [results, Try.results7, go_sem]) rfl ⟨rfl, rfl⟩
    · by_cases h2 : 4194304 < a
      · clear h
        go_wp2
        refine bodyPost_ret (v := .tuple #[.int .i64 0, .int .i64 1]) (by simp [results, Try.results7, go_sem]) rfl ⟨rfl, rfl⟩
      · by_cases h3 : b < 0
        · clear h
          go_wp2
          refine bodyPost_ret (v := .tuple #[.int .i64 0, .int .i64 1]) (by simp [results, Try.results7, go_sem]) rfl ⟨rfl, rfl⟩
        · have h4 : 268435456 < b := by omega
          clear h
          go_wp2
          refine bodyPost_ret (v := .tuple #[.int .i64 0, .int .i64 1]) (by simp [results, Try.results7, go_sem]) rfl ⟨rfl, rfl⟩

set_option maxHeartbeats 4000000 in
set_option maxRecDepth 1000000 in
theorem valive_any (w : World) : Calls Try.prog 5 #[] w fun e w' => e = .returned (.bool true) ∧ Kept [] w w' := by
  go_enter Try.func5, Try.ntmps5
  obtain ⟨w1, e1⟩ : ∃ w1, w.alloc (.cells #[.int .u8 1, .int .u8 2, .int .u8 3] 5 (0, 0)) = w1 := ⟨_, rfl⟩
  have k1 : Kept [] w w1 := by rw [← e1]; exact (Kept.refl [] w).alloc _
  have b1 : w1.heap[w.heap.size]? = some (.cells #[.int .u8 1, .int .u8 2, .int .u8 3] 5 (0, 0)) := by rw [← e1]; exact heap_alloc_new _ _
  have r1 : Reads w1 (some ⟨w.heap.size, 0, none⟩) [1, 2, 3] := .inr ⟨_, _, rfl, fun i hi => by
    have : i = 0 ∨ i = 1 ∨ i = 2 := by simp at hi; omega
    rcases this with rfl | rfl | rfl <;> simp [World.cell?, b1, byt]⟩
  have C1 := Hid.mk (of_any (some ⟨w.heap.size, 0, none⟩) 3 3 [1, 2, 3] w1 r1 rfl (by simp) (by omega))
  have K1 := Hid.mk k1
  have C4 := Hid.mk (fun u => vbound_any 1000 500 u)
  rw [show vbN 1000 500 = 5000 from rfl, show vbE 1000 500 = 0 from rfl] at C4
  clear k1 b1 r1
  go_wp2_with (fail)
  clear e1
  refine C1.out.mono ?_
  rintro e w2 ⟨P, rfl, h2, k2⟩
  have S2 := Hid.mk h2
  have K2 := Hid.mk (K1.out.trans k2)
  have C2 := Hid.mk (hsize_any _ P _ w2 h2)
  have C3 := Hid.mk (hread_ok _ P _ 1 2 w2 h2 (by decide) (by decide))
  clear h2 k2 C1
  go_wp2_with (fail)
  refine C2.out.mono ?_
  rintro e w3 ⟨rfl, hw3⟩
  obtain rfl := hw3.symm
  clear hw3
  go_wp2_with (fail)
  refine C3.out.mono ?_
  rintro e w4 ⟨rfl, b4, k4⟩
  have K4 := Hid.mk (K2.out.trans k4)
  have s4 : Sem.run Try.prog (convert 23 9 (.slice (some ⟨w2.heap.size, 0, none⟩) 2 2)) w4 = .ok (.string (bstr [2, 3])) w4 := str_run (l := [2, 3]) (rest := []) (by simpa using b4)
  have s5 : (bstr [2, 3]).toList = [2, 3] := by kernel_rfl
  clear b4 k4
  go_wp2_with (fail)
  refine (C4.out _).mono ?_
  rintro e w5 ⟨rfl, hw5⟩
  obtain rfl := hw5.symm
  clear hw5
  go_wp2
  go_ret
  exact ⟨rfl, K4.out⟩
end Go.Proofs.Ytnbhboojhmmdhaa
