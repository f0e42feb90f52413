import Derived.Test.YtdnbjbdokppfnaaDoorB3
namespace Go.Proofs.YtdnbjbdokppfnaaDoor
open Go.RowKit

theorem St.start (w : World) (c a b l h m s f : Int) : ∃ u, ((w.alloc (.cells #[.int .i64 c, .int .i64 a, .int .i64 b, .int .i64 l] 54 (0, 0))).alloc (.cells #[.int .i64 h, .int .i64 m, .int .i64 s, .int .i64 f] 64 (0, 0))) = u ∧ F4 u w.heap.size c a b l ∧ F4 u (w.heap.size + 1) h m s f ∧ u.heap.size = w.heap.size + 2 ∧ Kept [] w u := by
  refine ⟨_, rfl, (four_new w c a b l 54).keep (alloc_kept _ _) (by simp), ?_, by simp, two_kept _ _ _⟩
  have := four_new (w.alloc (.cells #[.int .i64 c, .int .i64 a, .int .i64 b, .int .i64 l] 54 (0, 0))) h m s f 64
  simpa using this
theorem step_app {ops : Array Oper} {o : Oper} {a : Act} {w : World} {K : Act → World → Prop} {Q : Exit → Act → World → Prop} {E : Prop} (hg : o.guard = none) (s x : Operand) (t : Nat)
    (hop : o.op = Op.call { callee := Callee.builtin Builtin.append, args := #[s, x], argTypes := #[t, t] }) (v1 v2 v' : Value) (w' : World) (hs : a.eval s = v1) (hx : a.eval x = v2)
    (hr : Sem.run Tryd.prog (Builtin.append_ #[t, t] o.type #[v1, v2]) w = .ok v' w') (hK : K (a.put o.dst v') w') :
    if Region.wanted o (yielded ops a.tmps) = true then Oper.wp Tryd.prog o a w K Q else E := by
  have hw : Region.wanted o (yielded ops a.tmps) = true := by simp [Region.wanted, hg]
  rw [if_pos hw]
  unfold Oper.wp
  simp [execOp, hop, resolve, invoke, builtin, hs, hx, hr, Result.andThen]
  exact hK
theorem wpList_eqR {ops : Array Oper} {rest : List Oper} {o : Oper} {a : Act} {w : World} {Q : Exit → Act → World → Prop} (hg : o.guard = none) (s x : Operand) (t : Nat)
    (hop : o.op = Op.call { callee := Callee.builtin Builtin.append, args := #[s, x], argTypes := #[t, t] }) (v1 v2 v' : Value) (w' : World) (hs : a.eval s = v1) (hx : a.eval x = v2)
    (hr : Sem.run Tryd.prog (Builtin.append_ #[t, t] o.type #[v1, v2]) w = .ok v' w') (hK : wpList Tryd.prog ops Q rest (a.put o.dst v') w') : wpList Tryd.prog ops Q (o :: rest) a w := by
  refine wpList_plain hg fun K hK' => ?_
  unfold Oper.wp
  simp [execOp, hop, resolve, invoke, builtin, hs, hx, hr, Result.andThen]
  exact hK' _ _ hK
theorem St.lay {w u : World} {c a b l h m s f : Int} {v : Value} {n : Nat} {xs : List Value} (S : St w u c a b l h m s f v n xs) (x : Int) (hn : n ≤ 100) (ty : TypeId) :
    ∃ v' u', Sem.run Tryd.prog (Builtin.append_ #[86, 86] ty #[v, .slice (some ⟨u.heap.size, 0, none⟩) 1 1]) (u.alloc (.cells #[.int .u8 x] 5 (0, 0))) = .ok v' u' ∧ St w u' c a b l h m s f v' (n + 1) (xs ++ [.int .u8 x]) :=
  (S.kept (alloc_kept u _)).one x hn u.heap.size (blk_new u _ _) ty

theorem own_str {u : World} {v : Value} {n : Nat} {ns : List Int} (h : u.ownsRow 0 5 1 v n (ns.map (Value.int .u8))) (hn : 0 < n) : Sem.run Tryd.prog (convert 86 9 v) u = .ok (.string (strOfNums ns)) u := by
  have hl := h.1
  simp at hl
  rcases h.2 with ⟨_, h1⟩ | ⟨g, cap, cur, rfl, _, hg, h2, _, h3, h4⟩
  · omega
  · refine run_convert_bytes_arg u 86 5 Tryd.underlying86 Tryd.underlying5 g 0 n cap ns hl (fun i hi => ?_) 9 Tryd.underlying9
    have h5 : cur[i]? = some (.int .u8 (ns.getD i 0)) := by
      have h6 : (cur.toList.take (n * 1))[i]? = (ns.map (Value.int .u8))[i]? := by rw [h4]
      rw [List.getElem?_take_of_lt (by omega)] at h6
      rw [← Array.getElem?_toList, h6]
      simp [hl, hi]
    simp [World.cell?, hg, h5]
theorem St.hd {w u : World} {c a b l h m s f : Int} {v : Value} {n : Nat} {xs : List Value} (S : St w u c a b l h m s f v n xs) : u.cell? ⟨w.heap.size + 1, 2, none⟩ = some (.int .i64 s) ∧ u.cell? ⟨w.heap.size, 0, none⟩ = some (.int .i64 c) ∧ u.cell? ⟨w.heap.size, 1, none⟩ = some (.int .i64 a) ∧ u.cell? ⟨w.heap.size, 2, none⟩ = some (.int .i64 b) ∧ u.cell? ⟨w.heap.size, 3, none⟩ = some (.int .i64 l) :=
  ⟨S.q.c2, S.p.c0, S.p.c1, S.p.c2, S.p.c3⟩

set_option maxHeartbeats 4000000 in
set_option maxRecDepth 1000000 in
theorem text_any (c a b l h m s f : Int) (w : World) (h0 : 0 ≤ h) (h1 : h ≤ 99) (m0 : 0 ≤ m) (m1 : m ≤ 99) (s0 : 0 ≤ s) (s1 : s ≤ 99) (f0 : 0 ≤ f) (f1 : f ≤ 99) (t : Int) (ht : lm l = t) :
    Calls Tryd.prog 31 #[pv c a b l, pv h m s f] w fun e w' => e = .returned (.string (strOfNums [48 + h / 10, 48 + h % 10, 58, 48 + m / 10, 48 + m % 10, 58, 48 + s / 10, 48 + s % 10, t, 48 + f / 10, 48 + f % 10])) ∧ Kept [] w w' := by
  obtain ⟨u, e1, F, G, zu, ku⟩ := St.start w c a b l h m s f
  have mk := make11 u
  have S0 : St w (u.alloc (.cells z11 5 (0, 0))) c a b l h m s f (.slice (some ⟨u.heap.size, 0, none⟩) 0 11) 0 [] := ⟨own11 u, fun x hx => by simp [Value.ownBlock] at hx; omega, ku.alloc _, F.keep (alloc_kept _ _) (by simp), G.keep (alloc_kept _ _) (by simp)⟩
  obtain ⟨u1, eu1⟩ : ∃ u1, u.alloc (.cells z11 5 (0, 0)) = u1 := ⟨_, rfl⟩
  rw [eu1] at S0 mk
  generalize Value.slice (some ⟨u.heap.size, 0, none⟩) 0 11 = v0 at *
  have HS0 := Hid.mk S0
  clear F G zu ku S0 eu1
  have CL := Hid.mk (fun u => lastMark_any c a b l u)
  rw [ht] at CL
  have t0 : 58 ≤ t := by rw [← ht]; unfold lm; split <;> omega
  have t1 : t ≤ 59 := by rw [← ht]; unfold lm; split <;> omega
  have wt : IntKind.u8.wrap t = t := by simp only [IntKind.wrap, IntKind.bits, IntKind.signed]; simp; omega
  clear ht
  have g0 := HS0.out.q.c0
  go_enter Tryd.func31, Tryd.ntmps31
  have CA := Hid.mk (HS0.out.two h h0 h1 (by omega))
  go_wp2_with (first
    | (go_at_call 47; with_reducible refine CA.out.mono ?_; rintro e u2 ⟨v2, rfl, S2⟩; obtain ⟨v3, u3, r3, S3⟩ := S2.lay 58 (by omega) 86; have HS3 := Hid.mk S3; have g3 := S3.q.c1; have CB := Hid.mk (S3.two m m0 m1 (by omega)); clear S2 S3)
    | (go_at_call 47; with_reducible refine CB.out.mono ?_; rintro e u4 ⟨v4, rfl, S4⟩; obtain ⟨v5, u5, r5, S5⟩ := S4.lay 58 (by omega) 86; have HS5 := Hid.mk S5; clear S4 S5)
    | (at_builtin; refine wpList_eqR rfl _ _ 86 rfl _ _ _ _ rfl rfl r5 ?_)
    | (at_builtin; refine wpList_eqR rfl _ _ 86 rfl _ _ _ _ rfl rfl r3 ?_))
  clear r3 r5 CA CB HS0 HS3 g0 g3 mk e1
  have HS6 := Hid.mk (HS5.out.kept (Kept.refl [] u5).drew)
  have CD := Hid.mk (HS6.out.two s s0 s1 (by omega))
  have D0 := HS6.out.hd
  go_region_held_law (fun x => x.cell? ⟨w.heap.size + 1, 2, none⟩ = some (.int .i64 s) ∧ x.cell? ⟨w.heap.size, 0, none⟩ = some (.int .i64 c) ∧ x.cell? ⟨w.heap.size, 1, none⟩ = some (.int .i64 a) ∧ x.cell? ⟨w.heap.size, 2, none⟩ = some (.int .i64 b) ∧ x.cell? ⟨w.heap.size, 3, none⟩ = some (.int .i64 l)) (first | exact D0 | exact D8 | exact D7b | exact D7 | exact D6) (first
    | (go_at_call 47; with_reducible refine CD.out.mono ?_; rintro e u6 ⟨v6, rfl, S6⟩; have D6 := S6.hd; have HS7 := Hid.mk S6; clear S6)
    | (go_at_call 48; refine (CL.out u6).mono ?_; rintro e u7 ⟨rfl, k7⟩; have S7 := HS7.out.kept k7; have D7 := S7.hd; have D7b := (S7.kept (alloc_kept u7 (.cells #[.int .u8 t] 5 (0, 0)))).hd; obtain ⟨v8, u8, r8, S8⟩ := S7.lay t (by omega) 86; have D8 := S8.hd; have HS8 := Hid.mk S8; clear S7 S8 k7)
    | (refine step_app rfl _ _ 86 rfl _ _ _ _ rfl rfl r8 ?_; simp only [Act.put, List.getElem_toArray, List.getElem_cons_zero, List.getElem_cons_succ, List.setIfInBounds_toArray, List.set_cons_zero, List.set_cons_succ]))
  all_goals focus
    have g8 := HS8.out.q.c3
    have CE := Hid.mk (HS8.out.two f f0 f1 (by omega))
    clear D0 D6 D7 D7b D8 r8 HS7 HS6 CD
    go_wp2_with (go_at_call 47; with_reducible refine CE.out.mono ?_; rintro e u9 ⟨v9, rfl, S9⟩; have r9 := own_str (ns := [48 + h / 10, 48 + h % 10, 58, 48 + m / 10, 48 + m % 10, 58, 48 + s / 10, 48 + s % 10, t, 48 + f / 10, 48 + f % 10]) S9.own (by omega); have HS9 := Hid.mk S9; clear S9)
    go_ret
    exact ⟨rfl, HS9.out.k⟩
end Go.Proofs.YtdnbjbdokppfnaaDoor
