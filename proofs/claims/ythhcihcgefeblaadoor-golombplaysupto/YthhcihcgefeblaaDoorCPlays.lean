import Derived.Test.YthhcihcgefeblaaDoorFI
import Derived.Test.YthhcihcgefeblaaDoorCd
import Derived.Deep.Slices
import Derived.JoinedCond
namespace Go.Proofs.YthhcihcgefeblaaDoor.CPlays
open Go.ChangeShapes Go.WideShapes Go.ChangeAt Go.RowKit Go.Deep Cd

theorem cells37 : Tryd.prog.cellsOf 37 = 6 := by kernel_rfl
theorem cells9 : Tryd.prog.cellsOf 9 = 1 := by kernel_rfl

theorem one_le {H : Type} (d : DataW H) : 1 ≤ Rows.uptoBulk d := by
  rcases d with l | _ | _ | _ | _ | _ | _ | _
  · unfold Rows.uptoBulk; split <;> omega
  all_goals simp [Rows.uptoBulk]

theorem all_sum {H : Type} (l : List (DataW H)) : Rows.uptoBulkAll l = (l.map Rows.uptoBulk).sum := by
  induction l with
  | nil => simp [Rows.uptoBulkAll]
  | cons x r ih => rw [Rows.uptoBulkAll, ih]; simp

theorem part_le {H : Type} {d : DataW H} {l : List (DataW H)} (h : d ∈ l) : Rows.uptoBulk d ≤ Rows.uptoBulkAll l := by
  obtain ⟨l1, l2, rfl⟩ := List.append_of_mem h
  rw [all_sum]
  simp
  omega

theorem length_le {H : Type} (c : Nat) (l : List (DataW H)) (h : ∀ d ∈ l, c ≤ Rows.uptoBulk d) : c * l.length ≤ Rows.uptoBulkAll l := by
  induction l with
  | nil => simp [Rows.uptoBulkAll]
  | cons x r ih =>
    have h1 := h x (by simp)
    have h2 := ih (fun d hd => h d (List.mem_cons_of_mem _ hd))
    simp only [Rows.uptoBulkAll, List.length_cons, Nat.mul_add]
    omega

theorem list6 {α : Type} {l : List α} (h : l.length = 6) : ∃ a b c d e f, l = [a, b, c, d, e, f] := by
  match l, h with
  | [a, b, c, d, e, f], _ => exact ⟨a, b, c, d, e, f, rfl⟩

theorem add_plain (b off i : Nat) : (⟨b, off, none⟩ : Addr).add i = ⟨b, off + i, none⟩ := by unfold Addr.add; split <;> simp_all

/-- What a step of the script is. -/
structure Ent where
  kd : Int
  on : Int
  a : Int
  b : Int
  c : Int
  T : ByteArray

def IsEnt (W : World) (a : Addr) (i : Nat) (q : Ent) : Prop :=
  W.cell? (a.add (i * 6)) = some (.int .i64 q.kd) ∧ W.cell? (a.add (i * 6 + 1)) = some (.int .i64 q.on) ∧ W.cell? (a.add (i * 6 + 2)) = some (.int .i64 q.a) ∧ W.cell? (a.add (i * 6 + 3)) = some (.int .i64 q.b) ∧ W.cell? (a.add (i * 6 + 4)) = some (.int .i64 q.c) ∧ W.cell? (a.add (i * 6 + 5)) = some (.string q.T) ∧
    (-9223372036854775808 ≤ q.on ∧ q.on ≤ 9223372036854775807) ∧ (-9223372036854775808 ≤ q.a ∧ q.a ≤ 9223372036854775807)

/-- One element. -/
theorem open_ent {H : Type} {enc : TypeId × Value → H} {W : World} {a : Addr} {i n : Nat} {cs : List Value} {d : DataW H} {pl : List MemPlace} (h1 : W.cells? 0 (a.add (i * 6)) 6 = some cs) (h2 : DataW.trod enc Tryd.prog W 0 (fun _ => true) true n 37 cs = some (d, pl)) :
    ∃ q, IsEnt W a i q ∧ 7 ≤ Rows.uptoBulk d ∧ q.T.size ≤ Rows.uptoBulk d := by
  obtain ⟨_, hlen, hcell⟩ := World.cells?_some h1
  obtain ⟨xs, k, _, hx, _, hxl, hfs⟩ := DataW.trod_struct Tryd.underlying37 h2
  obtain ⟨c0, c1, c2, c3, c4, c5, rfl⟩ := list6 hlen
  obtain ⟨y0, y1, y2, y3, y4, y5, rfl⟩ := list6 hxl
  have g0 := hfs 0 _ rfl
  have g1 := hfs 1 _ rfl
  have g2 := hfs 2 _ rfl
  have g3 := hfs 3 _ rfl
  have g4 := hfs 4 _ rfl
  have g5 := hfs 5 _ rfl
  simp [cells9, cells3] at g0 g1 g2 g3 g4 g5
  have e0 := hcell 0 (by omega)
  have e1 := hcell 1 (by omega)
  have e2 := hcell 2 (by omega)
  have e3 := hcell 3 (by omega)
  have e4 := hcell 4 (by omega)
  have e5 := hcell 5 (by omega)
  rw [add_add] at e0 e1 e2 e3 e4 e5
  simp at e0 e1 e2 e3 e4 e5
  obtain ⟨z0, q0, _, w0⟩ := DataW.trod_int Tryd.underlying3 g0
  obtain ⟨z1, q1, _, w1⟩ := DataW.trod_int Tryd.underlying3 g1
  obtain ⟨z2, q2, _, w2⟩ := DataW.trod_int Tryd.underlying3 g2
  obtain ⟨z3, q3, _, w3⟩ := DataW.trod_int Tryd.underlying3 g3
  obtain ⟨z4, q4, _, w4⟩ := DataW.trod_int Tryd.underlying3 g4
  obtain ⟨T, q5, hy, _⟩ := DataW.trod_string Tryd.underlying9 g5
  simp at q0 q1 q2 q3 q4 q5
  subst q0 q1 q2 q3 q4 q5
  have hd : d = .agg [y0.1, y1.1, y2.1, y3.1, y4.1, y5.1] := by simpa using congrArg Prod.fst hx
  have hT : Rows.uptoBulk y5.1 = T.size + 1 := by
    rw [show y5.1 = .lit (.string T.data.toList) from congrArg Prod.fst hy]
    simp [Rows.uptoBulk]
  have hbulk : 6 + Rows.uptoBulk y5.1 ≤ Rows.uptoBulk d := by
    have b0 := one_le y0.1
    have b1 := one_le y1.1
    have b2 := one_le y2.1
    have b3 := one_le y3.1
    have b4 := one_le y4.1
    rw [hd]
    simp only [Rows.uptoBulk, Rows.uptoBulkAll]
    omega
  exact ⟨⟨z0, z1, z2, z3, z4, T⟩, ⟨e0, e1, e2, e3, e4, e5, bounds_i64 w1, bounds_i64 w2⟩, by omega, by show T.size ≤ _; omega⟩

set_option maxRecDepth 100000 in
theorem contract (H : Type) (enc : TypeId × Value → H) (W : World) (base : Nat) (args : Array Value) (ds gs : List (DataW H)) (before : List MemPlace)
    (hval0 : ∀ (j : Nat) t v, Tryd.f3.params[j]? = some t → args[j]? = some v → Value.okWide Tryd.prog W .any base t v)
    (hW : DataW.Whole enc Tryd.prog Tryd.f3.params.toList Rows.golombPlaysSpec.vars false W args.toList ds gs before) (hk : Rows.uptoSmall H (ds ++ gs) = true)
    (hL : laidMetH Tryd.prog Rows.golombPlaysUptoRow.laid W) :
    Calls Tryd.prog 3 args W fun e W' => ∃ v, e = .returned v ∧ Rows.golombPlaysSpec.post enc Tryd.prog Tryd.f3 false true false false W args v W' := by
  have hval : ∀ (j : Nat) t v, Tryd.f3.params[j]? = some t → args[j]? = some v → Value.okWide Tryd.prog W .any base t v := hval0
  have hW' := hW
  obtain ⟨p, q, hA0, hV, rfl, hfz, hnd⟩ := hW
  have hA : DataW.TrodAll enc Tryd.prog W 0 (fun _ => true) true Tryd.f3.params.toList args.toList ds p := hA0
  rw [Tryd.params3] at hA hval
  obtain ⟨v0, vs0, d0, ds0, p0, q0, hargs, rfl, rfl, h0, r0⟩ := trodAll_cons hA
  obtain ⟨rfl, rfl, rfl⟩ := trodAll_nil r0
  obtain rfl : args = #[v0] := by cases args; simp_all
  obtain ⟨rfl, rfl⟩ := trodVars_none hV
  obtain ⟨a0, len0, cap0, rfl⟩ := okWide_slice Tryd.underlying22 (hval 0 22 v0 rfl rfl)
  have k0 := h0
  have lt0 : ∀ x ∈ p0, x.block < W.heap.size := by obtain ⟨m, hm⟩ := k0; exact DataW.trod_lt m _ _ _ hm
  have hT := tab hL
  have hk1 : Rows.uptoBulkAll [d0] ≤ 1048576 := of_decide_eq_true hk
  have hk2 : Rows.uptoBulk d0 ≤ 1048576 := Nat.le_trans (part_le (by simp)) hk1
  have walk : Calls Tryd.prog 3 #[.slice a0 len0 cap0] W fun e w' => e = .returned (.bool true) ∧ Kept [] W w' := by
    obtain ⟨fuel, hf⟩ := h0
    rcases open_slice Tryd.underlying22 hf with ⟨hcs, _⟩ | ⟨a, len, cap, m, n, D, Pl, hcs, _, hl, hm, hmm, hx, hc⟩
    · simp [Value.cells] at hcs
      obtain ⟨rfl, rfl, rfl⟩ := hcs
      exact plays_any none 0 0 (fun _ => 0) (fun _ => 0) (fun _ => 0) (fun _ => 0) (fun _ => 0) (fun _ => ByteArray.empty) W hT (by omega) (fun h => by omega) (fun i h => by omega) (fun i h => by omega) (fun i h => by omega)
    · simp [Value.cells] at hcs
      obtain ⟨rfl, rfl, rfl⟩ := hcs
      simp only [if_true] at hmm
      rw [hmm] at hc hx
      have hd : d0 = .slice ((List.range len0).map D) ((List.range (cap0 - len0)).map fun j => D (len0 + j)) := congrArg Prod.fst hx
      rw [hd] at hk2
      have hke : Rows.uptoBulkAll ((List.range len0).map D) ≤ 1048576 := by
        simp only [Rows.uptoBulk] at hk2
        omega
      have each : ∀ i, i < len0 → ∃ q, IsEnt W a i q ∧ 7 ≤ Rows.uptoBulk (D i) ∧ q.T.size ≤ Rows.uptoBulk (D i) := fun i hi => by
        obtain ⟨cs', h1, h2⟩ := hc i (by omega)
        rw [cells37] at h1
        exact open_ent h1 h2
      obtain ⟨f, hf2⟩ := @choose_lt Ent ⟨⟨0, 0, 0, 0, 0, ByteArray.empty⟩⟩ _ _ each
      have h6 := length_le 7 ((List.range len0).map D) (fun d hd => by
        obtain ⟨i, hi, rfl⟩ := List.mem_map.1 hd
        exact (hf2 i (List.mem_range.1 hi)).2.1)
      simp only [List.length_map, List.length_range] at h6
      have hmm2 : ∀ i, i < len0 → (f i).T.size ≤ 10000000 := fun i hi => by
        have h1 := (hf2 i hi).2.2
        have h2 : Rows.uptoBulk (D i) ≤ Rows.uptoBulkAll ((List.range len0).map D) := part_le (List.mem_map.2 ⟨i, List.mem_range.2 hi, rfl⟩)
        omega
      obtain ⟨b, off, spot⟩ := a
      refine plays_any _ len0 cap0 (fun i => (f i).kd) (fun i => (f i).on) (fun i => (f i).a) (fun i => (f i).b) (fun i => (f i).c) (fun i => (f i).T) W hT (by omega) (fun h => ?_)
        (fun i hi => (hf2 i hi).1.2.2.2.2.2.2.1) (fun i hi => (hf2 i hi).1.2.2.2.2.2.2.2) hmm2
      have hspot : spot = none := by simpa [Addr.add] using World.cell?_spot (hf2 0 h).1.1
      subst hspot
      refine ⟨b, off, rfl, fun i hi => ?_⟩
      obtain ⟨e0, e1, e2, e3, e4, e5, _⟩ := (hf2 i hi).1
      rw [add_plain] at e0 e1 e2 e3 e4 e5
      exact ⟨e0, e1, e2, e3, e4, e5⟩
  clear hA0 hval0
  refine walk.mono fun e W' ⟨he, hkk⟩ => ?_
  have bel := hkk.below (Nat.le_refl _) (by simp)
  subst he
  exact ⟨_, rfl, _, _, _, [], _, [], hW', trodAll_mk1 (shut_bool Tryd.underlying4 _), (trodAll_cons_mk (Below.trod laidOut (by kernel_rfl) (of_decide_eq_true (by kernel_rfl)) k0 bel lt0) trodAll_mk0), rfl, bel.frame _, fun h => by cases h⟩

theorem reads (os : Os) {H : Type} (enc : TypeId × Value → H) : ∃ places, DataW.whole enc Tryd.prog (({ World.holding Tryd.prog os ⟨#[], #[], []⟩ with heap := (World.holding Tryd.prog os ⟨#[], #[], []⟩).heap.modify 0 fun
      | .cells _ t frozen => .cells #[.int .i64 0, .int .i64 0, .int .i64 0, .int .i64 0, .int .i64 1, .int .i64 1, .int .i64 1, .int .i64 1, .int .i64 2, .int .i64 2, .int .i64 2, .int .i64 3, .int .i64 3, .int .i64 4, .int .i64 4, .int .i64 5, .int .i64 6, .int .i64 7, .int .i64 8, .int .i64 9, .int .i64 10, .int .i64 11, .int .i64 12] t frozen
      | o => o } : World).forCall (fun _ _ => 0) ⟨#[], #[.slice none 0 0], []⟩).memory Tryd.f3.params.toList Rows.golombPlaysSpec.vars false #[Value.slice none 0 0].toList 8 = some ([.nil], [], places) :=
  ⟨[], by kernel_rfl⟩

set_option maxRecDepth 100000 in
theorem lifted (os : Os) (started : os.Started) (H : Type) (enc : TypeId × Value → H) (F : Stop.Interp) :
    ReturnsInHanded {} Tryd.checked os 3 .any ((Rows.OpenSpec.upto Rows.golombPlaysSpec).preRow enc Tryd.prog Tryd.f3 Rows.golombPlaysUptoRow.domain false Rows.golombPlaysUptoRow.laid) (((Rows.OpenSpec.upto Rows.golombPlaysSpec).at F).post enc Tryd.prog Tryd.f3 false true false false) := by
  obtain ⟨places, hx⟩ := reads os enc
  refine returnsInHanded_of_row (C := Tryd.checked) (s := Rows.OpenSpec.upto Rows.golombPlaysSpec) own started (by kernel_rfl) Tryd.func3
    (witness_row_at (enc := enc) (C := Tryd.checked) false ({ World.holding Tryd.prog os ⟨#[], #[], []⟩ with heap := (World.holding Tryd.prog os ⟨#[], #[], []⟩).heap.modify 0 fun
      | .cells _ t frozen => .cells #[.int .i64 0, .int .i64 0, .int .i64 0, .int .i64 0, .int .i64 1, .int .i64 1, .int .i64 1, .int .i64 1, .int .i64 2, .int .i64 2, .int .i64 2, .int .i64 3, .int .i64 3, .int .i64 4, .int .i64 4, .int .i64 5, .int .i64 6, .int .i64 7, .int .i64 8, .int .i64 9, .int .i64 10, .int .i64 11, .int .i64 12] t frozen
      | o => o } : World) #[.slice none 0 0] rfl (by kernel_rfl) (by kernel_rfl) (by kernel_rfl)
      (OpenSpec.preRow_of_cond 8 hx (by kernel_rfl) (fun k hk => by cases hk; kernel_rfl) (by kernel_rfl) (laid_met os _))) ?_
  intro W base args ds gs before hval hW _ hcond _ hL _ _
  exact contract H enc W base args ds gs before hval hW (hcond _ rfl) hL

theorem said : Rows.GolombPlaysUptoSaid :=
  OpenClaim.holds_of_cond 3 Tryd.f3 rfl rfl rfl rfl rfl rfl rfl ⟨rfl, rfl, rfl, rfl, rfl⟩ rfl rfl rfl rfl rfl (by kernel_rfl) Tryd.func3 (by kernel_rfl)
    (of_decide_eq_true (by kernel_rfl)) (by unfold Func.isWrapper; first | (rw [if_pos (by decide +kernel)]; kernel_rfl) | (rw [if_neg (by decide +kernel)]; exact ⟨rfl, rfl⟩))
    (fun os started H enc _ F => by rw [OpenClaim.pre_eq_preRow]; exact lifted os started H enc F)

theorem plain (f : FuncId) (fn : Func) (hf : Tryd.pinned.checked.prog.funcNamed "dailies/dailieslaw02.GolombPlays" = some f) (hfn : Tryd.pinned.checked.prog.funcs[f]? = some fn) :
    false = Tryd.pinned.checked.prog.looks [] ∧ ∀ (j : Nat) t, fn.params[j]? = some t → Tryd.pinned.checked.prog.wantsStandIn t = false := by
  obtain rfl : f = 3 := Option.some.inj ((show Tryd.prog.funcNamed "dailies/dailieslaw02.GolombPlays" = some 3 by kernel_rfl).symm.trans hf) |>.symm
  obtain rfl : fn = Tryd.f3 := (Option.some.inj (Tryd.func3.symm.trans hfn)).symm
  refine ⟨by kernel_rfl, fun j t ht => ?_⟩
  rw [Tryd.params3] at ht
  obtain rfl : t = 22 := by simpa using Array.mem_of_getElem? ht
  exact (show Tryd.prog.wantsStandIn 22 = false by kernel_rfl)
end Go.Proofs.YthhcihcgefeblaaDoor.CPlays
namespace Go.Proofs.YthhcihcgefeblaaDoor

theorem golombPlaysUpto_holds : Rows.GolombPlaysUptoCardSaid :=
  Claim7.holds_tied_plain_at .later [] _ _ _ _ CPlays.said (fun _ h => by cases h) (by kernel_rfl) (fun _ h => by cases h) golombPlaysUpto_row_tie rfl ⟨rfl, rfl⟩ (by kernel_rfl) rfl CPlays.plain (by kernel_rfl)
#print axioms golombPlaysUpto_holds
end Go.Proofs.YthhcihcgefeblaaDoor
