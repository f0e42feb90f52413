import Derived.Test.YtoghkbajdljheaaZd
import Derived.ProofKit
import Derived.OpenShut
import Derived.ShutString
import Derived.ChangeOld
import Derived.JoinedCond
import Derived.Deep.Slices
namespace Go.Proofs.Ytoghkbajdljheaa.Plays
open Go.ChangeShapes Go.WideShapes Go.ChangeAt Go.RowKit Go.Deep

theorem own : ownKnob Try.prog.godebug = none := by kernel_rfl
theorem laidOut : laidOutB Try.prog = true := by kernel_rfl
theorem cells45 : Try.prog.cellsOf 45 = 5 := by kernel_rfl
theorem cells43 : Try.prog.cellsOf 43 = 1 := by kernel_rfl
theorem cells42 : Try.prog.cellsOf 42 = 1 := by kernel_rfl
theorem cells3 : Try.prog.cellsOf 3 = 1 := by kernel_rfl
theorem cells5 : Try.prog.cellsOf 5 = 1 := by kernel_rfl

theorem one_le {H : Type} (d : DataW H) : 1 ≤ Rows.uptoBulk d := by
  rcases d with l | _ | _ | _ | _ | _ | _ | _
  · unfold Rows.uptoBulk; split <;> omega
  all_goals simp [Rows.uptoBulk]

theorem all_sum {H : Type} (l : List (DataW H)) : Rows.uptoBulkAll l = (l.map Rows.uptoBulk).sum := by
  induction l with
  | nil => simp [Rows.uptoBulkAll]
  | cons x r ih => rw [Rows.uptoBulkAll, ih]; simp

theorem part_le {H : Type} {d : DataW H} {l : List (DataW H)} (h : d ∈ l) : Rows.uptoBulk d ≤ Rows.uptoBulkAll l := by
  obtain ⟨l1, l2, rfl⟩ := List.append_of_mem h
  rw [all_sum]
  simp
  omega

theorem length_le {H : Type} (c : Nat) (l : List (DataW H)) (h : ∀ d ∈ l, c ≤ Rows.uptoBulk d) : c * l.length ≤ Rows.uptoBulkAll l := by
  induction l with
  | nil => simp [Rows.uptoBulkAll]
  | cons x r ih =>
    have h1 := h x (by simp)
    have h2 := ih (fun d hd => h d (List.mem_cons_of_mem _ hd))
    simp only [Rows.uptoBulkAll, List.length_cons, Nat.mul_add]
    omega

theorem slice_le {H : Type} (elems spare : List (DataW H)) : elems.length + 1 ≤ Rows.uptoBulk (.slice elems spare) := by
  have h1 := length_le 1 elems (fun d _ => one_le d)
  simp only [Rows.uptoBulk]
  omega

theorem list5 {α : Type} {l : List α} (h : l.length = 5) : ∃ a b c d e, l = [a, b, c, d, e] := by
  match l, h with
  | [a, b, c, d, e], _ => exact ⟨a, b, c, d, e, rfl⟩

theorem add_plain (b off i : Nat) : (⟨b, off, none⟩ : Addr).add i = ⟨b, off + i, none⟩ := by unfold Addr.add; split <;> simp_all

/-- What a step of the script is. -/
structure Ent where
  kd : Int
  on : Int
  n : Int
  v : Int
  ao : Option Addr
  mm : Nat
  cp : Nat
  l : List Nat

def IsEnt (W : World) (a : Addr) (i : Nat) (q : Ent) : Prop :=
  W.cell? (a.add (i * 5)) = some (.int .i64 q.kd) ∧ W.cell? (a.add (i * 5 + 1)) = some (.int .i64 q.on) ∧ W.cell? (a.add (i * 5 + 2)) = some (.int .i64 q.n) ∧ W.cell? (a.add (i * 5 + 3)) = some (.int .u32 q.v) ∧ W.cell? (a.add (i * 5 + 4)) = some (.slice q.ao q.mm q.cp) ∧
    (-9223372036854775808 ≤ q.on ∧ q.on ≤ 9223372036854775807) ∧ (0 ≤ q.v ∧ q.v < 4294967296) ∧ Reads W q.ao q.l ∧ Byts q.l ∧ q.l.length = q.mm

/-- One element. -/
theorem open_ent {H : Type} {enc : TypeId × Value → H} {W : World} {a : Addr} {i n : Nat} {cs : List Value} {d : DataW H} {pl : List MemPlace} (h1 : W.cells? 0 (a.add (i * 5)) 5 = some cs) (h2 : DataW.trod enc Try.prog W 0 (fun _ => true) true n 45 cs = some (d, pl)) :
    ∃ q, IsEnt W a i q ∧ 6 ≤ Rows.uptoBulk d ∧ q.mm ≤ Rows.uptoBulk d := by
  obtain ⟨_, hlen, hcell⟩ := World.cells?_some h1
  obtain ⟨xs, k, _, hx, _, hxl, hfs⟩ := DataW.trod_struct Try.underlying45 h2
  obtain ⟨c0, c1, c2, c3, c4, rfl⟩ := list5 hlen
  obtain ⟨y0, y1, y2, y3, y4, rfl⟩ := list5 hxl
  have g0 := hfs 0 _ rfl
  have g1 := hfs 1 _ rfl
  have g2 := hfs 2 _ rfl
  have g3 := hfs 3 _ rfl
  have g4 := hfs 4 _ rfl
  simp [cells43, cells42, cells3] at g0 g1 g2 g3 g4
  have e0 := hcell 0 (by omega)
  have e1 := hcell 1 (by omega)
  have e2 := hcell 2 (by omega)
  have e3 := hcell 3 (by omega)
  have e4 := hcell 4 (by omega)
  rw [add_add] at e0 e1 e2 e3 e4
  simp at e0 e1 e2 e3 e4
  obtain ⟨z0, q0, _, w0⟩ := DataW.trod_int Try.underlying3 g0
  obtain ⟨z1, q1, _, w1⟩ := DataW.trod_int Try.underlying3 g1
  obtain ⟨z2, q2, _, w2⟩ := DataW.trod_int Try.underlying3 g2
  obtain ⟨z3, q3, _, w3⟩ := DataW.trod_int Try.underlying42 g3
  simp at q0 q1 q2 q3
  subst q0 q1 q2 q3
  have hd : d = .agg [y0.1, y1.1, y2.1, y3.1, y4.1] := by simpa using congrArg Prod.fst hx
  have hbulk : 5 + Rows.uptoBulk y4.1 ≤ Rows.uptoBulk d := by
    have b0 := one_le y0.1
    have b1 := one_le y1.1
    have b2 := one_le y2.1
    have b3 := one_le y3.1
    rw [hd]
    simp only [Rows.uptoBulk, Rows.uptoBulkAll]
    omega
  have b4 := one_le y4.1
  have o1 := bounds_i64 w1
  have o3 := bounds_u32 w3
  have o4 : 0 ≤ z3 ∧ z3 < 4294967296 := ⟨by omega, by omega⟩
  rcases open_ints Try.underlying43 Try.underlying5 cells5 g4 with ⟨hc, _⟩ | ⟨x, len, cap, zs, hc, _, hl, hm, hz, hy, hcl, hwz⟩
  · simp at hc
    subst hc
    exact ⟨⟨z0, z1, z2, z3, none, 0, 0, []⟩, ⟨e0, e1, e2, e3, e4, o1, o4, .inl rfl, by simp [Byts], rfl⟩, by omega, Nat.zero_le _⟩
  · simp at hc
    subst hc
    simp only [if_true] at hz
    obtain ⟨l, hll, hb, hr, _⟩ := isRow_reads (w := W) (a := some x) (len := len) (cap := cap) (zs := zs) (.inr ⟨x, rfl, hl, hm, by simpa using hz, hcl, hwz⟩)
    refine ⟨⟨z0, z1, z2, z3, some x, len, cap, l⟩, ⟨e0, e1, e2, e3, e4, o1, o4, hr, hb, hll⟩, by omega, ?_⟩
    have hs := slice_le (lits (H := H) .u8 (zs.take len)) (lits (H := H) .u8 (zs.drop len))
    have hy1 : y4.1 = .slice (lits .u8 (zs.take len)) (lits .u8 (zs.drop len)) := congrArg Prod.fst hy
    rw [← hy1] at hs
    simp only [lits, List.length_map, List.length_take] at hs
    show len ≤ _
    omega

set_option maxRecDepth 100000 in
theorem contract (H : Type) (enc : TypeId × Value → H) (W : World) (base : Nat) (args : Array Value) (ds gs : List (DataW H)) (before : List MemPlace)
    (hval0 : ∀ (j : Nat) t v, Try.f4.params[j]? = some t → args[j]? = some v → Value.okWide Try.prog W .any base t v)
    (hW : DataW.Whole enc Try.prog Try.f4.params.toList Rows.bitsPlaysSpec.vars false W args.toList ds gs before) (hk : Rows.uptoSmall H (ds ++ gs) = true) :
    Calls Try.prog 4 args W fun e W' => ∃ v, e = .returned v ∧ Rows.bitsPlaysSpec.post enc Try.prog Try.f4 false true false false W args v W' := by
  have hval : ∀ (j : Nat) t v, Try.f4.params[j]? = some t → args[j]? = some v → Value.okWide Try.prog W .any base t v := hval0
  have hW' := hW
  obtain ⟨p, q, hA0, hV, rfl, hfz, hnd⟩ := hW
  have hA : DataW.TrodAll enc Try.prog W 0 (fun _ => true) true Try.f4.params.toList args.toList ds p := hA0
  rw [Try.params4] at hA hval
  obtain ⟨v0, vs0, d0, ds0, p0, q0, hargs, rfl, rfl, h0, r0⟩ := trodAll_cons hA
  obtain ⟨rfl, rfl, rfl⟩ := trodAll_nil r0
  obtain rfl : args = #[v0] := by cases args; simp_all
  obtain ⟨rfl, rfl⟩ := trodVars_none hV
  obtain ⟨a0, len0, cap0, rfl⟩ := okWide_slice Try.underlying23 (hval 0 23 v0 rfl rfl)
  have k0 := h0
  have lt0 : ∀ x ∈ p0, x.block < W.heap.size := by obtain ⟨m, hm⟩ := k0; exact DataW.trod_lt m _ _ _ hm
  have hk1 : Rows.uptoBulkAll [d0] ≤ 1048576 := of_decide_eq_true hk
  have hk2 : Rows.uptoBulk d0 ≤ 1048576 := Nat.le_trans (part_le (by simp)) hk1
  have walk : Calls Try.prog 4 #[.slice a0 len0 cap0] W fun e w' => e = .returned (.bool true) ∧ Kept [] W w' := by
    obtain ⟨fuel, hf⟩ := h0
    rcases open_slice Try.underlying23 hf with ⟨hcs, _⟩ | ⟨a, len, cap, m, n, D, Pl, hcs, _, hl, hm, hmm, hx, hc⟩
    · simp [Value.cells] at hcs
      obtain ⟨rfl, rfl, rfl⟩ := hcs
      exact plays_any none 0 0 (fun _ => 0) (fun _ => 0) (fun _ => 0) (fun _ => 0) (fun _ => none) (fun _ => 0) (fun _ => 0) (fun _ => []) W (by omega) (fun h => by omega) (fun i h => by omega) (fun i h => by omega) (fun i h => by omega)
    · simp [Value.cells] at hcs
      obtain ⟨rfl, rfl, rfl⟩ := hcs
      simp only [if_true] at hmm
      rw [hmm] at hc hx
      have hd : d0 = .slice ((List.range len0).map D) ((List.range (cap0 - len0)).map fun j => D (len0 + j)) := congrArg Prod.fst hx
      rw [hd] at hk2
      have hke : Rows.uptoBulkAll ((List.range len0).map D) ≤ 1048576 := by
        simp only [Rows.uptoBulk] at hk2
        omega
      have each : ∀ i, i < len0 → ∃ q, IsEnt W a i q ∧ 6 ≤ Rows.uptoBulk (D i) ∧ q.mm ≤ Rows.uptoBulk (D i) := fun i hi => by
        obtain ⟨cs', h1, h2⟩ := hc i (by omega)
        rw [cells45] at h1
        exact open_ent h1 h2
      obtain ⟨f, hf2⟩ := @choose_lt Ent ⟨⟨0, 0, 0, 0, none, 0, 0, []⟩⟩ _ _ each
      have h6 := length_le 6 ((List.range len0).map D) (fun d hd => by
        obtain ⟨i, hi, rfl⟩ := List.mem_map.1 hd
        exact (hf2 i (List.mem_range.1 hi)).2.1)
      simp only [List.length_map, List.length_range] at h6
      have hmm2 : ∀ i, i < len0 → (f i).mm ≤ 10000000 := fun i hi => by
        have h1 := (hf2 i hi).2.2
        have h2 : Rows.uptoBulk (D i) ≤ Rows.uptoBulkAll ((List.range len0).map D) := part_le (List.mem_map.2 ⟨i, List.mem_range.2 hi, rfl⟩)
        omega
      obtain ⟨b, off, spot⟩ := a
      refine plays_any _ len0 cap0 (fun i => (f i).kd) (fun i => (f i).on) (fun i => (f i).n) (fun i => (f i).v) (fun i => (f i).ao) (fun i => (f i).mm) (fun i => (f i).cp) (fun i => (f i).l) W (by omega) (fun h => ?_)
        (fun i hi => (hf2 i hi).1.2.2.2.2.2.1) (fun i hi => (hf2 i hi).1.2.2.2.2.2.2.1) (fun i hi => ⟨(hf2 i hi).1.2.2.2.2.2.2.2.1, (hf2 i hi).1.2.2.2.2.2.2.2.2.1, (hf2 i hi).1.2.2.2.2.2.2.2.2.2, hmm2 i hi⟩)
      have hspot : spot = none := by simpa [Addr.add] using World.cell?_spot (hf2 0 h).1.1
      subst hspot
      refine ⟨b, off, rfl, fun i hi => ?_⟩
      obtain ⟨e0, e1, e2, e3, e4, _⟩ := (hf2 i hi).1
      rw [add_plain] at e0 e1 e2 e3 e4
      exact ⟨e0, e1, e2, e3, e4⟩
  clear hA0 hval0
  refine walk.mono fun e W' ⟨he, hkk⟩ => ?_
  have bel := hkk.below (Nat.le_refl _) (by simp)
  subst he
  exact ⟨_, rfl, _, _, _, [], _, [], hW', trodAll_mk1 (shut_bool Try.underlying4 _), (trodAll_cons_mk (Below.trod laidOut (by kernel_rfl) (of_decide_eq_true (by kernel_rfl)) k0 bel lt0) trodAll_mk0), rfl, bel.frame _, fun h => by cases h⟩

set_option maxRecDepth 100000 in
theorem lifted (os : Os) (started : os.Started) (H : Type) (enc : TypeId × Value → H) (F : Stop.Interp) :
    ReturnsInHanded {} Try.checked os 4 .any ((Rows.OpenSpec.upto Rows.bitsPlaysSpec).pre6 enc Try.prog Try.f4 Rows.bitsPlaysUptoRow.domain false) (((Rows.OpenSpec.upto Rows.bitsPlaysSpec).at F).post enc Try.prog Try.f4 false true false false) := by
  refine returnsInHanded_of_cond (C := Try.checked) (s := Rows.OpenSpec.upto Rows.bitsPlaysSpec) (k := Rows.uptoSmall) rfl own started (by kernel_rfl) Try.func4
    (OpenSpec.witness (enc := enc) (C := Try.checked) (s := Rows.OpenSpec.upto Rows.bitsPlaysSpec) (k := Rows.uptoSmall) rfl false ⟨#[], #[.slice none 0 0], []⟩ 8 (by kernel_rfl) (by kernel_rfl) (by kernel_rfl)
      (x := ([.nil], [], [])) (by kernel_rfl) rfl (by kernel_rfl)) ?_
  intro W base args ds gs before hval hW _ hk _
  exact contract H enc W base args ds gs before hval hW hk

end Go.Proofs.Ytoghkbajdljheaa.Plays
namespace Go.Proofs.Ytoghkbajdljheaa

theorem bitsPlaysUpto_holds : Rows.BitsPlaysUptoSaid :=
  OpenClaim.holds_of_cond 4 Try.f4 rfl rfl rfl rfl rfl rfl rfl ⟨rfl, rfl, rfl, rfl, rfl⟩ rfl rfl rfl rfl rfl (by kernel_rfl) Try.func4 (by kernel_rfl)
    (of_decide_eq_true (by kernel_rfl)) (by unfold Func.isWrapper; first | (rw [if_pos (by decide +kernel)]; kernel_rfl) | (rw [if_neg (by decide +kernel)]; exact ⟨rfl, rfl⟩))
    (fun os started H enc _ F => Plays.lifted os started H enc F)
#print axioms bitsPlaysUpto_holds
end Go.Proofs.Ytoghkbajdljheaa
