import Derived.Test.YtknkjhfemgiiaaaDoorK0
import Derived.Laws.Cover4
import Derived.WalkSmall
namespace Go.Proofs.YtknkjhfemgiiaaaDoor
open Go.RowKit Go.Lib

theorem addN (g off j : Nat) : (⟨g, off, none⟩ : Addr).add j = ⟨g, off + j, none⟩ := by unfold Addr.add; split <;> simp_all
theorem row_form2 {w : World} {base : Nat} {e : TypeId} {size : Nat} {v : Value} {n : Nat} {xs : List Value} (h : w.ownsRow base e size v n xs) : ∃ bo c, v = .slice bo n c ∧ (bo = none → c = 0) ∧ n ≤ c ∧ (∀ g o, bo = some ⟨g, o, none⟩ → v.ownBlock = some g ∧ o = 0) ∧ (∀ a, bo = some a → ∃ g, a = ⟨g, 0, none⟩) := by
  rcases h.2 with ⟨h1, h2⟩ | ⟨g', cap', cur, h1, h3, h4, h5, _⟩
  · subst h1; subst h2; exact ⟨none, 0, rfl, (fun _ => rfl), Nat.le_refl _, (fun g o h => by cases h), (fun a h => by cases h)⟩
  · subst h1; exact ⟨_, _, rfl, (fun h => by cases h), h5, (fun g o h => by cases h; exact ⟨rfl, rfl⟩), (fun a h => by cases h; exact ⟨g', rfl⟩)⟩
theorem own_ty {w : World} {B e n size base : Nat} {V : Value} {xs : List Value} {cs : Array Value} {t : TypeId} (h : w.heap[B]? = some (.cells cs t (0, 0))) (ht : t ≠ e) (ho : w.ownsRow base e size V n xs) : B ∉ V.ownBlock.toList := by
  intro hm
  simp only [Option.mem_toList] at hm
  rcases ho.2 with ⟨rfl, _⟩ | ⟨g, cap, cur, rfl, _, hg, _⟩
  · simp [Value.ownBlock] at hm
  · simp [Value.ownBlock] at hm
    subst hm
    rw [hg] at h
    simp at h
    exact ht h.2.symm
theorem own_two {w : World} {e n size e2 n2 size2 base base2 : Nat} {V V2 : Value} {xs xs2 : List Value} (h : w.ownsRow base e size V n xs) (h2 : w.ownsRow base2 e2 size2 V2 n2 xs2) (hne : e ≠ e2) : ∀ g, V.ownBlock = some g → g ∉ V2.ownBlock.toList := by
  intro g hg
  rcases h.2 with ⟨rfl, _⟩ | ⟨g', cap, cur, rfl, _, hh, _⟩
  · simp [Value.ownBlock] at hg
  · simp [Value.ownBlock] at hg
    subst hg
    exact own_ty hh hne h2
theorem own_base {w : World} {e n size base : Nat} {V : Value} {xs : List Value} (h : w.ownsRow base e size V n xs) : ∀ x ∈ V.ownBlock.toList, base ≤ x := by
  intro x hx
  rcases h.2 with ⟨rfl, _⟩ | ⟨g, cap, cur, rfl, hb, _⟩
  · simp [Value.ownBlock] at hx
  · simp [Value.ownBlock] at hx; subst hx; exact hb
theorem wpList_app_eq' {P : Program} {w : World} {ops : Array Oper} {rest : List Oper} {o : Oper} {a : Act} {Q : Exit → Act → World → Prop} (hgd : o.guard = none) (s x : Operand) (t : TypeId)
    (ho : o.op = .call { callee := .builtin .append, args := #[s, x], argTypes := #[t, t] }) (v y v' : Value) (w' : World) (hs : a.eval s = v) (hx : a.eval x = y)
    (hrun : Sem.run P (Builtin.append_ #[t, t] o.type #[v, y]) w = .ok v' w') (h : wpList P ops Q rest (a.put o.dst v') w') : wpList P ops Q (o :: rest) a w := by
  refine wpList_plain hgd fun K hK => ?_
  unfold Oper.wp
  simp [execOp, ho, resolve, invoke, builtin, hs, hx, hrun, Result.andThen]
  exact hK _ _ h
theorem step_app {ops : Array Oper} {o : Oper} {a : Act} {w : World} {K : Act → World → Prop} {Q : Exit → Act → World → Prop} {E : Prop} (hg : o.guard = none) (s x : Operand) (t : Nat)
    (hop : o.op = Op.call { callee := Callee.builtin Builtin.append, args := #[s, x], argTypes := #[t, t] }) (v1 v2 v' : Value) (w' : World) (hs : a.eval s = v1) (hx : a.eval x = v2)
    (hr : Sem.run Tryd.prog (Builtin.append_ #[t, t] o.type #[v1, v2]) w = .ok v' w') (hK : K (a.put o.dst v') w') :
    if Region.wanted o (yielded ops a.tmps) = true then Oper.wp Tryd.prog o a w K Q else E := by
  have hw : Region.wanted o (yielded ops a.tmps) = true := by simp [Region.wanted, hg]
  rw [if_pos hw]
  unfold Oper.wp
  simp [execOp, hop, resolve, invoke, builtin, hs, hx, hr, Result.andThen]
  exact hK
/-- One element put behind a row, out of a block of its own. -/
theorem appN (w : World) (B t e size by_ : Nat) (z : Value) (hu : Tryd.prog.underlying t = some (.slice e)) (hinf : (Tryd.prog.info? e).map (fun i => (i.zero, i.size, i.bytes)) = some (some z, size, by_)) (hz : z.cells.size = size) (hsz : 0 < size) (v : Value) (n : Nat) (xs : List Value) (ho : w.ownsRow B e size v n xs) (hB : B ≤ w.heap.size) (ys : List Value) (hl : ys.length = size) (hy : ∀ y ∈ ys, y.oneCell' = true) (hn : n ≤ 100000000000) (hb : (n + 1) * by_ ≤ 140737488355328) :
    ∃ g c w', Sem.run Tryd.prog (Builtin.append_ #[t, t] t #[v, .slice (some ⟨w.heap.size, 0, none⟩) 1 1]) (w.alloc (.cells ys.toArray e)) = .ok (.slice (some ⟨g, 0, none⟩) (n + 1) c) w' ∧ w'.ownsRow B e size (.slice (some ⟨g, 0, none⟩) (n + 1) c) (n + 1) (xs ++ ys) ∧ Kept v.ownBlock.toList w w' ∧ (some g = v.ownBlock ∨ w.heap.size ≤ g) := by
  obtain ⟨i0, hi, hz0, hz1, hz2⟩ := info_parts hinf
  have k0 : Kept [] w (w.alloc (.cells ys.toArray e)) := (Kept.refl [] w).alloc _
  obtain ⟨v', u', hrun, h2, h3, h4, h5⟩ := run_append_own_at (P := Tryd.prog) (w.alloc (.cells ys.toArray e)) B t t e i0 z size by_ hu hi hz0 hz1 hz2 hz hsz v n xs (k0.row ho (by simp)) ⟨w.heap.size, 0, none⟩ 1 1 ys (by omega) (fun j u hj => by
    have hb : (w.alloc (.cells ys.toArray e)).heap[w.heap.size]? = some (.cells ys.toArray e) := heap_alloc_new _ _
    rw [addN]; unfold World.cell?; rw [hb]; simpa using hj) hy (by unfold maxLen; omega) hb (Nat.le_trans hB k0.size)
  obtain ⟨bo, c, ev, -, -, -, hf⟩ := row_form2 h2
  subst ev
  cases bo with
  | none =>
    rcases h2.2 with ⟨_, h⟩ | ⟨_, _, _, h, _⟩
    · omega
    · cases h
  | some a =>
    obtain ⟨g, rfl⟩ := hf a rfl
    refine ⟨g, c, u', hrun, h2, (k0.mono (by simp)).trans (Kept.of_grown h3), ?_⟩
    rcases h5 with h | h
    · exact .inl h
    · simp [Value.ownBlock] at h; exact .inr (by omega)
/-- All below B stays but for b. -/
structure Bx (B b : Nat) (w w' : World) : Prop where
  os : w'.os = w.os
  tape : w'.tape = w.tape
  output : w'.output = w.output
  size : w.heap.size ≤ w'.heap.size
  block : ∀ k, k < B → k ≠ b → w'.heap[k]? = w.heap[k]?
theorem Bx.refl (B b : Nat) (w : World) : Bx B b w w := ⟨rfl, rfl, rfl, Nat.le_refl _, fun _ _ _ => rfl⟩
theorem Bx.trans {B b : Nat} {w1 w2 w3 : World} (h : Bx B b w1 w2) (k : Bx B b w2 w3) : Bx B b w1 w3 :=
  ⟨k.os.trans h.os, k.tape.trans h.tape, k.output.trans h.output, Nat.le_trans h.size k.size, fun i hi hn => (k.block i hi hn).trans (h.block i hi hn)⟩
theorem Kept.bx {l : List Nat} {w w' : World} {B b : Nat} (h : Kept l w w') (hB : B ≤ w.heap.size) (hl : ∀ x ∈ l, x = b ∨ B ≤ x) : Bx B b w w' :=
  ⟨h.os, h.tape, h.output, h.size, fun k hk hn => h.block k (by omega) (fun hm => by rcases hl k hm with h | h <;> omega)⟩
theorem Kept.bb {w w' : World} {B b : Nat} (h : Kept [b] w w') (hB : B ≤ w.heap.size) : Bx B b w w' := h.bx hB (by simp)
theorem Kept.b0 {w w' : World} {B b : Nat} (h : Kept [] w w') (hB : B ≤ w.heap.size) : Bx B b w w' := h.bx hB (by simp)

/-- A word of a line. -/
structure Wd where
  kd : Int
  pl : Int
  sy : ByteArray
def wdc (x : Wd) : List Value := [.int .i64 x.kd, .int .i64 x.pl, .string x.sy]
def wcs (l : List Wd) : List Value := l.flatMap wdc
theorem wcs_snoc (l : List Wd) (x : Wd) : wcs (l ++ [x]) = wcs l ++ [.int .i64 x.kd, .int .i64 x.pl, .string x.sy] := by simp [wcs, wdc]
theorem wcs_len (l : List Wd) : (wcs l).length = l.length * 3 := by
  induction l with
  | nil => rfl
  | cons x l ih => simp only [wcs, List.flatMap_cons, List.length_append, List.length_cons] at ih ⊢; rw [ih]; simp [wdc]; omega
/-- Where a scan stands. -/
structure Sn where
  st : Int
  ws : List Wd
  kd : Int
  pl : Int
  sg : List Int
def blk (r : Int) : Bool := r == 32 || r == 9
def snE (s : Sn) : Sn := { s with ws := s.ws ++ [⟨s.kd, s.pl, runesBytes s.sg⟩], st := 0 }
def snP (s : Sn) (r : Int) : Sn := { s with sg := s.sg ++ [r] }
def snB (s : Sn) (p r : Int) : Sn := if blk r then s else if r = 34 then ⟨2, s.ws, 1, p, []⟩ else ⟨1, s.ws, 0, p, [r]⟩
def snG (s : Sn) (r : Int) : Sn := if blk r then snE s else snP s r
def snT (s : Sn) (r : Int) : Sn := if r = 34 then snE s else if r = 92 then { s with st := 3 } else snP s r
def snU (s : Sn) (r : Int) : Sn := if r = 34 ∨ r = 92 then snP { s with st := 2 } r else if r = 110 then snP { s with st := 2 } 10 else { s with st := 2, kd := 2 }
def snF (s : Sn) : Sn := if s.st = 1 then snE s else if s.st = 2 ∨ s.st = 3 then snE { s with kd := 2 } else s
/-- So it lies in memory. -/
structure Sc (B : Nat) (w : World) (b : Nat) (s : Sn) (vw vs : Value) (sy : ByteArray) : Prop where
  bx : w.heap[b]? = some (.cells #[.int .i64 s.st, vw, .int .i64 s.kd, .int .i64 s.pl, .string sy, vs] 67 (0, 0))
  wr : w.ownsRow B 56 3 vw s.ws.length (wcs s.ws)
  sr : w.ownsRow B 21 1 vs s.sg.length (s.sg.map (Value.int .i32))
theorem Sc.kept {B b : Nat} {w w' : World} {s : Sn} {vw vs : Value} {sy : ByteArray} {l : List Nat} (h : Sc B w b s vw vs sy) (hk : Kept l w w') (h0 : b ∉ l) (h1 : ∀ g, vw.ownBlock = some g → g ∉ l) (h2 : ∀ g, vs.ownBlock = some g → g ∉ l) : Sc B w' b s vw vs sy :=
  ⟨hk.heap h.bx h0, hk.row h.wr h1, hk.row h.sr h2⟩
theorem Sc.keep {B b : Nat} {w w' : World} {s : Sn} {vw vs : Value} {sy : ByteArray} (h : Sc B w b s vw vs sy) (hk : Kept [] w w') : Sc B w' b s vw vs sy := h.kept hk (by simp) (by simp) (by simp)
theorem Sc.lt {B b : Nat} {w : World} {s : Sn} {vw vs : Value} {sy : ByteArray} (h : Sc B w b s vw vs sy) : b < w.heap.size := lt_of_block h.bx
theorem Sc.cells {B b : Nat} {w : World} {s : Sn} {vw vs : Value} {sy : ByteArray} (h : Sc B w b s vw vs sy) : w.cell? ⟨b, 0, none⟩ = some (.int .i64 s.st) ∧ w.cell? ⟨b, 1, none⟩ = some vw ∧ w.cell? ⟨b, 2, none⟩ = some (.int .i64 s.kd) ∧ w.cell? ⟨b, 3, none⟩ = some (.int .i64 s.pl) ∧ w.cell? ⟨b, 4, none⟩ = some (.string sy) ∧ w.cell? ⟨b, 5, none⟩ = some vs := by
  refine ⟨?_, ?_, ?_, ?_, ?_, ?_⟩ <;> simp [World.cell?, h.bx]
theorem Sc.fz {B b : Nat} {w : World} {s : Sn} {vw vs : Value} {sy : ByteArray} (h : Sc B w b s vw vs sy) (i : Nat) : w.frozen? ⟨b, i, none⟩ = false := frozen_of_row w b i _ _ h.bx
/-- A cell of the box is written. -/
theorem Sc.set {B b : Nat} {w : World} {s s' : Sn} {vw vs vs' vw' : Value} {sy sy' : ByteArray} (h : Sc B w b s vw vs sy) (i : Nat) (u : Value)
    (hs : (#[.int .i64 s.st, vw, .int .i64 s.kd, .int .i64 s.pl, .string sy, vs] : Array Value).setIfInBounds i u = #[.int .i64 s'.st, vw', .int .i64 s'.kd, .int .i64 s'.pl, .string sy', vs'])
    (hw : w.ownsRow B 56 3 vw' s'.ws.length (wcs s'.ws)) (hv : w.ownsRow B 21 1 vs' s'.sg.length (s'.sg.map (Value.int .i32))) :
    Sc B (w.setCell ⟨b, i, none⟩ u) b s' vw' vs' sy' ∧ Kept [b] w (w.setCell ⟨b, i, none⟩ u) := by
  have ks : Kept [b] w (w.setCell ⟨b, i, none⟩ u) := (Kept.refl _ _).setCell (.inl (by simp)) _
  have hw0 := own_ty h.bx (by decide) hw
  have hv0 := own_ty h.bx (by decide) hv
  refine ⟨⟨?_, ks.row hw (fun g hg hm => hw0 (by simp at hm; subst hm; simp [hg])), ks.row hv (fun g hg hm => hv0 (by simp at hm; subst hm; simp [hg]))⟩, ks⟩
  rw [heap_setCell_at h.bx, hs]
theorem Tryd.infoR : (Tryd.prog.info? 21).map (fun i => (i.zero, i.size, i.bytes)) = some (some (.int .i32 0), 1, 4) := by kernel_rfl
theorem Tryd.infoW : (Tryd.prog.info? 56).map (fun i => (i.zero, i.size, i.bytes)) = some (some (.agg #[.int .i64 0, .int .i64 0, .string ByteArray.empty]), 3, 32) := by kernel_rfl
/-- A sign more. -/
theorem Sc.app {B b : Nat} {w : World} {s : Sn} {vw vs : Value} {sy : ByteArray} (h : Sc B w b s vw vs sy) (hB : B ≤ w.heap.size) (r : Int) (hn : s.sg.length ≤ 100000) :
    ∃ g c w1, Sem.run Tryd.prog (Builtin.append_ #[65, 65] 65 #[vs, .slice (some ⟨w.heap.size, 0, none⟩) 1 1]) (w.alloc (.cells #[.int .i32 r] 21)) = .ok (.slice (some ⟨g, 0, none⟩) (s.sg.length + 1) c) w1 ∧
      w1.cell? ⟨b, 5, none⟩ = some vs ∧ w1.frozen? ⟨b, 5, none⟩ = false ∧ Sc B (w1.setCell ⟨b, 5, none⟩ (.slice (some ⟨g, 0, none⟩) (s.sg.length + 1) c)) b (snP s r) vw (.slice (some ⟨g, 0, none⟩) (s.sg.length + 1) c) sy ∧ Bx B b w (w1.setCell ⟨b, 5, none⟩ (.slice (some ⟨g, 0, none⟩) (s.sg.length + 1) c)) := by
  obtain ⟨g, c, w1, hrun, h2, hk, hg⟩ := appN w B 65 21 1 4 _ Tryd.underlying65 Tryd.infoR rfl (by decide) vs s.sg.length _ h.sr hB [.int .i32 r] rfl (by simp [Value.oneCell']) (by omega) (by omega)
  have hb1 := hk.heap h.bx (own_ty h.bx (by decide) h.sr)
  have hw1 := hk.row h.wr (own_two h.wr h.sr (by decide))
  have ks : Kept [b] w1 (w1.setCell ⟨b, 5, none⟩ (.slice (some ⟨g, 0, none⟩) (s.sg.length + 1) c)) := (Kept.refl _ _).setCell (.inl (by simp)) _
  have a1 := own_ty hb1 (by decide) hw1
  have a2 := own_ty hb1 (by decide) h2
  refine ⟨g, c, w1, hrun, by simp [World.cell?, hb1], frozen_of_row w1 b 5 _ _ hb1, ⟨?_, ks.row hw1 (fun x hx hm => a1 (by simp at hm; subst hm; simp [hx])), ?_⟩, ?_⟩
  · rw [heap_setCell_at hb1]; rfl
  · have := ks.row h2 (fun x hx hm => a2 (by simp at hm; subst hm; simp [hx]))
    simpa [snP] using this
  · exact (hk.bx hB (fun x hx => .inr (own_base h.sr x hx))).trans (ks.bx (Nat.le_trans hB hk.size) (by simp))
/-- A word more: what the append comes to, in any world that is this one but for new blocks. -/
theorem Sc.appW {B b : Nat} {w : World} {s : Sn} {vw vs : Value} {sy : ByteArray} (h : Sc B w b s vw vs sy) (hB : B ≤ w.heap.size) (hn : s.ws.length ≤ 100000) :
    ∃ g c w1, Sem.run Tryd.prog (Builtin.append_ #[41, 41] 41 #[vw, .slice (some ⟨w.heap.size, 0, none⟩) 1 1]) (w.alloc (.cells #[.int .i64 s.kd, .int .i64 s.pl, .string sy] 56)) = .ok (.slice (some ⟨g, 0, none⟩) (s.ws.length + 1) c) w1 ∧
      w1.cell? ⟨b, 1, none⟩ = some vw ∧ w1.frozen? ⟨b, 1, none⟩ = false ∧ w1.heap[b]? = w.heap[b]? ∧ Sc B (w1.setCell ⟨b, 1, none⟩ (.slice (some ⟨g, 0, none⟩) (s.ws.length + 1) c)) b { s with ws := s.ws ++ [⟨s.kd, s.pl, sy⟩] } (.slice (some ⟨g, 0, none⟩) (s.ws.length + 1) c) vs sy ∧ Bx B b w (w1.setCell ⟨b, 1, none⟩ (.slice (some ⟨g, 0, none⟩) (s.ws.length + 1) c)) := by
  obtain ⟨g, c, w1, hrun, h2, hk, hg⟩ := appN w B 41 56 3 32 _ Tryd.underlying41 Tryd.infoW rfl (by decide) vw s.ws.length _ h.wr hB [.int .i64 s.kd, .int .i64 s.pl, .string sy] rfl (by simp [Value.oneCell']) (by omega) (by omega)
  have hb1 := hk.heap h.bx (own_ty h.bx (by decide) h.wr)
  have hw1 := hk.row h.sr (own_two h.sr h.wr (by decide))
  have ks : Kept [b] w1 (w1.setCell ⟨b, 1, none⟩ (.slice (some ⟨g, 0, none⟩) (s.ws.length + 1) c)) := (Kept.refl _ _).setCell (.inl (by simp)) _
  have a1 := own_ty hb1 (by decide) hw1
  have a2 := own_ty hb1 (by decide) h2
  refine ⟨g, c, w1, hrun, by simp [World.cell?, hb1], frozen_of_row w1 b 1 _ _ hb1, by rw [hb1, h.bx], ⟨?_, ?_, ks.row hw1 (fun x hx hm => a1 (by simp at hm; subst hm; simp [hx]))⟩, ?_⟩
  · rw [heap_setCell_at hb1]; rfl
  · have := ks.row h2 (fun x hx hm => a2 (by simp at hm; subst hm; simp [hx]))
    simpa [wcs_snoc] using this
  · exact (hk.bx hB (fun x hx => .inr (own_base h.wr x hx))).trans (ks.bx (Nat.le_trans hB hk.size) (by simp))
/-- The signs, emptied. -/
theorem row_nil {B : Nat} {w : World} {n m : Nat} {e : TypeId} {a : Option Addr} {c : Nat} {xs : List Value} (h : w.ownsRow B e m (.slice a n c) n xs) : w.ownsRow B e m (.slice a 0 c) 0 [] := by
  rcases h.2 with ⟨h1, h2⟩ | ⟨g, cap, cur, h1, h3, h4, h5, h6, h7, h8⟩
  · cases h1; exact ⟨by simp, .inl ⟨rfl, rfl⟩⟩
  · cases h1; exact ⟨by simp, .inr ⟨g, _, cur, rfl, h3, h4, Nat.zero_le _, h6, h7, by simp⟩⟩
/-- What signs say. -/
theorem signs_say {B : Nat} {w : World} {vs : Value} {l : List Int} (h : w.ownsRow B 21 1 vs l.length (l.map (Value.int .i32))) : (convert 65 9 vs).run Tryd.prog w = .ok (.string (runesBytes l)) w := by
  rcases h.2 with ⟨h1, h2⟩ | ⟨g, cap, cur, h1, h3, h4, h5, h6, h7, h8⟩
  · obtain rfl : l = [] := List.length_eq_zero_iff.1 h2
    rw [h1]
    exact run_convert_runes_nil w _ _ 21 0 0 Tryd.underlying65 Tryd.underlying21 Tryd.underlying9
  · rw [h1]
    have := run_convert_runes (P := Tryd.prog) w 65 9 21 ⟨g, 0, none⟩ l.length cap l (Nat.le_refl _) Tryd.underlying65 Tryd.underlying21 Tryd.underlying9 (fun j hj => by
      rw [addN]
      have h9 : cur.toList[j]? = some (.int .i32 l[j]) := by
        have e : (cur.toList.take (l.length * 1))[j]? = (l.map (Value.int .i32))[j]? := by rw [h8]
        rw [List.getElem?_take_of_lt (by omega)] at e
        rw [e]; simp [hj]
      have h10 : cur[j]? = some (.int .i32 l[j]) := by rw [← Array.getElem?_toList]; exact h9
      simp [World.cell?, h4, h10, List.getD, hj])
    rw [this, List.take_length]
end Go.Proofs.YtknkjhfemgiiaaaDoor
