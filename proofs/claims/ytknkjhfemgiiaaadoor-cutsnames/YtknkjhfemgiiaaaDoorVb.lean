import Derived.Test.YtknkjhfemgiiaaaDoorVa
namespace Go.Proofs.YtknkjhfemgiiaaaDoor
open Go.RowKit Go.Lib

def ecs (l : List Evt) : List Value := l.flatMap (fun x => [.string x.reel, .int .i64 x.inn, .int .i64 x.out, .int .i64 x.fade, .string x.note])
theorem ecs_snoc (l : List Evt) (x : Evt) : ecs (l ++ [x]) = ecs l ++ [.string x.reel, .int .i64 x.inn, .int .i64 x.out, .int .i64 x.fade, .string x.note] := by simp [ecs]
theorem ecs_len (l : List Evt) : (ecs l).length = l.length * 5 := by
  induction l with
  | nil => rfl
  | cons x l ih => simp only [ecs, List.flatMap_cons, List.length_append, List.length_cons] at ih ⊢; rw [ih]; simp; omega
theorem ecs_at : ∀ (l : List Evt) (j : Nat) (x : Evt), l[j]? = some x → (ecs l)[j * 5]? = some (.string x.reel) ∧ (ecs l)[j * 5 + 1]? = some (.int .i64 x.inn) ∧ (ecs l)[j * 5 + 2]? = some (.int .i64 x.out) ∧ (ecs l)[j * 5 + 3]? = some (.int .i64 x.fade) ∧ (ecs l)[j * 5 + 4]? = some (.string x.note) := by
  intro l
  induction l with
  | nil => intro j x h; simp at h
  | cons y t ih =>
    intro j x h
    cases j with
    | zero => simp at h; subst h; simp [ecs]
    | succ j =>
      have := ih j x (by simpa using h)
      have e : ∀ k, (ecs (y :: t))[(j + 1) * 5 + k]? = (ecs t)[j * 5 + k]? := fun k => by
        simp only [ecs, List.flatMap_cons]
        rw [List.getElem?_append_right (by simp; omega)]
        congr 1
        simp; omega
      exact ⟨(e 0).trans this.1, (e 1).trans this.2.1, (e 2).trans this.2.2.1, (e 3).trans this.2.2.2.1, (e 4).trans this.2.2.2.2⟩
theorem evl_row {w : World} {B n c : Nat} {a : Option Addr} {l : List Evt} (h : w.ownsRow B 34 5 (.slice a n c) n (ecs l)) (hn : l.length = n) : EvL w a l := by
  rcases h.2 with ⟨h1, h2⟩ | ⟨g, cap, cur, h1, h3, h4, h5, h6, h7, h8⟩
  · exact .inl (List.length_eq_zero_iff.1 (by omega))
  · cases h1
    refine .inr ⟨g, 0, rfl, fun j x hx => ?_⟩
    have hj : j < l.length := (List.getElem?_eq_some_iff.1 hx).1
    obtain ⟨a0, a1, a2, a3, a4⟩ := ecs_at l j x hx
    have key : ∀ k v, (ecs l)[k]? = some v → w.cell? ⟨g, k, none⟩ = some v := fun k v hk => by
      have hlt : k < n * 5 := by have := (List.getElem?_eq_some_iff.1 hk).1; rw [ecs_len] at this; omega
      rw [← h8, List.getElem?_take_of_lt hlt, Array.getElem?_toList] at hk
      simp [World.cell?, h4, hk]
    rw [Nat.zero_add]
    exact ⟨key _ _ a0, key _ _ a1, key _ _ a2, key _ _ a3, key _ _ a4⟩
/-- Where a parser stands. -/
structure Ps where
  t : ByteArray
  r : Int
  es : List Evt
  bg : Bool
structure PsA (B : Nat) (w : World) (p : Nat) (P : Ps) (v : Value) : Prop where
  bx : w.heap[p]? = some (.cells #[.string P.t, .int .i64 P.r, v, .bool P.bg] 37 (0, 0))
  er : w.ownsRow B 34 5 v P.es.length (ecs P.es)
theorem PsA.keep {B p : Nat} {w w' : World} {P : Ps} {v : Value} (h : PsA B w p P v) (hk : Kept [] w w') : PsA B w' p P v := ⟨hk.heap h.bx (by simp), hk.row h.er (by simp)⟩
theorem PsA.kept {B p : Nat} {w w' : World} {P : Ps} {v : Value} {q : Nat} {cs : Array Value} (h : PsA B w p P v) (hk : Kept [q] w w') (hq : w.heap[q]? = some (.cells cs 58 (0, 0))) : PsA B w' p P v := by
  have h1 := own_ty hq (by decide) h.er
  refine ⟨hk.heap h.bx (fun hm => ?_), hk.row h.er (fun g hg hm => h1 (by simp at hm; subst hm; simp [hg]))⟩
  have := h.bx
  simp at hm; subst hm; rw [hq] at this; simp at this
theorem PsA.cells {B p : Nat} {w : World} {P : Ps} {v : Value} (h : PsA B w p P v) : w.cell? ⟨p, 0, none⟩ = some (.string P.t) ∧ w.cell? ⟨p, 1, none⟩ = some (.int .i64 P.r) ∧ w.cell? ⟨p, 2, none⟩ = some v ∧ w.cell? ⟨p, 3, none⟩ = some (.bool P.bg) := by
  refine ⟨?_, ?_, ?_, ?_⟩ <;> simp [World.cell?, h.bx]
def tkX (ws : List Wd) (en : Int) : Rr := ⟨ws, en, none⟩
def tkF (P : Ps) (ws : List Wd) (en : Int) : Ps × Option (Int × Int) := match ws with
  | [] => (P, none)
  | x :: _ => if P.bg = false then (⟨(lsF (tkX ws en)).1.1, (lsF (tkX ws en)).1.2, [], true⟩, (lsF (tkX ws en)).2.er)
    else if P.es.length = 200 then (P, some (x.pl, 196))
    else match (evF P.r (tkX ws en)).2.er with
      | some y => (P, some y)
      | none => (⟨P.t, P.r, P.es ++ [(evF P.r (tkX ws en)).1.1], true⟩, plE (eo P.es.length (ceE (dy P.r) (lfA P.es.getLast?) (evF P.r (tkX ws en)).1.1)) x.pl (evF P.r (tkX ws en)).1.2)
/-- What a line leaves. -/
def TkP (B p : Nat) (w : World) (R : Ps × Option (Int × Int)) (e : Ending) (w' : World) : Prop := ∃ v v2, e = .returned v ∧ Ev w' v R.2 ∧ PsA B w' p R.1 v2 ∧ Bx B p w w'
/-- All that the package's own variables hold. -/
structure Vs (w : World) : Prop where
  tb : Tb w
  wt : Wt w
  ut : Ut w
  et : Et w
theorem Vs.keep {w w' : World} (h : Vs w) (hk : Kept [] w w') : Vs w' := ⟨h.tb.keep hk, fun j hj => cell_keep hk (h.wt j hj) (by simp), h.ut.keep hk, h.et.keep hk⟩
theorem cell_bx {B b : Nat} {w w' : World} {g i : Nat} {v : Value} (h : Bx B b w w') (hg : g < B) (hb : g ≠ b) (hc : w.cell? ⟨g, i, none⟩ = some v) : w'.cell? ⟨g, i, none⟩ = some v := by
  unfold World.cell? at hc ⊢
  simp only at hc ⊢
  rw [h.block g hg hb]; exact hc
theorem Vs.bx {B b : Nat} {w w' : World} (h : Vs w) (hk : Bx B b w w') (hB : 6 ≤ B) (hb : 6 ≤ b) : Vs w' := by
  have c : ∀ {g i : Nat} {v : Value}, g < 6 → w.cell? ⟨g, i, none⟩ = some v → w'.cell? ⟨g, i, none⟩ = some v := fun hg hc => cell_bx hk (by omega) (by omega) hc
  refine ⟨fun j hj => ?_, fun j hj => c (by decide) (h.wt j hj), ⟨fun j hj => c (by decide) (h.ut.1 j hj), fun j hj => ⟨c (by decide) (h.ut.2 j hj).1, c (by decide) (h.ut.2 j hj).2⟩⟩, c (by decide) h.et⟩
  obtain ⟨a, b, c', d⟩ := h.tb j hj
  exact ⟨c (by decide) a, c (by decide) b, c (by decide) c', c (by decide) d⟩
set_option maxHeartbeats 4000000 in
theorem take_none (B p : Nat) (P : Ps) (v0 : Value) (a : Option Addr) (c : Nat) (en : Int) (w : World) (hB : B ≤ w.heap.size) (hP : PsA B w p P v0) : Calls Tryd.prog 9 #[.pointer (some ⟨p, 0, none⟩), .agg #[.slice a 0 c, .int .i64 en]] w fun e w' => TkP B p w (P, none) e w' := by
  have HP := Hid.mk hP
  clear hP
  go_enter Tryd.func9, Tryd.ntmps9
  go_wp2
  go_ret
  exact ⟨_, v0, rfl, rfl, HP.out.keep (alloc_kept _ _), (alloc_kept _ _).b0 hB⟩
/-- The reader of a line. -/
theorem reader_new (w : World) (a : Option Addr) (c : Nat) (ws : List Wd) (en : Int) (B : Nat) (hw : w.ownsRow B 56 3 (.slice a ws.length c) ws.length (wcs ws)) :
    RP w.heap.size (w.alloc (.cells #[.slice a ws.length c, .int .i64 en, .nilIface] 58 (0, 0))) (w.alloc (.cells #[.slice a ws.length c, .int .i64 en, .nilIface] 58 (0, 0))) (tkX ws en) := by
  have hk := alloc_kept w (.cells #[.slice a ws.length c, .int .i64 en, .nilIface] 58 (0, 0))
  have hw1 := hk.row hw (by simp)
  refine ⟨a, c, .nilIface, ⟨heap_alloc_new _ _, ?_, ?_, ?_, rfl⟩, Kept.refl _ _⟩
  · rcases hw1.2 with ⟨h1, h2⟩ | ⟨g, cap, cur, h1, h3, h4, h5, h6, h7, h8⟩
    · exact .inl (List.length_eq_zero_iff.1 h2)
    · cases h1
      refine .inr ⟨g, 0, cur, rfl, h4, fun j v hj => ?_⟩
      have hlt : j < ws.length * 3 := by have := (List.getElem?_eq_some_iff.1 hj).1; rw [show (tkX ws en).ws = ws from rfl, wcs_len] at this; exact this
      have hj' : (wcs ws)[j]? = some v := hj
      rw [← h8, List.getElem?_take_of_lt hlt, Array.getElem?_toList] at hj'
      rw [Nat.zero_add]; exact hj'
  · rcases hw.2 with ⟨h1, h2⟩ | ⟨g, cap, cur, h1, h3, h4, h5, h6, h7, h8⟩
    · simp at h1; show ws.length ≤ c; omega
    · cases h1; exact h5
  · rcases hw.2 with ⟨h1, h2⟩ | ⟨g, cap, cur, h1, h3, h4, h5, h6, h7, h8⟩
    · simp at h1; omega
    · cases h1; unfold maxLen at h6; omega
end Go.Proofs.YtknkjhfemgiiaaaDoor
