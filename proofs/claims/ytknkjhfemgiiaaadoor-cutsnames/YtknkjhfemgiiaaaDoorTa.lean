import Derived.Test.YtknkjhfemgiiaaaDoorSg
import Derived.Test.YtknkjhfemgiiaaaDoorD4
namespace Go.Proofs.YtknkjhfemgiiaaaDoor
open Go.RowKit Go.Lib

/-- Where a reader stands: the words that are left, the line's end, the first that is wrong. -/
structure Rr where
  ws : List Wd
  en : Int
  er : Option (Int × Int)
def rf (X : Rr) (p E : Int) : Rr := match X.er with
  | none => { X with er := some (p, E) }
  | some _ => X
def nx (X : Rr) (k : Int) : Wd × Rr := match X.ws with
  | [] => (⟨0, 0, ⟨#[]⟩⟩, rf X X.en 193)
  | x :: t => (x, if x.kd = k then { X with ws := t } else rf { X with ws := t } x.pl 193)
/-- Words that are read. -/
def Wds (w : World) (a : Option Addr) (ws : List Wd) : Prop := ws = [] ∨ ∃ g o cur, a = some ⟨g, o, none⟩ ∧ w.heap[g]? = some (.cells cur 56 (0, 0)) ∧ ∀ j v, (wcs ws)[j]? = some v → cur[o + j]? = some v
/-- An error that is a *api.Fault. -/
def Ev (w : World) (ev : Value) : Option (Int × Int) → Prop
  | none => ev = .nilIface
  | some x => ∃ Q, ev = .iface 45 (.pointer (some ⟨Q, 0, none⟩)) ∧ w.heap[Q]? = some (.cells #[.int .i64 x.1, .int .i64 x.2] 48 (0, 0))
/-- A reader in memory. -/
structure RdA (w : World) (q : Nat) (X : Rr) (a : Option Addr) (c : Nat) (ev : Value) : Prop where
  bx : w.heap[q]? = some (.cells #[.slice a X.ws.length c, .int .i64 X.en, ev] 58 (0, 0))
  wd : Wds w a X.ws
  lc : X.ws.length ≤ c
  cm : c ≤ 9223372036854775807
  ev : Ev w ev X.er
theorem Wds.kept {w w' : World} {a : Option Addr} {ws : List Wd} {q : Nat} {cs : Array Value} {t : TypeId} (h : Wds w a ws) (hk : Kept [q] w w') (hq : w.heap[q]? = some (.cells cs t (0, 0))) (ht : t ≠ 56) : Wds w' a ws := by
  rcases h with h | ⟨g, o, cur, h1, h2, h3⟩
  · exact .inl h
  · refine .inr ⟨g, o, cur, h1, hk.heap h2 (fun hm => ?_), h3⟩
    simp at hm; subst hm; rw [hq] at h2; simp at h2; exact ht h2.2
theorem Wds.keep {w w' : World} {a : Option Addr} {ws : List Wd} (h : Wds w a ws) (hk : Kept [] w w') : Wds w' a ws := by
  rcases h with h | ⟨g, o, cur, h1, h2, h3⟩
  · exact .inl h
  · exact .inr ⟨g, o, cur, h1, hk.heap h2 (by simp), h3⟩
theorem Ev.kept {w w' : World} {v : Value} {er : Option (Int × Int)} {q : Nat} {cs : Array Value} {t : TypeId} (h : Ev w v er) (hk : Kept [q] w w') (hq : w.heap[q]? = some (.cells cs t (0, 0))) (ht : t ≠ 48) : Ev w' v er := by
  cases er with
  | none => exact h
  | some x =>
    obtain ⟨Q, h1, h2⟩ := h
    refine ⟨Q, h1, hk.heap h2 (fun hm => ?_)⟩
    simp at hm; subst hm; rw [hq] at h2; simp at h2; exact ht h2.2
theorem Ev.keep {w w' : World} {v : Value} {er : Option (Int × Int)} (h : Ev w v er) (hk : Kept [] w w') : Ev w' v er := by
  cases er with
  | none => exact h
  | some x => obtain ⟨Q, h1, h2⟩ := h; exact ⟨Q, h1, hk.heap h2 (by simp)⟩
theorem RdA.keep {w w' : World} {q : Nat} {X : Rr} {a : Option Addr} {c : Nat} {ev : Value} (h : RdA w q X a c ev) (hk : Kept [] w w') : RdA w' q X a c ev :=
  ⟨hk.heap h.bx (by simp), h.wd.keep hk, h.lc, h.cm, h.ev.keep hk⟩
theorem RdA.cells {w : World} {q : Nat} {X : Rr} {a : Option Addr} {c : Nat} {ev : Value} (h : RdA w q X a c ev) : w.cell? ⟨q, 0, none⟩ = some (.slice a X.ws.length c) ∧ w.cell? ⟨q, 1, none⟩ = some (.int .i64 X.en) ∧ w.cell? ⟨q, 2, none⟩ = some ev := by
  refine ⟨?_, ?_, ?_⟩ <;> simp [World.cell?, h.bx]
theorem RdA.fz {w : World} {q : Nat} {X : Rr} {a : Option Addr} {c : Nat} {ev : Value} (h : RdA w q X a c ev) (i : Nat) : w.frozen? ⟨q, i, none⟩ = false := frozen_of_row w q i _ _ h.bx
/-- What a reader's call leaves. -/
def RP (q : Nat) (w w' : World) (X : Rr) : Prop := ∃ a c ev, RdA w' q X a c ev ∧ Kept [q] w w'
/-- The same, the words where they were. -/
def RE (q : Nat) (w w' : World) (X : Rr) (a : Option Addr) (c : Nat) : Prop := ∃ ev, RdA w' q X a c ev ∧ Kept [q] w w'
theorem RE.rp {q : Nat} {w w' : World} {X : Rr} {a : Option Addr} {c : Nat} (h : RE q w w' X a c) : RP q w w' X := by obtain ⟨ev, h⟩ := h; exact ⟨a, c, ev, h⟩
theorem RdA.fin {w w' : World} {q T : Nat} {X : Rr} {a : Option Addr} {c : Nat} {ev : Value} {cs : Array Value} (h : RdA w q X a c ev) (hk : Kept [T] w w') (hT : w.heap[T]? = some (.cells cs 56 (0, 0))) (hw : Wds w' a X.ws) : RdA w' q X a c ev := by
  refine ⟨hk.heap h.bx (fun hm => ?_), hw, h.lc, h.cm, h.ev.kept hk hT (by decide)⟩
  have h1 := h.bx
  simp at hm; subst hm; rw [hT] at h1; simp at h1
theorem RP.trans {q : Nat} {w w1 w2 : World} {X Y : Rr} (h : RP q w w1 X) (k : RP q w1 w2 Y) : RP q w w2 Y := by
  obtain ⟨_, _, _, _, h⟩ := h
  obtain ⟨a, c, ev, h1, h2⟩ := k
  exact ⟨a, c, ev, h1, h.trans h2⟩
theorem RP.keep {q : Nat} {w w1 w2 : World} {X : Rr} (h : RP q w w1 X) (k : Kept [] w1 w2) : RP q w w2 X := by
  obtain ⟨a, c, ev, h1, h⟩ := h
  exact ⟨a, c, ev, h1.keep k, h.step k (by simp)⟩

set_option maxHeartbeats 4000000 in
set_option maxRecDepth 1000000 in
theorem refuse_any (q : Nat) (p E : Int) (w : World) (X : Rr) (a : Option Addr) (c : Nat) (ev : Value) (h : RdA w q X a c ev) :
    Calls Tryd.prog 30 #[.pointer (some ⟨q, 0, none⟩), .int .i64 p, .int .i64 E] w fun e w' => e = .returned (.tuple #[]) ∧ RE q w w' (rf X p E) a c := by
  obtain ⟨-, -, c2⟩ := h.cells
  have f2 := h.fz 2
  cases he : X.er with
  | none =>
    have hev := h.ev
    rw [he] at hev
    obtain rfl : ev = .nilIface := hev
    have hq := lt_of_block h.bx
    obtain ⟨w1, e1⟩ : ∃ w1, w.alloc (.cells #[.int .i64 p, .int .i64 E] 48 (0, 0)) = w1 := ⟨_, rfl⟩
    have b1 := heap_alloc_new w (.cells #[.int .i64 p, .int .i64 E] 48 (0, 0))
    have k1 : Kept [] w w1 := by rw [← e1]; exact alloc_kept _ _
    rw [e1] at b1
    have h1 := h.keep k1
    obtain ⟨-, -, d2⟩ := h1.cells
    have g2 := h1.fz 2
    have ks : Kept [q] w1 (w1.setCell ⟨q, 2, none⟩ (.iface 45 (.pointer (some ⟨w.heap.size, 0, none⟩)))) := (Kept.refl _ _).setCell (.inl (by simp)) _
    have HF : Hid (RE q w (w1.setCell ⟨q, 2, none⟩ (.iface 45 (.pointer (some ⟨w.heap.size, 0, none⟩)))) (rf X p E) a c) := Hid.mk (by
      refine ⟨.iface 45 (.pointer (some ⟨w.heap.size, 0, none⟩)), ⟨?_, ?_, ?_, h.cm, ?_⟩, (k1.mono (by simp)).trans ks⟩
      · rw [heap_setCell_at h1.bx]; simp [rf, he]
      · simp only [rf, he]; exact h1.wd.kept ks h1.bx (by decide)
      · simp only [rf, he]; exact h.lc
      · simp only [rf, he]; exact ⟨w.heap.size, rfl, ks.heap b1 (by simp; omega)⟩)
    clear h h1 ks k1 b1 he hq
    go_enter Tryd.func30, Tryd.ntmps30
    go_wp2
    go_end0
    exact ⟨rfl, HF.out⟩
  | some x =>
    have hev := h.ev
    rw [he] at hev
    obtain ⟨Q, rfl, hQ⟩ := hev
    have HF : Hid (RE q w w (rf X p E) a c) := Hid.mk (by simp only [rf, he]; exact ⟨_, h, Kept.refl _ _⟩)
    clear h he hQ
    go_enter Tryd.func30, Tryd.ntmps30
    go_wp2
    go_end0
    exact ⟨rfl, HF.out⟩
end Go.Proofs.YtknkjhfemgiiaaaDoor
