import Derived.Test.YthhcihcgefeblaaDoorFD
import Derived.Test.YthhcihcgefeblaaDoorF8
import Derived.Deep.RegionHeldLaw
import Derived.Laws.IdiomStrings
namespace Go.Proofs.YthhcihcgefeblaaDoor
open Go.RowKit

/-- The bytes of a text. -/
def tby (T : ByteArray) : List Nat := T.data.toList.map UInt8.toNat

theorem tby_length (T : ByteArray) : (tby T).length = T.size := by unfold tby; rw [List.length_map, Array.length_toList]; rfl
theorem tby_byts (T : ByteArray) : Byts (tby T) := by
  intro b hb
  simp only [tby, List.mem_map] at hb
  obtain ⟨x, _, rfl⟩ := hb
  have := x.toNat_lt
  omega

/-- '[]byte' of a text: new memory that has its bytes. -/
theorem bytes_run (w : World) (T : ByteArray) : ∃ g cap w', Sem.run Tryd.prog (convert 9 34 (.string T)) w = .ok (.slice (some ⟨g, 0, none⟩) T.size cap) w' ∧ Reads w' (some ⟨g, 0, none⟩) (tby T) ∧ w.heap.size ≤ g ∧ Kept [] w w' := by
  refine ⟨_, _, _, run_bytes_of_string w 9 34 5 T Tryd.underlying9 Tryd.underlying34 Tryd.underlying5, .inr ⟨_, 0, rfl, fun i hi => ?_⟩, Nat.le_refl _, (((Kept.refl _ _).drew).alloc _)⟩
  rw [tby_length] at hi
  have hi2 : i < T.data.size := hi
  have hh := heap_alloc_new w.drew (.cells (bytesRow T (grownCap w T.size 0 5)) 5 ((bytesRow T (grownCap w T.size 0 5)).size, (bytesRow T (grownCap w T.size 0 5)).size + 1))
  have hc : (bytesRow T (grownCap w T.size 0 5))[i]? = some (byt ((tby T).getD i 0)) := by
    unfold bytesRow
    rw [Array.getElem?_append_left (by simpa using hi2)]
    simp [byt, tby]
    exact ⟨T.data[i], by rw [Array.getElem?_eq_getElem hi2], by rw [Array.getElem?_eq_getElem hi2]; rfl⟩
  show (World.alloc _ _).cell? _ = _
  unfold World.cell?
  have e0 : w.drew.heap.size = w.heap.size := rfl
  rw [e0] at hh
  simp only [hh, Nat.zero_add]
  simpa using hc

theorem small_op {s : Wo} {b O : Nat} {kd on a bb cc : Int} {T : ByteArray} (hs : Small s b) : Small (s.op O kd on a bb cc T) b := ⟨hs.c, hs.len, hs.l⟩

/-- A World that holds bytes. -/
def Wo.rd (s : Wo) (ao : Option Addr) (l : List Nat) : Wo := { s with m := s.m + 1, X := fun j => if j = s.m then rdl ao l else s.X j }
theorem At.rdl {W w w' : World} {A : Nat} {s : Wo} {ao : Option Addr} {l : List Nat} (h : At W w A s) (hk : Kept [] w w') (hr : Reads w' ao l) (hF : ∀ g off, ao = some ⟨g, off, none⟩ → w.heap.size ≤ g) : At W w' A (s.rd ao l) := by
  refine h.hold (r := Go.Proofs.YthhcihcgefeblaaDoor.rdl ao l) hk hr (fun x hx => ?_)
  by_cases e : l = []
  · simp [Go.Proofs.YthhcihcgefeblaaDoor.rdl, e] at hx
  · rcases hr with hr | ⟨g, off, rfl, _⟩
    · exact absurd hr e
    · simp only [Go.Proofs.YthhcihcgefeblaaDoor.rdl, if_neg e] at hx
      simp at hx
      subst hx
      exact hF _ _ rfl
theorem alike_rd {s : Wo} {ao : Option Addr} {l : List Nat} (ha : Alike s) : Alike (s.rd ao l) := ⟨ha.c01, ha.c23, ha.c45, ha.N, ha.len, ha.l, ha.t, ha.r⟩
theorem small_rd {s : Wo} {b : Nat} {ao : Option Addr} {l : List Nat} (hs : Small s b) : Small (s.rd ao l) b := ⟨hs.c, hs.len, hs.l⟩
theorem lies_new {w : World} {ao : Option Addr} {n cp : Nat} (h : Lies w (.slice none 0 0) (.slice ao n cp)) : ∀ g off, ao = some ⟨g, off, none⟩ → w.heap.size ≤ g := by
  rintro g off rfl
  rcases h.mem g (by simp [Value.ownBlock]) with h | h
  · simp [Value.ownBlock] at h
  · exact h

set_option maxHeartbeats 4000000 in
set_option maxRecDepth 1000000 in
theorem makes_K7 (W w : World) (A : Nat) (s : Wo) (b : Nat) (kd on a bb cc : Int) (T : ByteArray) (hkd : Hid (kd = 7)) (h : At W w A s) (ha : Alike s) (hs : Small s b) (hc : ∀ k, s.c k < 99999999) :
    Calls Tryd.prog 46 #[.pointer (some ⟨A, 0, none⟩), .agg (opc kd on a bb cc T)] w fun e w' => SPost W A s (b + 50) e w' := by
  have h1 : At W (w.alloc (.cells (opc kd on a bb cc T) 37)) A (s.op w.heap.size kd on a bb cc T) := h.hold (r := obj w.heap.size (.cells (opc kd on a bb cc T) 37 (0, 0))) ((Kept.refl [] w).alloc (.cells (opc kd on a bb cc T) 37)) (heap_alloc_new w _) (by simp [obj])
  obtain ⟨q0, q1, q2, q3, q4, q5⟩ := h1.opc (Still.refl _)
  have H1 := Hid.mk h1
  have Ha := Hid.mk ha
  have Hs := Hid.mk hs
  have Hc := Hid.mk hc
  clear h1 h ha hs hc
  go_enter Tryd.func46, Tryd.ntmps46
  obtain rfl := hkd.out
  go_wp2_with (go_at_call 10; refine (writer_any W _ A _ H1.out (Hs.out.c 0) (Hs.out.c 1)).mono ?_; rintro e w1 ⟨rfl, B0, S0, B1, S1, h2⟩; have H2 := Hid.mk h2; clear h2)
  go_ret
  exact spost_of (spost_add (p := 0) (.inl rfl) H2.out (alike_op Ha.out) (small_op Hs.out) Hc.out (by simp)) rfl

set_option maxHeartbeats 4000000 in
set_option maxRecDepth 1000000 in
theorem makes_K10 (W w : World) (A : Nat) (s : Wo) (b : Nat) (kd on a bb cc : Int) (T : ByteArray) (hkd : Hid (kd = 10)) (h : At W w A s) (ha : Alike s) (hs : Small s b) (hc : ∀ k, s.c k < 99999999) :
    Calls Tryd.prog 46 #[.pointer (some ⟨A, 0, none⟩), .agg (opc kd on a bb cc T)] w fun e w' => SPost W A s (b + 50) e w' := by
  have h1 : At W (w.alloc (.cells (opc kd on a bb cc T) 37)) A (s.op w.heap.size kd on a bb cc T) := h.hold (r := obj w.heap.size (.cells (opc kd on a bb cc T) 37 (0, 0))) ((Kept.refl [] w).alloc (.cells (opc kd on a bb cc T) 37)) (heap_alloc_new w _) (by simp [obj])
  obtain ⟨q0, q1, q2, q3, q4, q5⟩ := h1.opc (Still.refl _)
  have H1 := Hid.mk h1
  have Ha := Hid.mk ha
  have Hs := Hid.mk hs
  have Hc := Hid.mk hc
  clear h1 h ha hs hc
  go_enter Tryd.func46, Tryd.ntmps46
  obtain rfl := hkd.out
  go_wp2_with (go_at_call 12; refine (coder_any W _ A _ H1.out (Hs.out.c 4) (Hs.out.c 5)).mono ?_; rintro e w1 ⟨rfl, B0, S0, B1, S1, h2⟩; have H2 := Hid.mk h2; clear h2)
  go_ret
  exact spost_of (spost_add (p := 4) (.inr (.inr rfl)) H2.out (alike_op Ha.out) (small_op Hs.out) Hc.out (by simp)) rfl

set_option maxHeartbeats 4000000 in
set_option maxRecDepth 1000000 in
theorem makes_no (W w : World) (A : Nat) (s : Wo) (b : Nat) (kd on a bb cc : Int) (T : ByteArray) (h7 : kd ≠ 7) (h8 : kd ≠ 8) (h9 : kd ≠ 9) (h10 : kd ≠ 10) (h : At W w A s) (ha : Alike s) (hs : Small s b) (hc : ∀ k, s.c k < 99999999) :
    Calls Tryd.prog 46 #[.pointer (some ⟨A, 0, none⟩), .agg (opc kd on a bb cc T)] w fun e w' => SPost W A s (b + 50) e w' := by
  have h7' : decide (kd = 7) = false := by simp; exact h7
  have h8' : decide (kd = 8) = false := by simp; exact h8
  have h9' : decide (kd = 9) = false := by simp; exact h9
  have h10' : decide (kd = 10) = false := by simp; exact h10
  have h1 : At W (w.alloc (.cells (opc kd on a bb cc T) 37)) A (s.op w.heap.size kd on a bb cc T) := h.hold (r := obj w.heap.size (.cells (opc kd on a bb cc T) 37 (0, 0))) ((Kept.refl [] w).alloc (.cells (opc kd on a bb cc T) 37)) (heap_alloc_new w _) (by simp [obj])
  obtain ⟨q0, q1, q2, q3, q4, q5⟩ := h1.opc (Still.refl _)
  have H1 := Hid.mk h1
  have Ha := Hid.mk ha
  have Hs := Hid.mk hs
  have Hc := Hid.mk hc
  clear h1 h ha hs hc
  go_enter Tryd.func46, Tryd.ntmps46
  go_wp2
  go_ret
  exact spost_same H1.out Ha.out Hs.out

set_option maxHeartbeats 4000000 in
set_option maxRecDepth 1000000 in
theorem makes_K9 (W w : World) (A : Nat) (s : Wo) (b : Nat) (kd on a bb cc : Int) (T : ByteArray) (hkd : Hid (kd = 9)) (h : At W w A s) (ha : Alike s) (hs : Small s b) (hc : ∀ k, s.c k < 99999999) (hT : T.size ≤ 10000000) :
    Calls Tryd.prog 46 #[.pointer (some ⟨A, 0, none⟩), .agg (opc kd on a bb cc T)] w fun e w' => SPost W A s (b + 50) e w' := by
  have Hn : Hid ((tby T).length ≤ 10000000) := Hid.mk (by rw [tby_length]; exact hT)
  have h1 : At W (w.alloc (.cells (opc kd on a bb cc T) 37)) A (s.op w.heap.size kd on a bb cc T) := h.hold (r := obj w.heap.size (.cells (opc kd on a bb cc T) 37 (0, 0))) ((Kept.refl [] w).alloc (.cells (opc kd on a bb cc T) 37)) (heap_alloc_new w _) (by simp [obj])
  obtain ⟨q0, q1, q2, q3, q4, q5⟩ := h1.opc (Still.refl _)
  have H1 := Hid.mk h1
  have Ha := Hid.mk ha
  have Hs := Hid.mk hs
  have Hc := Hid.mk hc
  clear h1 h ha hs hc
  go_enter Tryd.func46, Tryd.ntmps46
  obtain rfl := hkd.out
  go_wp2_with fail
  obtain ⟨g2, cap2, w2, hrun2, hrd2, hg2, hk2⟩ := bytes_run (w.alloc (.cells (opc 9 on a bb cc T) 37)) T
  rw [hrun2]
  have H2 := Hid.mk (H1.out.rdl hk2 hrd2 (fun g off e => by simp at e; omega))
  clear hrun2 hrd2 hg2 hk2 H1 q0 q1 q2 q3 q4 q5
  go_wp2_with (go_at_call 11; refine (reader_any W _ A _ _ T.size _ (s.m + 1) (tby T) H2.out (Nat.lt_succ_self _) (by simp [Wo.rd, Wo.op]) (tby_byts T) (tby_length T) hT (Hs.out.c 2) (Hs.out.c 3)).mono ?_; rintro e w3 ⟨rfl, B0, S0, g, B1, S1, V1, h3⟩; have H3 := Hid.mk h3; clear h3)
  go_ret
  exact spost_of (spost_add (p := 2) (.inr (.inl rfl)) H3.out (alike_rd (alike_op Ha.out)) (small_rd (small_op Hs.out)) Hc.out Hn.out) rfl

end Go.Proofs.YthhcihcgefeblaaDoor
