import Derived.Test.YtoghkbajdljheaaZ2
namespace Go.Proofs.Ytoghkbajdljheaa
open Go.RowKit

theorem bytes_at (B : Nat) (V : Value) (N len M : Nat) (L : List Nat) (w : World) (hw : WriterAt w B V N len) (hl : len ≤ 1000000000) (hM : M = (len + 7) / 8) (hL : L = big M (N * 2 ^ (8 * M - len))) :
    Calls Try.prog 25 #[.pointer (some ⟨B, 0, none⟩)] w fun e w' => e = .returned (.slice (some ⟨w.heap.size, 0, none⟩) M M) ∧ w'.heap[w.heap.size]? = some (.cells (L.map byt).toArray 5 (0, 0)) ∧ Kept [] w w' := by
  subst hM hL
  exact bytes_any B V N len w hw (Nat.le_trans hl (by decide))

set_option maxHeartbeats 4000000 in
set_option maxRecDepth 1000000 in
theorem writes_read0 (W w : World) (A : Nat) (s : St) (m : Nat) (X : Nat → Rsc) (on n v : Int) (ao : Option Addr) (mm cap : Nat) (l : List Nat) (h : Stt W w A s m X) (hr : Reads W ao l) (hb : Byts l) (hm : l.length = mm) (hl : mm ≤ 10000000) :
    Calls Try.prog 33 #[.pointer (some ⟨A, 0, none⟩), .agg (opc 5 on n v ao mm cap), .int .i64 0] w fun e w' => e = .returned (.tuple #[.bool true, .bool true]) ∧ ∃ B V g, Stt W w' A (s.read 0 l B V g) m X := by
  have HS0 := Hid.mk (h.push (r := obj w.heap.size (.cells (opc 5 on n v ao mm cap) 45 (0, 0))) ((Kept.refl [] w).alloc (.cells (opc 5 on n v ao mm cap) 45)) (heap_alloc_new w _) (by simp [obj]))
  obtain ⟨o0, _, _, _, o4⟩ := HS0.out.op
  have Hr := Hid.mk hr
  have Hb := Hid.mk hb
  have Hm := Hid.mk hm
  clear h hr hb hm
  go_enter Try.func33, Try.ntmps33
  go_wp2_with fail
  refine (reads_any W _ A s (m + 1) _ 0 0 ao cap mm l HS0.out (by omega) rfl (fun w' s' h' => Hr.out.keep h'.old) Hb.out Hm.out hl).mono ?_
  rintro e w2 ⟨rfl, B, V, g, hS2⟩
  have HS2 := Hid.mk hS2.unop
  clear hS2
  go_wp2
  go_ret2
  exact ⟨rfl, B, V, g, HS2.out⟩

set_option maxHeartbeats 4000000 in
set_option maxRecDepth 1000000 in
theorem writes_over0 (W w : World) (A : Nat) (s : St) (m : Nat) (X : Nat → Rsc) (on n v : Int) (ao : Option Addr) (mm cap M : Nat) (L : List Nat) (h : Stt W w A s m X) (hl : s.len 0 ≤ 50000000) (hM : M = (s.len 0 + 7) / 8) (hL : L = big M (s.N 0 * 2 ^ (8 * M - s.len 0))) :
    Calls Try.prog 33 #[.pointer (some ⟨A, 0, none⟩), .agg (opc 4 on n v ao mm cap), .int .i64 0] w fun e w' => e = .returned (.tuple #[.bool true, .bool true]) ∧ ∃ B V g, Stt W w' A (s.read 0 L B V g) m X := by
  have HS0 := Hid.mk (h.push (r := obj w.heap.size (.cells (opc 4 on n v ao mm cap) 45 (0, 0))) ((Kept.refl [] w).alloc (.cells (opc 4 on n v ao mm cap) 45)) (heap_alloc_new w _) (by simp [obj]))
  obtain ⟨o0, _, _, _, _⟩ := HS0.out.op
  have x0 := (HS0.out.cell 0 (by omega)).1
  have Hl := Hid.mk hl
  have HM := Hid.mk hM
  have HL := Hid.mk hL
  have hmb : M ≤ 10000000 := by omega
  have Hlen : Hid (L.length = M) := by rw [hL]; exact big_length _ _
  have Hbyt : Hid (Byts L) := by rw [hL]; exact big_lt _ _
  clear h hl hM hL
  go_enter Try.func33, Try.ntmps33
  go_wp2_with fail
  generalize w.alloc (.cells (opc 4 on n v ao mm cap) 45) = w1 at *
  refine (bytes_at (s.B 0) (s.V 0) (s.N 0) (s.len 0) M L _ (HS0.out.wr 0 (by omega)) (by have := Hl.out; omega) HM.out HL.out).mono ?_
  rintro e w2 ⟨rfl, hrow, hk2⟩
  have HS1 := Hid.mk (HS0.out.push (r := obj w1.heap.size _) hk2 hrow (by simp [obj]))
  generalize w1.heap.size = G at *
  clear hrow hk2 HS0
  go_wp2_with fail
  refine (reads_any W _ A s (m + 1 + 1) _ 0 0 _ M M L HS1.out (by omega) rfl ?_ Hbyt.out Hlen.out hmb).mono ?_
  · intro w' s' h'
    have h1 := h'.ex (m + 1) (by omega)
    rw [upd_at] at h1
    exact row_front (r := []) (by rw [List.append_nil]; exact h1)
  rintro e w3 ⟨rfl, B, V, g, hS2⟩
  have HS2 := Hid.mk hS2.unop.unop
  clear hS2
  go_wp2
  go_ret2
  exact ⟨rfl, B, V, g, HS2.out⟩

set_option maxHeartbeats 4000000 in
set_option maxRecDepth 1000000 in
theorem writes_none0 (W w : World) (A : Nat) (s : St) (m : Nat) (X : Nat → Rsc) (kd on n v : Int) (ao : Option Addr) (mm cap : Nat) (h : Stt W w A s m X) (d1 : ¬ kd = 1) (d2 : ¬ kd = 2) (d3 : ¬ kd = 3) (d4 : ¬ kd = 4) (d5 : ¬ kd = 5) :
    Calls Try.prog 33 #[.pointer (some ⟨A, 0, none⟩), .agg (opc kd on n v ao mm cap), .int .i64 0] w fun e w' => e = .returned (.tuple #[.bool true, .bool false]) ∧ Stt W w' A s m X := by
  have HS0 := Hid.mk (h.push (r := obj w.heap.size (.cells (opc kd on n v ao mm cap) 45 (0, 0))) ((Kept.refl [] w).alloc (.cells (opc kd on n v ao mm cap) 45)) (heap_alloc_new w _) (by simp [obj]))
  obtain ⟨o0, _, _, _, _⟩ := HS0.out.op
  clear h
  go_enter Try.func33, Try.ntmps33
  go_wp2
  go_ret2
  exact ⟨rfl, HS0.out.unop⟩

set_option maxHeartbeats 4000000 in
set_option maxRecDepth 1000000 in
theorem writes_read1 (W w : World) (A : Nat) (s : St) (m : Nat) (X : Nat → Rsc) (on n v : Int) (ao : Option Addr) (mm cap : Nat) (l : List Nat) (h : Stt W w A s m X) (hr : Reads W ao l) (hb : Byts l) (hm : l.length = mm) (hl : mm ≤ 10000000) :
    Calls Try.prog 33 #[.pointer (some ⟨A, 0, none⟩), .agg (opc 5 on n v ao mm cap), .int .i64 1] w fun e w' => e = .returned (.tuple #[.bool true, .bool true]) ∧ ∃ B V g, Stt W w' A (s.read 1 l B V g) m X := by
  have HS0 := Hid.mk (h.push (r := obj w.heap.size (.cells (opc 5 on n v ao mm cap) 45 (0, 0))) ((Kept.refl [] w).alloc (.cells (opc 5 on n v ao mm cap) 45)) (heap_alloc_new w _) (by simp [obj]))
  obtain ⟨o0, _, _, _, o4⟩ := HS0.out.op
  have Hr := Hid.mk hr
  have Hb := Hid.mk hb
  have Hm := Hid.mk hm
  clear h hr hb hm
  go_enter Try.func33, Try.ntmps33
  go_wp2_with fail
  refine (reads_any W _ A s (m + 1) _ 1 1 ao cap mm l HS0.out (by omega) rfl (fun w' s' h' => Hr.out.keep h'.old) Hb.out Hm.out hl).mono ?_
  rintro e w2 ⟨rfl, B, V, g, hS2⟩
  have HS2 := Hid.mk hS2.unop
  clear hS2
  go_wp2
  go_ret2
  exact ⟨rfl, B, V, g, HS2.out⟩

set_option maxHeartbeats 4000000 in
set_option maxRecDepth 1000000 in
theorem writes_over1 (W w : World) (A : Nat) (s : St) (m : Nat) (X : Nat → Rsc) (on n v : Int) (ao : Option Addr) (mm cap M : Nat) (L : List Nat) (h : Stt W w A s m X) (hl : s.len 1 ≤ 50000000) (hM : M = (s.len 1 + 7) / 8) (hL : L = big M (s.N 1 * 2 ^ (8 * M - s.len 1))) :
    Calls Try.prog 33 #[.pointer (some ⟨A, 0, none⟩), .agg (opc 4 on n v ao mm cap), .int .i64 1] w fun e w' => e = .returned (.tuple #[.bool true, .bool true]) ∧ ∃ B V g, Stt W w' A (s.read 1 L B V g) m X := by
  have HS0 := Hid.mk (h.push (r := obj w.heap.size (.cells (opc 4 on n v ao mm cap) 45 (0, 0))) ((Kept.refl [] w).alloc (.cells (opc 4 on n v ao mm cap) 45)) (heap_alloc_new w _) (by simp [obj]))
  obtain ⟨o0, _, _, _, _⟩ := HS0.out.op
  have x0 := (HS0.out.cell 1 (by omega)).1
  have Hl := Hid.mk hl
  have HM := Hid.mk hM
  have HL := Hid.mk hL
  have hmb : M ≤ 10000000 := by omega
  have Hlen : Hid (L.length = M) := by rw [hL]; exact big_length _ _
  have Hbyt : Hid (Byts L) := by rw [hL]; exact big_lt _ _
  clear h hl hM hL
  go_enter Try.func33, Try.ntmps33
  go_wp2_with fail
  generalize w.alloc (.cells (opc 4 on n v ao mm cap) 45) = w1 at *
  refine (bytes_at (s.B 1) (s.V 1) (s.N 1) (s.len 1) M L _ (HS0.out.wr 1 (by omega)) (by have := Hl.out; omega) HM.out HL.out).mono ?_
  rintro e w2 ⟨rfl, hrow, hk2⟩
  have HS1 := Hid.mk (HS0.out.push (r := obj w1.heap.size _) hk2 hrow (by simp [obj]))
  generalize w1.heap.size = G at *
  clear hrow hk2 HS0
  go_wp2_with fail
  refine (reads_any W _ A s (m + 1 + 1) _ 1 1 _ M M L HS1.out (by omega) rfl ?_ Hbyt.out Hlen.out hmb).mono ?_
  · intro w' s' h'
    have h1 := h'.ex (m + 1) (by omega)
    rw [upd_at] at h1
    exact row_front (r := []) (by rw [List.append_nil]; exact h1)
  rintro e w3 ⟨rfl, B, V, g, hS2⟩
  have HS2 := Hid.mk hS2.unop.unop
  clear hS2
  go_wp2
  go_ret2
  exact ⟨rfl, B, V, g, HS2.out⟩

set_option maxHeartbeats 4000000 in
set_option maxRecDepth 1000000 in
theorem writes_none1 (W w : World) (A : Nat) (s : St) (m : Nat) (X : Nat → Rsc) (kd on n v : Int) (ao : Option Addr) (mm cap : Nat) (h : Stt W w A s m X) (d1 : ¬ kd = 1) (d2 : ¬ kd = 2) (d3 : ¬ kd = 3) (d4 : ¬ kd = 4) (d5 : ¬ kd = 5) :
    Calls Try.prog 33 #[.pointer (some ⟨A, 0, none⟩), .agg (opc kd on n v ao mm cap), .int .i64 1] w fun e w' => e = .returned (.tuple #[.bool true, .bool false]) ∧ Stt W w' A s m X := by
  have HS0 := Hid.mk (h.push (r := obj w.heap.size (.cells (opc kd on n v ao mm cap) 45 (0, 0))) ((Kept.refl [] w).alloc (.cells (opc kd on n v ao mm cap) 45)) (heap_alloc_new w _) (by simp [obj]))
  obtain ⟨o0, _, _, _, _⟩ := HS0.out.op
  clear h
  go_enter Try.func33, Try.ntmps33
  go_wp2
  go_ret2
  exact ⟨rfl, HS0.out.unop⟩

end Go.Proofs.Ytoghkbajdljheaa
