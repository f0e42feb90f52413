import Derived.Test.YtoghkbajdljheaaY5
namespace Go.Proofs.Ytoghkbajdljheaa
open Go.RowKit

/-- A step's cells. -/
def opc (kd on n v : Int) (ao : Option Addr) (mm cap : Nat) : Array Value := #[.int .i64 kd, .int .i64 on, .int .i64 n, .int .u32 v, .slice ao mm cap]

theorem op_cells {w : World} {O : Nat} {kd on n v : Int} {ao : Option Addr} {mm cap : Nat} (h : w.heap[O]? = some (.cells (opc kd on n v ao mm cap) 45 (0, 0))) :
    w.cell? ⟨O, 0, none⟩ = some (.int .i64 kd) ∧ w.cell? ⟨O, 1, none⟩ = some (.int .i64 on) ∧ w.cell? ⟨O, 2, none⟩ = some (.int .i64 n) ∧ w.cell? ⟨O, 3, none⟩ = some (.int .u32 v) ∧ w.cell? ⟨O, 4, none⟩ = some (.slice ao mm cap) := by
  refine ⟨?_, ?_, ?_, ?_, ?_⟩ <;> simp [World.cell?, h, opc]

theorem Stt.op {W w : World} {A m O : Nat} {s : St} {X : Nat → Rsc} {kd on n v : Int} {ao : Option Addr} {mm cap : Nat} (h : Stt W w A s (m + 1) (upd X m (obj O (.cells (opc kd on n v ao mm cap) 45 (0, 0))))) :
    w.cell? ⟨O, 0, none⟩ = some (.int .i64 kd) ∧ w.cell? ⟨O, 1, none⟩ = some (.int .i64 on) ∧ w.cell? ⟨O, 2, none⟩ = some (.int .i64 n) ∧ w.cell? ⟨O, 3, none⟩ = some (.int .u32 v) ∧ w.cell? ⟨O, 4, none⟩ = some (.slice ao mm cap) := by
  have h1 := h.ex m (by omega)
  rw [upd_at] at h1
  exact op_cells h1

theorem Stt.unop {W w : World} {A m : Nat} {s : St} {X : Nat → Rsc} {r : Rsc} (h : Stt W w A s (m + 1) (upd X m r)) : Stt W w A s m X :=
  h.pop.congrX (fun i hi => (upd_far X m i r (by omega)).symm)

set_option maxHeartbeats 4000000 in
set_option maxRecDepth 1000000 in
theorem writes_put0 (W w : World) (A : Nat) (s : St) (m : Nat) (X : Nat → Rsc) (on n v E : Int) (ao : Option Addr) (mm cap N' len' : Nat) (h : Stt W w A s m X) (hbs : s.bs 0 = bin (s.len 0) (s.N 0))
    (h1 : ∀ (B : Nat) (V : Value) (w : World), WriterAt w B V (s.N 0) (s.len 0) → Calls Try.prog 23 #[.pointer (some ⟨B, 0, none⟩), .int .u32 v, .int .i64 n] w fun e w' => e = .returned (.int .i64 E) ∧ ∃ V', WriterAt w' B V' N' len' ∧ Kept (B :: V.ownBlock.toList) w w' ∧ Lies w V V')
    (h2 : ∀ (B : Nat) (V : Value) (w : World), RefW w B V (bin (s.len 0) (s.N 0)) → Calls Try.prog 47 #[.pointer (some ⟨B, 0, none⟩), .int .u32 v, .int .i64 n] w fun e w' => e = .returned (.int .i64 E) ∧ ∃ V', RefW w' B V' (bin len' N') ∧ Kept (B :: V.ownBlock.toList) w w' ∧ Lies w V V') :
    Calls Try.prog 33 #[.pointer (some ⟨A, 0, none⟩), .agg (opc 1 on n v ao mm cap), .int .i64 0] w fun e w' => e = .returned (.tuple #[.bool true, .bool true]) ∧
      ∃ V, Stt W w' A { s with V := V, N := upd s.N 0 N', len := upd s.len 0 len', bs := upd s.bs 0 (bin len' N') } m X := by
  have HS0 := Hid.mk (h.push (r := obj w.heap.size (.cells (opc 1 on n v ao mm cap) 45 (0, 0))) ((Kept.refl [] w).alloc (.cells (opc 1 on n v ao mm cap) 45)) (heap_alloc_new w _) (by simp [obj]))
  have H1 := Hid.mk h1
  have H2 := Hid.mk h2
  have Hbs := Hid.mk hbs
  obtain ⟨o0, _, o2, o3, _⟩ := HS0.out.op
  have x0 := (HS0.out.cell 0 (by omega)).1
  clear h h1 h2 hbs
  go_enter Try.func33, Try.ntmps33
  go_wp2_with fail
  generalize w.alloc (.cells (opc 1 on n v ao mm cap) 45) = w1 at *
  generalize w.heap.size = O at *
  go_cut [8] (fun s8 w2 => s8 = .int .i64 E ∧ ∃ V', Stt W w2 A { s with V := upd s.V 0 V', N := upd s.N 0 N', len := upd s.len 0 len' } (m + 1) (upd X m (obj O (.cells (opc 1 on n v ao mm cap) 45 (0, 0)))))
  case first =>
    go_region_held3 (fun w' => w'.cell? ⟨A, 0, none⟩ = some (.pointer (some ⟨s.B 0, 0, none⟩)) ∧ w'.cell? ⟨O, 3, none⟩ = some (.int .u32 v) ∧ w'.cell? ⟨O, 2, none⟩ = some (.int .i64 n)) (first | exact ⟨x0, o3, o2⟩ | exact ⟨y0, y3, y2⟩ | go_keep)
      (first | (go_at_call 23; refine (H1.out (s.B 0) (s.V 0) _ ?_).mono ?_; exact HS0.out.wr 0 (by omega); rintro e w2 ⟨rfl, V', hW', hk', hL'⟩; have hS2 := HS0.out.setW 0 (by omega) hk'.undrew hW' hL'; have y0 := (hS2.cell 0 (by omega)).1; have y2 := hS2.op.2.2.1; have y3 := hS2.op.2.2.2.1))
    go_wp2
    go_meet
    exact ⟨rfl, V', hS2⟩
  case rest =>
    obtain ⟨rfl, V', hS2⟩ := hcut
    have HS2 := Hid.mk hS2
    have hX2 : RefW wc (s.B 2) (s.V 2) (bin (s.len 0) (s.N 0)) := by rw [← Hbs.out]; exact hS2.rw_ 0 (by omega)
    have HX2 := Hid.mk hX2
    have x0 := (hS2.cell 2 (by omega)).1
    obtain ⟨_, _, o2, o3, _⟩ := hS2.op
    clear hS2 hX2 HS0
    go_wp2_with fail
    go_cut [6, 7] (fun s6 s7 w3 => s6 = .bool true ∧ s7 = .bool true ∧ ∃ V, Stt W w3 A { s with V := V, N := upd s.N 0 N', len := upd s.len 0 len', bs := upd s.bs 0 (bin len' N') } (m + 1) (upd X m (obj O (.cells (opc 1 on n v ao mm cap) 45 (0, 0)))))
    case first =>
      go_region_held3 (fun w' => w'.cell? ⟨A, 2, none⟩ = some (.pointer (some ⟨s.B 2, 0, none⟩)) ∧ w'.cell? ⟨O, 3, none⟩ = some (.int .u32 v) ∧ w'.cell? ⟨O, 2, none⟩ = some (.int .i64 n)) (first | exact ⟨x0, o3, o2⟩ | exact ⟨y0, y3, y2⟩ | go_keep)
        (first | (go_at_call 47; refine (H2.out (s.B 2) (s.V 2) _ ?_).mono ?_; exact HX2.out; rintro e w3 ⟨rfl, V2, hW3, hk3, hL3⟩; have hS3 := HS2.out.setX 0 (by omega) hk3.undrew hW3 hL3; have y0 := (hS3.cell 2 (by omega)).1; have y2 := hS3.op.2.2.1; have y3 := hS3.op.2.2.2.1))
      go_wp2
      go_meet
      exact ⟨by simp, rfl, _, hS3⟩
    case rest =>
      obtain ⟨rfl, rfl, V, hS3⟩ := hcut
      have HS3 := Hid.mk hS3.unop
      clear hS3 HS2 HX2
      go_wp2
      go_ret2
      exact ⟨rfl, V, HS3.out⟩
set_option maxHeartbeats 4000000 in
set_option maxRecDepth 1000000 in
theorem writes_put1 (W w : World) (A : Nat) (s : St) (m : Nat) (X : Nat → Rsc) (on n v E : Int) (ao : Option Addr) (mm cap N' len' : Nat) (h : Stt W w A s m X) (hbs : s.bs 1 = bin (s.len 1) (s.N 1))
    (h1 : ∀ (B : Nat) (V : Value) (w : World), WriterAt w B V (s.N 1) (s.len 1) → Calls Try.prog 23 #[.pointer (some ⟨B, 0, none⟩), .int .u32 v, .int .i64 n] w fun e w' => e = .returned (.int .i64 E) ∧ ∃ V', WriterAt w' B V' N' len' ∧ Kept (B :: V.ownBlock.toList) w w' ∧ Lies w V V')
    (h2 : ∀ (B : Nat) (V : Value) (w : World), RefW w B V (bin (s.len 1) (s.N 1)) → Calls Try.prog 47 #[.pointer (some ⟨B, 0, none⟩), .int .u32 v, .int .i64 n] w fun e w' => e = .returned (.int .i64 E) ∧ ∃ V', RefW w' B V' (bin len' N') ∧ Kept (B :: V.ownBlock.toList) w w' ∧ Lies w V V') :
    Calls Try.prog 33 #[.pointer (some ⟨A, 0, none⟩), .agg (opc 1 on n v ao mm cap), .int .i64 1] w fun e w' => e = .returned (.tuple #[.bool true, .bool true]) ∧
      ∃ V, Stt W w' A { s with V := V, N := upd s.N 1 N', len := upd s.len 1 len', bs := upd s.bs 1 (bin len' N') } m X := by
  have HS0 := Hid.mk (h.push (r := obj w.heap.size (.cells (opc 1 on n v ao mm cap) 45 (0, 0))) ((Kept.refl [] w).alloc (.cells (opc 1 on n v ao mm cap) 45)) (heap_alloc_new w _) (by simp [obj]))
  have H1 := Hid.mk h1
  have H2 := Hid.mk h2
  have Hbs := Hid.mk hbs
  obtain ⟨o0, _, o2, o3, _⟩ := HS0.out.op
  have x0 := (HS0.out.cell 1 (by omega)).1
  clear h h1 h2 hbs
  go_enter Try.func33, Try.ntmps33
  go_wp2_with fail
  generalize w.alloc (.cells (opc 1 on n v ao mm cap) 45) = w1 at *
  generalize w.heap.size = O at *
  go_cut [8] (fun s8 w2 => s8 = .int .i64 E ∧ ∃ V', Stt W w2 A { s with V := upd s.V 1 V', N := upd s.N 1 N', len := upd s.len 1 len' } (m + 1) (upd X m (obj O (.cells (opc 1 on n v ao mm cap) 45 (0, 0)))))
  case first =>
    go_region_held3 (fun w' => w'.cell? ⟨A, 1, none⟩ = some (.pointer (some ⟨s.B 1, 0, none⟩)) ∧ w'.cell? ⟨O, 3, none⟩ = some (.int .u32 v) ∧ w'.cell? ⟨O, 2, none⟩ = some (.int .i64 n)) (first | exact ⟨x0, o3, o2⟩ | exact ⟨y0, y3, y2⟩ | go_keep)
      (first | (go_at_call 23; refine (H1.out (s.B 1) (s.V 1) _ ?_).mono ?_; exact HS0.out.wr 1 (by omega); rintro e w2 ⟨rfl, V', hW', hk', hL'⟩; have hS2 := HS0.out.setW 1 (by omega) hk'.undrew hW' hL'; have y0 := (hS2.cell 1 (by omega)).1; have y2 := hS2.op.2.2.1; have y3 := hS2.op.2.2.2.1))
    go_wp2
    go_meet
    exact ⟨rfl, V', hS2⟩
  case rest =>
    obtain ⟨rfl, V', hS2⟩ := hcut
    have HS2 := Hid.mk hS2
    have hX2 : RefW wc (s.B 3) (s.V 3) (bin (s.len 1) (s.N 1)) := by rw [← Hbs.out]; exact hS2.rw_ 1 (by omega)
    have HX2 := Hid.mk hX2
    have x0 := (hS2.cell 3 (by omega)).1
    obtain ⟨_, _, o2, o3, _⟩ := hS2.op
    clear hS2 hX2 HS0
    go_wp2_with fail
    go_cut [6, 7] (fun s6 s7 w3 => s6 = .bool true ∧ s7 = .bool true ∧ ∃ V, Stt W w3 A { s with V := V, N := upd s.N 1 N', len := upd s.len 1 len', bs := upd s.bs 1 (bin len' N') } (m + 1) (upd X m (obj O (.cells (opc 1 on n v ao mm cap) 45 (0, 0)))))
    case first =>
      go_region_held3 (fun w' => w'.cell? ⟨A, 3, none⟩ = some (.pointer (some ⟨s.B 3, 0, none⟩)) ∧ w'.cell? ⟨O, 3, none⟩ = some (.int .u32 v) ∧ w'.cell? ⟨O, 2, none⟩ = some (.int .i64 n)) (first | exact ⟨x0, o3, o2⟩ | exact ⟨y0, y3, y2⟩ | go_keep)
        (first | (go_at_call 47; refine (H2.out (s.B 3) (s.V 3) _ ?_).mono ?_; exact HX2.out; rintro e w3 ⟨rfl, V2, hW3, hk3, hL3⟩; have hS3 := HS2.out.setX 1 (by omega) hk3.undrew hW3 hL3; have y0 := (hS3.cell 3 (by omega)).1; have y2 := hS3.op.2.2.1; have y3 := hS3.op.2.2.2.1))
      go_wp2
      go_meet
      exact ⟨by simp, rfl, _, hS3⟩
    case rest =>
      obtain ⟨rfl, rfl, V, hS3⟩ := hcut
      have HS3 := Hid.mk hS3.unop
      clear hS3 HS2 HX2
      go_wp2
      go_ret2
      exact ⟨rfl, V, HS3.out⟩
end Go.Proofs.Ytoghkbajdljheaa
