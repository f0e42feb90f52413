import Derived.Test.YtahoeodpjdbdkabDoorDc
import Derived.Recover
import Derived.Laws.Pointers
namespace Go.Proofs.YtahoeodpjdbdkabDoor
open Go.RowKit

set_option maxRecDepth 100000 in
theorem catch_idle (p : Addr) (w : World) :
    CallsD Tryd.prog 32 #[.pointer (some p)] .returning w fun e u' w' => e = .returned (.tuple #[]) ∧ u' = .returning ∧ w' = w := by
  have hnil : ∀ w : World, (binOp BinOp.neq 20 .nilIface .nilIface).run Tryd.prog w = .ok (.bool false) w := fun _ => by kernel_rfl
  refine callsD_of_wpS Tryd.func32 rfl fun c₀ cs hu => ?_
  apply wpS_seq
  apply wpS_region
  simp [wpOpsS, go_sem, recoverD, hu, Tryd.ntmps32, Exit.thenS]
  apply wpS_seq
  apply wpS_region
  simp [wpOpsS, go_sem, hnil, Exit.thenS]
  refine wpS_cond (t := false) (by simp [Act.eval, Array.replicate]) ?_
  simp only [Bool.false_eq_true, if_false]
  refine wpS_of_wp (wp_skip ?_)
  cases c₀
  simp_all [bodyPostS, results, Tryd.results32]
set_option maxHeartbeats 4000000 in
set_option maxRecDepth 1000000 in
/-- What was coded is read. -/
theorem read_coded (w0 : World) (B P X G O g : Nat) (T d D : Int) (W H n : Nat) (l : List Nat) (f : Nat → Int) (w : World) (hG : Gd T d) (hD : Dp D T) (hn : n ≤ 4194304) (hW : 1 ≤ W) (hW2 : W ≤ 4096) (hWH : n = W * H) (hf : ∀ i, 0 ≤ f i ∧ f i ≤ T) (J : Nat) (hE : Enc T d W n f J) (hl : Holds l (wrt T d W (cE T d W f) (wk0 T d) J))
    (h1 : 8 * l.length - (wrt T d W (cE T d W f) (wk0 T d) J).2 < 8) (hz : nextN l (wrt T d W (cE T d W f) (wk0 T d) J).2 (8 * l.length - (wrt T d W (cE T d W f) (wk0 T d) J).2) = 0)
    (h : Dm w0 B P X G O g T d D W n l w (wk0 T d) 0) :
    Calls Tryd.prog 20 #[.pointer (some ⟨B, 0, none⟩)] w fun e w' => e = .returned (.int .i64 0) ∧ Dm w0 B P X G O g T d D W n l w' (stp T d W (cE T d W f) (wk0 T d) J) (8 * l.length) := by
  have hmf : ∀ (fn : Fn) (first cap : Array Value) (w : World), (Instr.makeFunc fn first cap).run Tryd.prog w = .ok (.func fn first cap) w := fun _ _ _ _ => rfl
  have hb0 : Holds l (1, 8) := holds_wrt hG hW hf 0 J (by rw [Nat.zero_add]; exact hl)
  obtain ⟨w1, hw1, k1⟩ : ∃ w1, w.alloc (.cells #[.int .i64 0] 29 (0, 0)) = w1 ∧ Kept [] w w1 := ⟨_, rfl, alloc_kept _ _⟩
  have b1 : w1.heap[w.heap.size]? = some (.cells #[.int .i64 0] 29 (0, 0)) := by rw [← hw1]; exact heap_alloc_new _ _
  obtain ⟨Q, hQ⟩ : ∃ Q, w.heap.size = Q := ⟨_, rfl⟩
  rw [hQ] at b1
  have H1 := h.kp k1
  have c6 := dext_cell H1.wm
  have C1 := Hid.mk ((get_any O g l 0 8 w1 H1.rd (by omega) (by omega) (by have := hb0.1; simp at this; omega)).mono (R' := fun e w' => e = .returned (.tuple #[.int .u32 1, .int .i64 0]) ∧ Hid (Dm w0 B P X G O g T d D W n l w' (wk0 T d) 8 ∧ w'.heap[Q]? = some (.cells #[.int .i64 0] 29 (0, 0)))) (by
    rintro e w' ⟨rfl, hrd, hkk⟩
    obtain ⟨cs, hr', hl', hc⟩ := H1.wm.row
    obtain ⟨ps, hp, _⟩ := H1.wm.md.blk
    have o1 := ne_ty H1.rd.1 H1.wm.blk (by decide)
    have o2 := ne_ty H1.rd.1 hr' (by decide)
    have o3 := ne_ty H1.rd.1 hp (by decide)
    have o4 := ne_ty H1.rd.1 H1.wm.co.1 (by decide)
    have o5 := ne_ty H1.rd.1 b1 (by decide)
    have hlo := H1.lo
    have e8 : nextN l 0 (Int.toNat 8) = 1 := hb0.2
    have hm' : Wm w' B P X G 61 T d D W n (dext O) (wk0 T d) := H1.wm.keep hkk (by simp; omega)
    rw [e8]
    exact ⟨rfl, Hid.mk ⟨⟨hm', hrd, H1.keep.step hkk (fun y hy => by right; simp at hy; omega), H1.tab, H1.lo⟩, hkk.heap b1 (by simp; omega)⟩⟩))
  have hQl : w0.heap.size ≤ Q := by rw [← hQ]; exact h.keep.size
  clear h H1 k1 b1 hb0
  go_enter_defers Tryd.func20, Tryd.ntmps20
  go_wp2_with (first | (go_at_call 34; refine C1.out.mono ?_; rintro e w2 ⟨rfl, R2⟩) | (go_at_call 33; refine (takenU_ok _ _).mono ?_; rintro e w3 ⟨rfl, hw3⟩; obtain rfl := hw3.symm))
  refine (through38 B P X G 61 T d D W H n (dext O) (cdr T d W f) (fun w s x => Dm w0 B P X G O g T d D W n l w s x.2 ∧ Kept [B, P, X, G, O] w2 w) (fun _ _ => False) hD hG hn hW hW2 hWH (wk0 T d) (1, 8) (dhnd w0 w2 B P X G O g T d D W H n l f hG hW hW2 hWH hf J hE hl) w2 ⟨R2.out.1, Kept.refl _ _⟩ (wk0_in hG) (by show 0 ≤ n; omega)).mono ?_
  rintro e w3 (⟨rfl, s3, x3, hR, ht, -, h3, k3⟩ | ⟨pc, s3, x3, -, -, -, -, hF⟩)
  · obtain ⟨j, hs3, hx3, hj⟩ := rch_cdr hR
    have hjJ : j = J := by
      rcases Nat.lt_trichotomy j J with h | h | h
      · have := hE.all j h; rw [← hs3] at this; omega
      · exact h
      · have := hj J h; have := hE.fin; omega
    subst hjJ
    rw [← hx3] at h1 hz
    have HS := Hid.mk hs3
    clear hs3 hx3
    have b3 : w3.heap[Q]? = some (.cells #[.int .i64 0] 29 (0, 0)) := by
      have h2 := R2.out.1
      have b2 := R2.out.2
      obtain ⟨cs, hr', hl', hc⟩ := h2.wm.row
      obtain ⟨ps, hp, _⟩ := h2.wm.md.blk
      have o1 := ne_ty b2 h2.wm.blk (by decide)
      have o2 := ne_ty b2 hr' (by decide)
      have o3 := ne_ty b2 hp (by decide)
      have o4 := ne_ty b2 h2.wm.co.1 (by decide)
      have o5 := ne_ty b2 h2.rd.1 (by decide)
      exact k3.heap b2 (by simp; omega)
    have C4 := Hid.mk ((dend_ok w0 B P X G O g T d D W n l w3 s3 x3.2 h3 h1 h3.rd.2.2.2.1 hz).mono (R' := fun e w' => e = .returned (.tuple #[]) ∧ Hid (Dm w0 B P X G O g T d D W n l w' s3 (8 * l.length) ∧ w'.heap[Q]? = some (.cells #[.int .i64 0] 29 (0, 0))) ∧ w'.cell? ⟨Q, 0, none⟩ = some (.int .i64 0) ∧ w'.frozen? ⟨Q, 0, none⟩ = false) (by
      rintro e w' ⟨rfl, h4, k4⟩
      have o5 := ne_ty b3 h3.rd.1 (by decide)
      have b4 := k4.heap b3 (by simp; omega)
      obtain ⟨x, y⟩ := cells_one b4
      exact ⟨rfl, Hid.mk ⟨h4, b4⟩, x, y⟩))
    clear h3 k3 b3 hR hj hz h1 hl R2 C1
    go_wp2_with (first | (go_at_call 39; refine C4.out.mono ?_; rintro e w4 ⟨rfl, R4, z0, zf⟩))
    refine leaves_cons (f := 32) (args := #[.pointer (some ⟨Q, 0, none⟩)]) (by simp) (by simp [go_sem]) ?_
    refine (catch_idle ⟨Q, 0, none⟩ _).mono ?_
    rintro e u' w'' ⟨rfl, rfl, rfl⟩
    have h5 : Dm w0 B P X G O g T d D W n l (w4.setCell ⟨Q, 0, none⟩ (.int .i64 0)) s3 (8 * l.length) := by
      have h2 := R4.out.1
      have b2 := R4.out.2
      obtain ⟨cs, hr', hl', hc⟩ := h2.wm.row
      obtain ⟨ps, hp, _⟩ := h2.wm.md.blk
      have o1 := ne_ty h2.wm.blk b2 (by decide)
      have o2 := ne_ty hr' b2 (by decide)
      have o3 := ne_ty hp b2 (by decide)
      have o4 := ne_ty h2.wm.co.1 b2 (by decide)
      have o5 := ne_ty h2.rd.1 b2 (by decide)
      have o6 := ne_ty h2.rd.2.1 b2 (by decide)
      have k5 : Kept [Q] w4 (w4.setCell ⟨Q, 0, none⟩ (.int .i64 0)) := (Kept.refl _ _).setCell (by simp) _
      exact ⟨h2.wm.keep k5 (by simp; omega), reader_kept h2.rd k5 (by simp; omega) (by simp; omega), h2.keep.step k5 (by simp; omega), h2.tab, h2.lo⟩
    rw [HS.out] at h5
    simp [Leaves, settle, results, Tryd.results20, go_sem, z0]
    exact h5
  · exact hF.elim
end Go.Proofs.YtahoeodpjdbdkabDoor
