import Derived.Test.YtiganmmacmhndaaGreatDoorFbZ
namespace Go.Proofs.YtiganmmacmhndaaGreatDoor
open Go.RowKit

/-- The raw samples, as they lie there. -/
def rawf (l : List Nat) (D : Int) : Nat → Int := fun i => (nextN l (8 + D.toNat * i) D.toNat : Int)
theorem rawf_in {l : List Nat} {D T : Int} (hD : Dp D T) (i : Nat) : 0 ≤ rawf l D i ∧ rawf l D i ≤ T := by
  have h := nextN_lt l (8 + D.toNat * i) D.toNat
  unfold rawf
  rcases hD with ⟨rfl, rfl⟩ | ⟨rfl, rfl⟩
  · have : (2 : Nat) ^ (Int.toNat 10) = 1024 := by decide
    omega
  · have : (2 : Nat) ^ (Int.toNat 12) = 4096 := by decide
    omega
theorem rawf_holds {l : List Nat} {D : Int} (h0 : nextN l 0 8 = 0) (k : Nat) (hk : 8 + D.toNat * k ≤ 8 * l.length) : Holds l (rwb D.toNat (rawf l D) k) := by
  induction k with
  | zero => exact ⟨by show 8 ≤ _; omega, h0⟩
  | succ k ih =>
    have hk' : 8 + D.toNat * k + D.toNat ≤ 8 * l.length := by rw [Nat.mul_succ] at hk; omega
    obtain ⟨i1, i2⟩ := ih (by omega)
    have e := rwb_len D.toNat (rawf l D) k
    have j := nextN_join l 0 (8 + D.toNat * k) D.toNat (by omega)
    rw [e] at i2
    refine ⟨by show (rwb D.toNat (rawf l D) k).2 + D.toNat ≤ _; rw [e]; exact hk', ?_⟩
    show nextN l 0 ((rwb D.toNat (rawf l D) k).2 + D.toNat) = (rwb D.toNat (rawf l D) k).1 * 2 ^ D.toNat + (rawf l D k).toNat
    rw [e, j, i2]
    rw [Nat.zero_add]
    unfold rawf
    rw [Int.toNat_natCast]

theorem rwk_in {l : List Nat} {D T d : Int} {n : Nat} (hG : Gd T d) (hD : Dp D T) : (rwk T d (rawf l D) n).In T := ⟨fun _ => sx0_fit T d hG, by show 0 ≤ 22; omega, fun i _ => rawf_in hD i⟩

/-- What read comes to. -/
def RdRes (T d D : Int) (W n : Nat) (l : List Nat) (E : Int) (s : Wk) : Prop :=
  (l.length = 0 ∧ E = 102) ∨ (1 ≤ l.length ∧ 2 ≤ nextN l 0 8 ∧ E = 102) ∨
  (1 ≤ l.length ∧ nextN l 0 8 = 0 ∧ 8 * l.length < 8 + D.toNat * n ∧ E = 102) ∨
  (1 ≤ l.length ∧ nextN l 0 8 = 0 ∧ 8 + D.toNat * n ≤ 8 * l.length ∧ s = rwk T d (rawf l D) n ∧ Fin l (8 + D.toNat * n) E) ∨
  (1 ≤ l.length ∧ nextN l 0 8 = 1 ∧ E = 102 ∧ ∃ s' x', Rch T d W n (dvr T d W l) (wk0 T d) 8 s' x' ∧ s'.In T ∧ Stk T d W n (dvr T d W l) s' x') ∨
  (1 ≤ l.length ∧ nextN l 0 8 = 1 ∧ s.t = n ∧ s.In T ∧ ∃ x', x' ≤ 8 * l.length ∧ Rch T d W n (dvr T d W l) (wk0 T d) 8 s x' ∧ Fin l x' E)

/-- What is left by read. -/
def RdPost (w0 : World) (B P X G O g : Nat) (T d D : Int) (W n : Nat) (l : List Nat) (e : Ending) (w' : World) : Prop :=
  ∃ E s, e = .returned (.int .i64 E) ∧ RdRes T d D W n l E s ∧ Kept [] w0 w' ∧ (E = 0 → (∃ t', Dm w0 B P X G O g T d D W n l w' s t') ∧ s.t = n ∧ s.In T)

/-- The cell of the result lies apart. -/
theorem apart_q {w0 w w' : World} {B P X G O g Q : Nat} {T d D : Int} {W n : Nat} {l : List Nat} {s : Wk} {t : Nat} {ks : List Nat} (h : Dm w0 B P X G O g T d D W n l w s t) (b : w.heap[Q]? = some (.cells #[.int .i64 0] 31 (0, 0))) (hk : Kept ks w w') (hs : ks ⊆ [B, P, X, G, O]) : w'.heap[Q]? = some (.cells #[.int .i64 0] 31 (0, 0)) := by
  obtain ⟨cs, hr', hl', hc⟩ := h.wm.row
  obtain ⟨ps, hp, _⟩ := h.wm.md.blk
  have o1 := ne_ty b h.wm.blk (by decide)
  have o2 := ne_ty b hr' (by decide)
  have o3 := ne_ty b hp (by decide)
  have o4 := ne_ty b h.wm.co.1 (by decide)
  have o5 := ne_ty b h.rd.1 (by decide)
  refine hk.heap b (fun hm => ?_)
  have := hs hm
  simp at this
  omega

theorem Dm.setq {w0 w : World} {B P X G O g Q : Nat} {T d D : Int} {W n : Nat} {l : List Nat} {s : Wk} {t : Nat} (h2 : Dm w0 B P X G O g T d D W n l w s t) (b2 : w.heap[Q]? = some (.cells #[.int .i64 0] 31 (0, 0))) (hQl : w0.heap.size ≤ Q) (v : Value) : Dm w0 B P X G O g T d D W n l (w.setCell ⟨Q, 0, none⟩ v) s t := by
  obtain ⟨cs, hr', hl', hc⟩ := h2.wm.row
  obtain ⟨ps, hp, _⟩ := h2.wm.md.blk
  have o1 := ne_ty h2.wm.blk b2 (by decide)
  have o2 := ne_ty hr' b2 (by decide)
  have o3 := ne_ty hp b2 (by decide)
  have o4 := ne_ty h2.wm.co.1 b2 (by decide)
  have o5 := ne_ty h2.rd.1 b2 (by decide)
  have o6 := ne_ty h2.rd.2.1 b2 (by decide)
  have k5 : Kept [Q] w (w.setCell ⟨Q, 0, none⟩ v) := (Kept.refl _ _).setCell (by simp) _
  exact ⟨h2.wm.keep k5 (by simp; omega), reader_kept h2.rd k5 (by simp; omega) (by simp; omega), h2.keep.step k5 (by simp; omega), h2.tab, h2.lo⟩

set_option maxHeartbeats 4000000 in
set_option maxRecDepth 1000000 in
/-- Whatever bytes are read. -/
theorem read_all (w0 : World) (B P X G O g : Nat) (T d D : Int) (W H n : Nat) (l : List Nat) (w : World) (hG : Gd T d) (hD : Dp D T) (hn : n ≤ 4194304) (hW : 1 ≤ W) (hW2 : W ≤ 4096) (hWH : n = W * H)
    (h : Dm w0 B P X G O g T d D W n l w (wk0 T d) 0) :
    Calls Tryz.prog 66 #[.pointer (some ⟨B, 0, none⟩)] w fun e w' => RdPost w0 B P X G O g T d D W n l e w' := by
  have hmf : ∀ (fn : Fn) (first cap : Array Value) (w : World), (Instr.makeFunc fn first cap).run Tryz.prog w = .ok (.func fn first cap) w := fun _ _ _ _ => rfl
  obtain ⟨w1, hw1, k1⟩ : ∃ w1, w.alloc (.cells #[.int .i64 0] 31 (0, 0)) = w1 ∧ Kept [] w w1 := ⟨_, rfl, alloc_kept _ _⟩
  have b1 : w1.heap[w.heap.size]? = some (.cells #[.int .i64 0] 31 (0, 0)) := by rw [← hw1]; exact heap_alloc_new _ _
  obtain ⟨Q, hQ⟩ : ∃ Q, w.heap.size = Q := ⟨_, rfl⟩
  rw [hQ] at b1
  have H1 := h.kp k1
  have c6 := dext_cell H1.wm
  have hQl : w0.heap.size ≤ Q := by rw [← hQ]; exact h.keep.size
  -- a panic is caught
  have CC : Hid (∀ (fn : Func) (tm : Array Value) (E : Int) (W' : World), (results fn tm).run Tryz.prog (W'.setCell ⟨Q, 0, none⟩ (.int .i64 E)) = .ok (.int .i64 E) (W'.setCell ⟨Q, 0, none⟩ (.int .i64 E)) → W'.heap[Q]? = some (.cells #[.int .i64 0] 31 (0, 0)) → Kept [] w0 W' → E ≠ 0 → (∃ s, RdRes T d D W n l E s) →
      Leaves Tryz.prog fn tm (RdPost w0 B P X G O g T d D W n l) [{ target := .fn (.func 91) #[.pointer (some ⟨Q, 0, none⟩)], args := #[] }] (.panicking (pnc E)) W') := Hid.mk (by
    intro fn tm E W' hres hb hk hE ⟨s, hs⟩
    obtain ⟨z0, zf⟩ := cells_one hb
    refine leaves_cons (f := 91) (args := #[.pointer (some ⟨Q, 0, none⟩)]) (by simp) (by simp [go_sem]) ?_
    refine (catch_caught ⟨Q, 0, none⟩ E W' z0 zf).mono ?_
    rintro e u' w'' ⟨rfl, hu, rfl⟩
    have k5 : Kept [Q] W' (W'.setCell ⟨Q, 0, none⟩ (.int .i64 E)) := (Kept.refl _ _).setCell (by simp) _
    show Leaves _ _ _ _ [] (settle u') _
    rw [hu]
    exact ⟨_, hres, E, s, rfl, hs, hk.step k5 (by simp; omega), fun h => absurd h hE⟩)
  have HW1 := Hid.mk (And.intro H1 b1)
  clear h H1 k1 b1
  by_cases hlen : l.length = 0
  · have C1 := Hid.mk ((get_end O g l 0 8 w1 HW1.out.1.rd (by omega) (by omega) (by rw [hlen]; decide)).mono (R' := fun e w' => e = .returned (.tuple #[.int .u32 0, .int .i64 13]) ∧ Hid (Kept [] w0 w' ∧ w'.heap[Q]? = some (.cells #[.int .i64 0] 31 (0, 0)))) (by
      rintro e w' ⟨rfl, q, rfl⟩
      have kq : Kept [] w1 (w1.drewN q) := (Kept.refl _ _).drewN q
      exact ⟨rfl, Hid.mk ⟨HW1.out.1.keep.trans kq, kq.heap HW1.out.2 (by simp)⟩⟩))
    go_enter_defers Tryz.func66, Tryz.ntmps66
    go_wp2_with (first | (go_at_call 93; refine C1.out.mono ?_; rintro e w2 ⟨rfl, R2⟩) | (go_at_call 92; refine (takenU_no _ _ _ (by decide)).mono ?_; rintro e w3 ⟨rfl, hw3⟩; obtain rfl := hw3.symm))
    obtain ⟨z0, -⟩ := cells_one R2.out.2
    exact CC.out Tryz.f66 _ 102 w2 (by simp [results, Tryz.results66, go_sem, z0]) R2.out.2 R2.out.1 (by decide) ⟨wk0 T d, .inl ⟨hlen, rfl⟩⟩
  · have hl1 : 1 ≤ l.length := by omega
    obtain ⟨c, hc⟩ : ∃ c, nextN l 0 8 = c := ⟨_, rfl⟩
    have C1 := Hid.mk ((get_any O g l 0 8 w1 HW1.out.1.rd (by omega) (by omega) (by omega)).mono (R' := fun e w' => e = .returned (.tuple #[.int .u32 (c : Int), .int .i64 0]) ∧ Hid (Dm w0 B P X G O g T d D W n l w' (wk0 T d) 8 ∧ w'.heap[Q]? = some (.cells #[.int .i64 0] 31 (0, 0)))) (by
      rintro e w' ⟨rfl, hrd, hkk⟩
      have H1 := HW1.out.1
      have b1 := HW1.out.2
      obtain ⟨cs, hr', hl', hcc⟩ := H1.wm.row
      obtain ⟨ps, hp, _⟩ := H1.wm.md.blk
      have o1 := ne_ty H1.rd.1 H1.wm.blk (by decide)
      have o2 := ne_ty H1.rd.1 hr' (by decide)
      have o3 := ne_ty H1.rd.1 hp (by decide)
      have o4 := ne_ty H1.rd.1 H1.wm.co.1 (by decide)
      have o5 := ne_ty H1.rd.1 b1 (by decide)
      have hlo := H1.lo
      have e8 : nextN l 0 (Int.toNat 8) = c := hc
      have hm' : Wm w' B P X G 126 T d D W n (dext O) (wk0 T d) := H1.wm.keep hkk (by simp; omega)
      rw [e8]
      exact ⟨rfl, Hid.mk ⟨⟨hm', hrd, H1.keep.step hkk (fun y hy => by right; simp at hy; omega), H1.tab, H1.lo⟩, hkk.heap b1 (by simp; omega)⟩⟩))
    have HC := Hid.mk (And.intro hl1 hc)
    clear hc
    rcases (show c = 0 ∨ c = 1 ∨ 2 ≤ c by omega) with rfl | rfl | hc2
    · go_enter_defers Tryz.func66, Tryz.ntmps66
      go_wp2_with (first | (go_at_call 93; refine C1.out.mono ?_; rintro e w2 ⟨rfl, R2⟩) | (go_at_call 92; refine (takenU_ok _ _).mono ?_; rintro e w3 ⟨rfl, hw3⟩; obtain rfl := hw3.symm))
      have h2 : Dm w0 B P X G O g T d D W n l w2 (rwk T d (rawf l D) 0) 8 := by
        obtain ⟨a1, a2, a3, a4, a5⟩ := R2.out.1
        exact ⟨a1.congr (rawf l D) (fun i hi => by have : i < 0 := hi; omega), a2, a3, a4, a5⟩
      by_cases hsh : 8 * l.length < 8 + D.toNat * n
      · refine (samples_no w0 B P X G O g T d D W n l (rawf l D) w2 hD hn (fun i => rawf_in hD i) (fun k hk => rawf_holds HC.out.2 k hk) hsh h2).mono ?_
        rintro e w3 ⟨rfl, k3⟩
        have b3 := apart_q h2 R2.out.2 k3 (List.Subset.refl _)
        have hlo := h2.lo
        obtain ⟨z0, -⟩ := cells_one b3
        go_wp2
        exact CC.out Tryz.f66 _ 102 w3 (by simp [results, Tryz.results66, go_sem, z0]) b3 (h2.keep.step k3 (fun y hy => by right; simp at hy; omega)) (by decide) ⟨wk0 T d, .inr (.inr (.inl ⟨HC.out.1, HC.out.2, hsh, rfl⟩))⟩
      · refine (samples_ok w0 B P X G O g T d D W n l (rawf l D) w2 hD hn (fun i => rawf_in hD i) (rawf_holds HC.out.2 n (by omega)) h2).mono ?_
        rintro e w3 ⟨rfl, h3, k3⟩
        have b3 := apart_q h2 R2.out.2 k3 (List.Subset.refl _)
        have C4 := Hid.mk ((dend_any w0 B P X G O g T d D W n l w3 (rwk T d (rawf l D) n) (8 + D.toNat * n) h3 h3.rd.2.2.2.1).mono (R' := fun e w' => ((e = .returned (.tuple #[]) ∧ Hid (Fin l (8 + D.toNat * n) 0)) ∨ ∃ E, e = .panicked (pnc E) ∧ Hid (Fin l (8 + D.toNat * n) E ∧ E ≠ 0)) ∧ Hid ((∃ t', Dm w0 B P X G O g T d D W n l w' (rwk T d (rawf l D) n) t') ∧ w'.heap[Q]? = some (.cells #[.int .i64 0] 31 (0, 0))) ∧ w'.cell? ⟨Q, 0, none⟩ = some (.int .i64 0) ∧ w'.frozen? ⟨Q, 0, none⟩ = false) (by
          rintro e w' ⟨ho, h4, k4⟩
          have b4 := apart_q h3 b3 k4 (by simp)
          obtain ⟨x, y⟩ := cells_one b4
          refine ⟨?_, Hid.mk ⟨h4, b4⟩, x, y⟩
          rcases ho with ⟨rfl, hF⟩ | ⟨E, rfl, hF, hE⟩
          · exact .inl ⟨rfl, Hid.mk hF⟩
          · exact .inr ⟨E, rfl, Hid.mk ⟨hF, hE⟩⟩))
        have HX := Hid.mk (And.intro h3 b3)
        clear h3 k3 b3 R2 C1
        go_wp2_with (fail)
        refine C4.out.mono ?_
        rintro e w4 ⟨⟨rfl, hF⟩ | ⟨E, rfl, hF⟩, R4, z0, zf⟩
        · go_wp2
          refine leaves_cons (f := 91) (args := #[.pointer (some ⟨Q, 0, none⟩)]) (by simp) (by simp [go_sem]) ?_
          refine (catch_idle ⟨Q, 0, none⟩ _).mono ?_
          rintro e u' w'' ⟨rfl, rfl, rfl⟩
          obtain ⟨⟨t', h4⟩, b4⟩ := R4.out
          have h5 := h4.setq b4 hQl (.int .i64 0)
          simp [Leaves, settle, results, Tryz.results66, go_sem, z0]
          exact ⟨0, (rwk T d (rawf l D) n), rfl, .inr (.inr (.inr (.inl ⟨HC.out.1, HC.out.2, by omega, rfl, hF.out⟩))), h5.keep, fun _ => ⟨⟨t', h5⟩, rfl, rwk_in hG hD⟩⟩
        · go_wp2
          obtain ⟨⟨t', h4⟩, b4⟩ := R4.out
          exact CC.out Tryz.f66 _ E w4 (by simp [results, Tryz.results66, go_sem, z0]) b4 h4.keep hF.out.2 ⟨(rwk T d (rawf l D) n), .inr (.inr (.inr (.inl ⟨HC.out.1, HC.out.2, by omega, rfl, hF.out.1⟩)))⟩
    · go_enter_defers Tryz.func66, Tryz.ntmps66
      go_wp2_with (first | (go_at_call 93; refine C1.out.mono ?_; rintro e w2 ⟨rfl, R2⟩) | (go_at_call 92; refine (takenU_ok _ _).mono ?_; rintro e w3 ⟨rfl, hw3⟩; obtain rfl := hw3.symm))
      refine (through38 B P X G 126 T d D W H n (dext O) (dvr T d W l) (fun w s x => Dm w0 B P X G O g T d D W n l w s x ∧ Kept [B, P, X, G, O] w2 w) (fun w' pc => pc = pnc 102 ∧ Kept [B, P, X, G, O] w2 w') hD hG hn hW hW2 hWH (wk0 T d) 8 (dhndA w0 w2 B P X G O g T d D W n l hG hW hW2 _) w2 ⟨R2.out.1, Kept.refl _ _⟩ (wk0_in hG) (by show 0 ≤ n; omega)).mono ?_
      rintro e w3 (⟨rfl, s3, x3, hR, ht, hin, h3, k3⟩ | ⟨pc, s3, x3, rfl, hR, hin, hS, rfl, k3⟩)
      · have b3 := apart_q R2.out.1 R2.out.2 k3 (List.Subset.refl _)
        have hx3 := h3.rd.2.2.2.1
        have C4 := Hid.mk ((dend_any w0 B P X G O g T d D W n l w3 s3 x3 h3 h3.rd.2.2.2.1).mono (R' := fun e w' => ((e = .returned (.tuple #[]) ∧ Hid (Fin l x3 0)) ∨ ∃ E, e = .panicked (pnc E) ∧ Hid (Fin l x3 E ∧ E ≠ 0)) ∧ Hid ((∃ t', Dm w0 B P X G O g T d D W n l w' s3 t') ∧ w'.heap[Q]? = some (.cells #[.int .i64 0] 31 (0, 0))) ∧ w'.cell? ⟨Q, 0, none⟩ = some (.int .i64 0) ∧ w'.frozen? ⟨Q, 0, none⟩ = false) (by
          rintro e w' ⟨ho, h4, k4⟩
          have b4 := apart_q h3 b3 k4 (by simp)
          obtain ⟨x, y⟩ := cells_one b4
          refine ⟨?_, Hid.mk ⟨h4, b4⟩, x, y⟩
          rcases ho with ⟨rfl, hF⟩ | ⟨E, rfl, hF, hE⟩
          · exact .inl ⟨rfl, Hid.mk hF⟩
          · exact .inr ⟨E, rfl, Hid.mk ⟨hF, hE⟩⟩))
        have HX := Hid.mk (And.intro h3 b3)
        clear h3 k3 b3 R2 C1
        go_wp2_with (fail)
        refine C4.out.mono ?_
        rintro e w4 ⟨⟨rfl, hF⟩ | ⟨E, rfl, hF⟩, R4, z0, zf⟩
        · go_wp2
          refine leaves_cons (f := 91) (args := #[.pointer (some ⟨Q, 0, none⟩)]) (by simp) (by simp [go_sem]) ?_
          refine (catch_idle ⟨Q, 0, none⟩ _).mono ?_
          rintro e u' w'' ⟨rfl, rfl, rfl⟩
          obtain ⟨⟨t', h4⟩, b4⟩ := R4.out
          have h5 := h4.setq b4 hQl (.int .i64 0)
          simp [Leaves, settle, results, Tryz.results66, go_sem, z0]
          exact ⟨0, s3, rfl, .inr (.inr (.inr (.inr (.inr ⟨HC.out.1, HC.out.2, ht, hin, x3, hx3, hR, hF.out⟩)))), h5.keep, fun _ => ⟨⟨t', h5⟩, ht, hin⟩⟩
        · go_wp2
          obtain ⟨⟨t', h4⟩, b4⟩ := R4.out
          exact CC.out Tryz.f66 _ E w4 (by simp [results, Tryz.results66, go_sem, z0]) b4 h4.keep hF.out.2 ⟨s3, .inr (.inr (.inr (.inr (.inr ⟨HC.out.1, HC.out.2, ht, hin, x3, hx3, hR, hF.out.1⟩))))⟩
      · have b3 := apart_q R2.out.1 R2.out.2 k3 (List.Subset.refl _)
        have hlo := R2.out.1.lo
        obtain ⟨z0, -⟩ := cells_one b3
        go_wp2
        exact CC.out Tryz.f66 _ 102 w3 (by simp [results, Tryz.results66, go_sem, z0]) b3 (R2.out.1.keep.step k3 (fun y hy => by right; simp at hy; omega)) (by decide) ⟨wk0 T d, .inr (.inr (.inr (.inr (.inl ⟨HC.out.1, HC.out.2, rfl, s3, x3, hR, hin, hS⟩))))⟩
    · have h0 : ((c : Int) == 0) = false := by simp; omega
      have h1 : ((c : Int) == 1) = false := by simp; omega
      go_enter_defers Tryz.func66, Tryz.ntmps66
      go_wp2_with (first | (go_at_call 93; refine C1.out.mono ?_; rintro e w2 ⟨rfl, R2⟩) | (go_at_call 92; refine (takenU_ok _ _).mono ?_; rintro e w3 ⟨rfl, hw3⟩; obtain rfl := hw3.symm))
      obtain ⟨z0, -⟩ := cells_one R2.out.2
      exact CC.out Tryz.f66 _ 102 w2 (by simp [results, Tryz.results66, go_sem, z0]) R2.out.2 R2.out.1.keep (by decide) ⟨wk0 T d, .inr (.inl ⟨HC.out.1, by rw [HC.out.2]; exact hc2, rfl⟩)⟩
end Go.Proofs.YtiganmmacmhndaaGreatDoor

namespace Go.Proofs.YtiganmmacmhndaaGreatDoor
open Go.RowKit

/-- A block that is none, with an error. -/
abbrev noBlk (E : Int) : Ending := .returned (.tuple #[.agg #[.int .i64 0, .int .i64 0, .slice none 0 0], .int .i64 E])

theorem build24 : ∀ w : World, (Instr.build 53 #[]).run Tryz.prog w = .ok (.agg #[.int .i64 0, .int .i64 0, .slice none 0 0]) w := fun _ => by kernel_rfl

set_option maxHeartbeats 8000000 in
set_option maxRecDepth 1000000 in
/-- Decode of whatever bytes. -/
theorem Decode_all (W H n : Nat) (ao : Option Addr) (cap m : Nat) (l : List Nat) (D T d : Int) (w : World) (hr : Reads w ao l) (hby : Byts l) (hm : l.length = m) (hl : m ≤ 281474976710656) (hT : Tab w) (hz : szd (W : Int) (H : Int) = true) (hn : n = W * H) (hD : Dp D T) (d0 : 0 ≤ d) (d1 : d ≤ 63) :
    Calls Tryz.prog 33 #[.slice ao m cap, .int .i64 (W : Int), .int .i64 (H : Int), .int .i64 D, .int .i64 d] w fun e w' => ∃ E s, RdRes T d D W n l E s ∧ Kept [] w w' ∧ ((E ≠ 0 ∧ e = noBlk E) ∨ (E = 0 ∧ ∃ G, e = .returned (.tuple #[.agg #[.int .i64 (W : Int), .int .i64 (H : Int), .slice (some ⟨G, 0, none⟩) n n], .int .i64 0]) ∧ w.heap.size ≤ G ∧ Smp w' G 0 n s.b ∧ s.t = n ∧ s.In T)) := by
  have hb := szd_in hz
  have hcst : (W : Int) * H = (n : Int) := by rw [hn]; simp
  rw [hcst] at hb
  have HN := Hid.mk hn
  obtain ⟨w1, hw1, k1, b1⟩ := three_new w (.int .i64 0) (.int .i64 0) (.slice none 0 0) 53
  obtain ⟨Q, hQ⟩ : ∃ Q, w.heap.size = Q := ⟨_, rfl⟩
  rw [hQ] at b1
  have HQ := Hid.mk hQ
  have C1 := Hid.mk (newm_any D T d hD w1 d0 d1)
  have C2 := Hid.mk (fun W' => sized_any (W : Int) (H : Int) W')
  rw [hz] at C2
  have HT := Hid.mk hT
  have HRd := Hid.mk (hr.keep k1)
  have K1 := Hid.mk k1
  have B1 := Hid.mk b1
  have HD := Hid.mk hD
  have hbl := build24
  clear hn hT hr k1 b1 hz hcst hD
  go_enter Tryz.func33, Tryz.ntmps33
  go_wp2_with (fail)
  refine C1.out.mono ?_
  rintro e w2 ⟨P, rfl, m2, hP, k2⟩
  have K2 := Hid.mk k2
  have M2 := Hid.mk m2
  have HP := Hid.mk hP
  clear k2 m2 hP C1
  go_wp2_with (fail)
  refine (C2.out _).mono ?_
  rintro e w3 ⟨rfl, hw3⟩
  obtain rfl := hw3.symm
  clear hw3 C2
  go_wp2_with (fail)
  refine (newWalk_any P W H n D w2 (by omega) (by omega) HN.out.symm).mono ?_
  rintro e w4 ⟨X, G, rfl, a1, a2, a3, a4, k4⟩
  have R4 := Hid.mk (And.intro a1 (And.intro a2 (And.intro (Nat.le_trans K2.out.size a3) (And.intro (Nat.le_trans K2.out.size a4) k4))))
  clear a1 a2 a3 a4 k4
  go_wp2_with (fail)
  refine (newDecoder_any ao cap m l n P X G W D w4 ((HRd.out.keep K2.out).keep R4.out.2.2.2.2) hby hm hl).mono ?_
  rintro e w5 ⟨B, O, g, rfl, b1, b2, b3, b4, b5, b6⟩
  obtain ⟨a1, a2, a3, a4, k4⟩ := R4.out
  have hs4 : w1.heap.size ≤ w4.heap.size := (K2.out.trans k4).size
  have h5 : Dm w1 B P X G O g T d D W n l w5 (wk0 T d) 0 := by
    refine ⟨⟨b1, M2.out.keep (k4.trans b6) (by simp), a1.kept b6 (by simp), ⟨_, b6.heap a2 (by simp), by simp, fun i hi => ?_⟩, .inr rfl⟩, b2, K2.out.trans (k4.trans b6), HT.out.kept K1.out (by simp), by omega, HP.out, a3, a4, by omega, by omega⟩
    have : i < 0 := hi
    omega
  have C5 := Hid.mk (read_all w1 B P X G O g T d D W H n l w5 (HD.out.gd d0 d1) HD.out (by omega) (by omega) (by omega) HN.out h5)
  clear b1 b2 b3 b4 b5 b6 h5 a1 a2 a3 a4 k4 hs4
  go_wp2_with (fail)
  refine C5.out.mono ?_
  rintro e w6 ⟨E, s, rfl, hres, hk6, h6⟩
  have B6 := Hid.mk (hk6.heap B1.out (by simp))
  have K6 := Hid.mk hk6
  have HR := Hid.mk hres
  obtain ⟨z0, z1, z2, zf⟩ := cells_three B6.out
  have zf0 := zf 0
  have zf1 := zf 1
  have zf2 := zf 2
  have hs1 := K1.out.size
  have hQs := HQ.out
  by_cases hE : E = 0
  · subst hE
    obtain ⟨⟨t', h7⟩, hst, hin⟩ := h6 rfl
    have c4 := h7.wm.fact.c4
    have H6 := Hid.mk (And.intro h7 (And.intro hst hin))
    clear h6 h7 zf C5 hres hk6 hst hin
    go_wp2
    have k7 : Kept [Q] w6 (((w6.setCell ⟨Q, 0, none⟩ (.int .i64 (W : Int))).setCell ⟨Q, 1, none⟩ (.int .i64 (H : Int))).setCell ⟨Q, 2, none⟩ (.slice (some ⟨G, 0, none⟩) n n)) :=
      (((Kept.refl [Q] w6).setCell (p := ⟨Q, 0, none⟩) (by simp) _).setCell (p := ⟨Q, 1, none⟩) (by simp) _).setCell (p := ⟨Q, 2, none⟩) (by simp) _
    obtain ⟨h7, hst, hin⟩ := H6.out
    have hlo := h7.lo
    have hsm : Smp w6 G 0 n s.b := fun i hi => by
      rw [Nat.zero_add]
      exact h7.wm.cel i (by omega)
    have hQG : Q < w1.heap.size := lt_of_block B1.out
    refine bodyPost_ret (v := .tuple #[.agg #[.int .i64 (W : Int), .int .i64 (H : Int), .slice (some ⟨G, 0, none⟩) n n], .int .i64 0]) (by simp [results, Tryz.results33, go_sem, z0, z1, z2]) rfl ⟨0, s, HR.out, (K1.out.trans K6.out).step k7 (by simp; omega), .inr ⟨rfl, G, rfl, by omega, hsm.keep k7 (by simp; omega), hst, hin⟩⟩
  · have hx' : (E != 0) = true := by simp; exact hE
    have hx2 : (E == 0) = false := by simp; exact hE
    clear h6 zf C5 hres hk6
    go_wp2
    have k7 : Kept [Q] w6 (((w6.setCell ⟨Q, 0, none⟩ (.int .i64 0)).setCell ⟨Q, 1, none⟩ (.int .i64 0)).setCell ⟨Q, 2, none⟩ (.slice none 0 0)) :=
      (((Kept.refl [Q] w6).setCell (p := ⟨Q, 0, none⟩) (by simp) _).setCell (p := ⟨Q, 1, none⟩) (by simp) _).setCell (p := ⟨Q, 2, none⟩) (by simp) _
    refine bodyPost_ret (v := .tuple #[.agg #[.int .i64 0, .int .i64 0, .slice none 0 0], .int .i64 E]) (by simp [results, Tryz.results33, go_sem, z0, z1, z2]) rfl ⟨E, s, HR.out, (K1.out.trans K6.out).step k7 (by simp; omega), .inl ⟨hE, rfl⟩⟩
end Go.Proofs.YtiganmmacmhndaaGreatDoor
