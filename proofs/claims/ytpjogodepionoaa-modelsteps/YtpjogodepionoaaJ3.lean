import Derived.Test.YtpjogodepionoaaJ1
import Derived.Test.YtpjogodepionoaaH5
import Derived.Test.YtpjogodepionoaaH6
import Derived.Test.YtpjogodepionoaaB4
import Derived.Test.YtpjogodepionoaaB5
import Derived.Test.YtpjogodepionoaaW1
import Derived.Handy
namespace Go.Proofs.Ytpjogodepionoaa
open Go.RowKit

set_option maxHeartbeats 4000000 in
theorem learnD_any (R g cap : Nat) (T d k q : Int) (L : Nat → Sx) (w : World) (M : Rd w R g cap T d L) :
    Calls Try.prog 32 #[.pointer (some ⟨R, 0, none⟩), .int .i64 k, .int .i64 q] w fun e w' => e = .returned (.tuple #[]) ∧ Rd w' R g cap T d (lL T d L k q) ∧ Kept [g] w w' := by
  unfold lL
  by_cases h : 0 ≤ k ∧ k < 365
  · rw [if_pos h]
    obtain ⟨n, rfl, hn⟩ := ctx_nat h
    rw [Int.toNat_natCast]
    exact learnD_yes R g cap n T d q L w M hn
  · rw [if_neg h]
    have K := Hid.mk (fun w => knownD_any k w)
    rw [decide_eq_false h] at K
    have HM := Hid.mk M
    clear h M
    go_enter Try.func32, Try.ntmps32
    go_wp2_with (go_at_call 54; refine (K.out _).mono ?_; rintro e w' ⟨rfl, rfl⟩)
    (try simp only [Exit.inBlock, Exit.then]); refine bodyPost_ret (results_none rfl _ _ _) rfl ?_
    exact ⟨rfl, HM.out, Kept.refl _ _⟩

set_option maxHeartbeats 4000000 in
theorem new_d (D d : Int) (w : World) (h1 : ¬ D = 10) (h2 : ¬ D = 12) : Calls Try.prog 24 #[.int .i64 D, .int .i64 d] w fun e w' => e = .returned (.tuple #[.pointer none, .int .i64 91]) ∧ w' = w := by
  have a1 : (D != 10) = true := by simpa using h1
  have a2 : (D != 12) = true := by simpa using h2
  clear h1 h2
  go_enter Try.func24, Try.ntmps24
  go_wp2
  go_ret2
  exact ⟨rfl, rfl⟩
set_option maxHeartbeats 4000000 in
theorem newD_d (D d : Int) (w : World) (h1 : ¬ D = 10) (h2 : ¬ D = 12) : Calls Try.prog 26 #[.int .i64 D, .int .i64 d] w fun e w' => e = .returned (.tuple #[.pointer none, .int .i64 91]) ∧ w' = w := by
  have a1 : (D != 10) = true := by simpa using h1
  have a2 : (D != 12) = true := by simpa using h2
  clear h1 h2
  go_enter Try.func26, Try.ntmps26
  go_wp2
  go_ret2
  exact ⟨rfl, rfl⟩
set_option maxHeartbeats 4000000 in
theorem new_t (D d : Int) (w : World) (hD : D = 10 ∨ D = 12) (h : d < 0 ∨ 63 < d) : Calls Try.prog 24 #[.int .i64 D, .int .i64 d] w fun e w' => e = .returned (.tuple #[.pointer none, .int .i64 92]) ∧ w' = w := by
  rcases hD with rfl | rfl <;> rcases h with h | h
  all_goals
    go_enter Try.func24, Try.ntmps24
    go_wp2
    go_ret2
    exact ⟨rfl, rfl⟩
set_option maxHeartbeats 4000000 in
theorem newD_t (D d : Int) (w : World) (hD : D = 10 ∨ D = 12) (h : d < 0 ∨ 63 < d) : Calls Try.prog 26 #[.int .i64 D, .int .i64 d] w fun e w' => e = .returned (.tuple #[.pointer none, .int .i64 92]) ∧ w' = w := by
  rcases hD with rfl | rfl <;> rcases h with h | h
  all_goals
    go_enter Try.func26, Try.ntmps26
    go_wp2
    go_ret2
    exact ⟨rfl, rfl⟩

/-- A pair: neither, or both, alike. -/
def Pq (w : World) (B : Nat) (m r : Value) (ks : List Nat) : Prop :=
  (m = .pointer none ∧ r = .pointer none ∧ ks = []) ∨ ∃ P R g cap T d L, m = .pointer (some ⟨P, 0, none⟩) ∧ r = .pointer (some ⟨R, 0, none⟩) ∧ ks = [P, R, g] ∧ Pg w B P R g cap T d L
theorem Pq.keep {w w' : World} {B : Nat} {m r : Value} {ks l : List Nat} (h : Pq w B m r ks) (hk : Kept l w w') (hd : ∀ x ∈ ks, x ∉ l) : Pq w' B m r ks := by
  rcases h with h | ⟨P, R, g, cap, T, d, L, h1, h2, h3, h4⟩
  · exact .inl h
  · subst h3
    exact .inr ⟨P, R, g, cap, T, d, L, h1, h2, rfl, h4.keep hk (hd P (by simp)) (hd R (by simp)) (hd g (by simp))⟩
theorem Pq.lt {w : World} {B : Nat} {m r : Value} {ks : List Nat} (h : Pq w B m r ks) : ∀ x ∈ ks, B ≤ x ∧ x < w.heap.size := by
  rcases h with ⟨_, _, h⟩ | ⟨P, R, g, cap, T, d, L, h1, h2, h3, h4⟩
  · subst h; simp
  · subst h3
    intro x hx
    simp at hx
    have a := h4.m.lt
    have b := lt_of_cell h4.r.sl
    have c : g < w.heap.size := by obtain ⟨cs, hb, _⟩ := h4.r.blk; exact lt_of_block hb
    rcases hx with rfl | rfl | rfl
    · exact ⟨h4.bp, a⟩
    · exact ⟨h4.br, b⟩
    · exact ⟨h4.bg, c⟩

/-- A struct and a Bool as results. -/
theorem results_two {fn : Func} {p u : Tmp} {ty : TypeId} (h : fn.results = #[.cell p ty, .tmp u]) (tmps : Array Value) (w : World) (g : Nat) (t : TypeId) (cs : Array Value) (fr : Nat × Nat) (fs : Array Field) (v : Value)
    (hp : tmps.getD p undef = .pointer (some ⟨g, 0, none⟩)) (hg : w.heap[g]? = some (.cells cs t fr))
    (hu : Try.prog.underlying ty = some (.struct fs)) (hi : (Try.prog.info? ty).map (·.size) = some cs.size) (hv : tmps.getD u undef = v) :
    (results fn tmps).run Try.prog w = .ok (.tuple #[.agg cs, v]) w := by
  rw [results_cell_tmp h, hp, hv]
  simp [asAddr, run_loadVar_row w g t ty cs fr _ hg hu rfl hi]

set_option maxHeartbeats 4000000 in
set_option maxRecDepth 1000000 in
theorem begins_any (D d : Int) (w : World) : Calls Try.prog 10 #[.int .i64 D, .int .i64 d] w fun e w' => ∃ m r ks, e = .returned (.tuple #[.agg #[m, r], .bool true]) ∧ Kept [] w w' ∧ Pq w' w.heap.size m r ks := by
  by_cases hD : D = 10 ∨ D = 12
  · by_cases hd : d < 0 ∨ 63 < d
    · have C1 := Hid.mk (fun w => new_t D d w hD hd)
      have C2 := Hid.mk (fun w => newD_t D d w hD hd)
      clear hD hd
      go_enter Try.func10, Try.ntmps10
      go_wp2_with (first | (go_at_call 24; refine (C1.out _).mono ?_; rintro e w1 ⟨rfl, rfl⟩) | (go_at_call 26; refine (C2.out _).mono ?_; rintro e w1 ⟨rfl, rfl⟩))
      go_returns
      exact ⟨_, _, [], rfl, (alloc_kept _ _), .inl ⟨rfl, rfl, rfl⟩⟩
    · obtain ⟨T, hT⟩ : ∃ T : Int, D = 10 ∧ T = 1023 ∨ D = 12 ∧ T = 4095 := by
        rcases hD with h | h
        · exact ⟨1023, .inl ⟨h, rfl⟩⟩
        · exact ⟨4095, .inr ⟨h, rfl⟩⟩
      have C1 : Hid (∀ w, Calls Try.prog 24 #[.int .i64 D, .int .i64 d] w fun e w' => ∃ P, e = .returned (.tuple #[.pointer (some ⟨P, 0, none⟩), .int .i64 0]) ∧ Md w' P T d (fun _ => sx0 T d) ∧ w.heap.size ≤ P ∧ Kept [] w w') := Hid.mk (fun w => by
        rcases hT with ⟨rfl, rfl⟩ | ⟨rfl, rfl⟩
        · exact new1023 d w (by omega) (by omega)
        · exact new4095 d w (by omega) (by omega))
      have C2 := Hid.mk (fun w => newD_at D T d w hT (by omega) (by omega))
      clear hD hd hT
      go_enter Try.func10, Try.ntmps10
      go_wp2_with (fail)
      obtain ⟨w1, hw1, k1, hb1⟩ := two_new w (.pointer none) (.pointer none) 29
      rw [hw1]
      clear hw1
      refine (C1.out w1).mono ?_
      rintro e w2 ⟨P, rfl, M, hP, k2⟩
      go_wp2_with (fail)
      refine (C2.out w2).mono ?_
      rintro e w3 ⟨R, g, cap, rfl, RD, hR, hg, k3⟩
      have hPl := M.lt
      have sz1 := k1.size
      have sz2 := k2.size
      have HP : Hid (Pg w3 w.heap.size P R g cap T d (fun _ => sx0 T d)) := Hid.mk ⟨M.keep k3 (by simp), RD, by omega, by omega, by omega, by omega, by omega⟩
      have hb3 := (k2.trans k3).heap hb1 (by simp)
      have ⟨b0, b1⟩ := two hb3
      have f0 := frozen_of_row w3 w.heap.size 0 _ 29 hb3
      have f1 := frozen_of_row w3 w.heap.size 1 _ 29 hb3
      have HK : Hid (Kept [] w w3) := Hid.mk ((k1.trans k2).trans k3)
      have HB := Hid.mk hb3
      have HL : Hid (w.heap.size < w1.heap.size) := Hid.mk (lt_of_block hb1)
      have HX : Hid (P ≠ w.heap.size ∧ R ≠ w.heap.size ∧ g ≠ w.heap.size) := Hid.mk (by have := HL.out; omega)
      clear M RD hP hR hg k1 k2 k3 hb1 hb3 hPl sz1 sz2
      go_wp2
      obtain ⟨w4, hw4, hb4, k4⟩ : ∃ w4, (w3.setCell ⟨w.heap.size, 0, none⟩ (.pointer (some ⟨P, 0, none⟩))).setCell ⟨w.heap.size, 1, none⟩ (.pointer (some ⟨R, 0, none⟩)) = w4 ∧ w4.heap[w.heap.size]? = some (.cells #[.pointer (some ⟨P, 0, none⟩), .pointer (some ⟨R, 0, none⟩)] 29 (0, 0)) ∧ Kept [w.heap.size] w3 w4 :=
        ⟨_, rfl, heap_setCell_at (heap_setCell_at HB.out), ((Kept.refl _ _).setCell (p := ⟨w.heap.size, 0, none⟩) (.inl (by simp)) _).setCell (p := ⟨w.heap.size, 1, none⟩) (.inl (by simp)) _⟩
      rw [hw4]
      have ⟨c0, c1⟩ := two hb4
      clear hw4 b0 b1 f0 f1
      refine bodyPost_ret (results_two rfl _ w4 w.heap.size 29 _ (0, 0) _ _ rfl hb4 Try.underlying29 (by kernel_rfl) rfl) rfl ?_
      exact ⟨_, _, [P, R, g], rfl, HK.out.step k4 (fun x hx => by simp at hx; subst hx; exact .inr (Nat.le_refl _)), .inr ⟨P, R, g, cap, T, d, _, rfl, rfl, rfl, HP.out.keep k4 (by simp; exact HX.out.1) (by simp; exact HX.out.2.1) (by simp; exact HX.out.2.2)⟩⟩
  · have C1 := Hid.mk (fun w => new_d D d w (by omega) (by omega))
    have C2 := Hid.mk (fun w => newD_d D d w (by omega) (by omega))
    clear hD
    go_enter Try.func10, Try.ntmps10
    go_wp2_with (first | (go_at_call 24; refine (C1.out _).mono ?_; rintro e w1 ⟨rfl, rfl⟩) | (go_at_call 26; refine (C2.out _).mono ?_; rintro e w1 ⟨rfl, rfl⟩))
    go_returns
    exact ⟨_, _, [], rfl, (alloc_kept _ _), .inl ⟨rfl, rfl, rfl⟩⟩

set_option maxHeartbeats 8000000 in
set_option maxRecDepth 1000000 in
theorem ended_any (B : Nat) (m r : Value) (ks : List Nat) (w : World) (h : Pq w B m r ks) :
    Calls Try.prog 12 #[.agg #[m, r]] w fun e w' => e = .returned (.bool true) ∧ Kept [] w w' := by
  rcases h with ⟨rfl, rfl, -⟩ | ⟨P, R, g, cap, T, d, L, rfl, rfl, -, h⟩
  · go_enter Try.func12, Try.ntmps12
    go_wp2
    go_ret
    exact ⟨rfl, alloc_kept _ _⟩
  · have HH := Hid.mk h
    have G := Hid.mk h.m.good
    clear h
    go_enter Try.func12, Try.ntmps12
    go_wp2_with (fail)
    obtain ⟨w1, hw1, k1, hb1⟩ := two_new w (.pointer (some ⟨P, 0, none⟩)) (.pointer (some ⟨R, 0, none⟩)) 29
    (try rw [hw1])
    clear hw1
    have ⟨b0, b1⟩ := two hb1
    have H1 := Hid.mk (HH.out.keep k1 (by simp) (by simp) (by simp))
    have C1 := Hid.mk (fun n => range_any P T d (w1.drewN n) (H1.out.m.hd.drewN n))
    have C2 := Hid.mk (fun n => rangeD_any R T d (w1.drewN n) (H1.out.r.hd.drewN n) G.out)
    have C3 := Hid.mk (fun n => wide_any P T d (w1.drewN n) (H1.out.m.hd.drewN n) G.out)
    have C4 := Hid.mk (fun n => wideD_any R T d (w1.drewN n) (H1.out.r.hd.drewN n) G.out)
    obtain ⟨wd, hwd⟩ : ∃ wd, wd = Lib.bitLen (rg T d - 1).toNat := ⟨_, rfl⟩
    rw [← hwd] at C3 C4
    clear hwd
    generalize rg T d = K at C1 C2
    have HB1 := Hid.mk hb1
    have HK1 := Hid.mk k1
    clear hb1 k1
    generalize w.heap.size = Q at *
    go_wp2_with (fail)
    go_quiet ((first | (go_at_call 18; exact Calls.quiet_of_same (C1.out _)) | (go_at_call 36; exact Calls.quiet_of (C2.out _)) | (go_at_call 25; exact Calls.quiet_of_same (C3.out _)) | (go_at_call 37; exact Calls.quiet_of (C4.out _))))
    obtain ⟨w2, hw2, HK2⟩ : ∃ w2, w1.drewN nq = w2 ∧ Hid (Kept [] w1 w2) := ⟨_, rfl, Hid.mk ((Kept.refl _ _).drewN _)⟩
    rw [hw2]
    clear hw2 C1 C2 C3 C4 b0 b1
    go_wp2
    go_loopw [3] (fun i wr => ∃ (k : Int), -1 ≤ k ∧ k ≤ 366 ∧ i = .int .i64 k ∧ Kept [] w1 wr) (fun i _ => (366 - intOf i).toNat)
    case atStart => exact ⟨-1, by omega, by omega, rfl, HK2.out⟩
    case round =>
      obtain ⟨k, h0, h1, rfl, hk⟩ := hrel
      by_cases hlt : k ≤ 365
      · have ⟨b0, b1⟩ := two (hk.heap HB1.out (by simp))
        have H2 := Hid.mk (H1.out.keep hk (by simp) (by simp) (by simp))
        have HK := Hid.mk hk
        clear hk
        go_wp2_with (fail)
        refine (pstats_any B P R g cap T d k L wr H2.out).mono ?_
        rintro e w3 ⟨rfl, k3⟩
        have H3 := Hid.mk (H2.out.keep k3 (by simp) (by simp) (by simp))
        have r1 : ∀ p : KW w3, p.u.cell? ⟨Q, 0, none⟩ = some (.pointer (some ⟨P, 0, none⟩)) := fun p => cell_keep p.h (cell_keep k3 b0 (by simp)) (by simp)
        have r2 : ∀ p : KW w3, p.u.cell? ⟨Q, 1, none⟩ = some (.pointer (some ⟨R, 0, none⟩)) := fun p => cell_keep p.h (cell_keep k3 b1 (by simp)) (by simp)
        have K1 : Hid (∀ p : KW w3, Calls Try.prog 23 #[.pointer (some ⟨P, 0, none⟩), .int .i64 k] p.u fun r w' => r = .returned (.int .i64 (po L k : Int)) ∧ ∃ p' : KW w3, w' = p'.u) := Hid.mk fun p => (param_any P k T d L p.u (H3.out.m.keep p.h (by simp))).mono fun r w' ⟨h1, h2⟩ => ⟨h1, ⟨w', p.h.trans h2⟩, rfl⟩
        have K2 : Hid (∀ p : KW w3, Calls Try.prog 31 #[.pointer (some ⟨R, 0, none⟩), .int .i64 k] p.u fun r w' => r = .returned (.int .i64 (po L k : Int)) ∧ ∃ p' : KW w3, w' = p'.u) := Hid.mk fun p => (paramD_any R g cap k T d L p.u (H3.out.r.keep p.h (by simp) (by simp))).mono fun r w' ⟨h1, m, h2⟩ => ⟨h1, ⟨w', by rw [h2]; exact p.h.drewN m⟩, rfl⟩
        have HK3 := Hid.mk (HK.out.trans k3)
        have NE : Nonempty (KW w3) := ⟨⟨w3, Kept.refl _ _⟩⟩
        clear k3 b0 b1
        go_wp2_with (fail)
        refine wp_region_kept (by kernel_rfl) (by kernel_rfl) ?_
        repeat (go_big_quiet_step ((first | (go_at_call 23; exact K1.out _) | (go_at_call 31; exact K2.out _))))
        refine wpQuiet_nil ?_
        rintro _ ⟨p, rfl⟩
        have HK4 := Hid.mk (HK3.out.trans p.h)
        generalize p.u = w4 at *
        clear NE r1 r2 K1 K2
        go_wp2
        go_roundw
        case rel => exact ⟨k + 1, by omega, by omega, by go_num, HK4.out⟩
        case measure => simp [intOf]; omega
      · go_wp2
        go_ret
        exact ⟨rfl, HK1.out.trans hk⟩

end Go.Proofs.Ytpjogodepionoaa
