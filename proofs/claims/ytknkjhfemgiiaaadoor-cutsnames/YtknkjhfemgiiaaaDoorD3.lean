import Derived.Test.YtknkjhfemgiiaaaDoorD2
namespace Go.Proofs.YtknkjhfemgiiaaaDoor
open Go.RowKit Go.Lib

/-- What reading a text comes to. -/
def RdP (l : Int) (s : ByteArray) (e : Ending) : Prop :=
  (Gd l s ∧ e = .returned (.tuple #[pv (fv s 11 0) (fv s 11 1) (fv s 11 2) (fv s 11 3), .int .i64 0, .int .i64 0])) ∨
  ∃ k : Nat, Bd l s k ∧ e = .returned (.tuple #[pv 0 0 0 0, .int .i64 k, .int .i64 182])

theorem Rs.put {w wa wc : World} {c a b l : Int} {s : ByteArray} {k : Nat} {x : Int}
    (h : Kept [] w wa ∧ wa.heap[w.heap.size]? = some (.cells #[.int .i64 c, .int .i64 a, .int .i64 b, .int .i64 l] 116 (0, 0)) ∧ wa.heap[w.heap.size + 1]? = some (.cells #[.int .i64 0, .int .i64 0, .int .i64 0, .int .i64 0] 122 (0, 0)) ∧ wa.heap[w.heap.size + 2]? = some (.cells #[.int .i64 (fv s k 0), .int .i64 (fv s k 1), .int .i64 (fv s k 2), .int .i64 (fv s k 3)] 152 (0, 0)) ∧ wa.heap[w.heap.size + 3]? = some (.stringIter s (k + 1)))
    (hk : Kept [] wa wc) (h11 : k < 11) (hd : k % 3 < 2) (hx : x = fv s (k + 1) (k / 3)) : Rs w (wc.setCell ⟨w.heap.size + 2, k / 3, none⟩ (.int .i64 x)) c a b l s (k + 1) := by
  obtain ⟨h1, h2, h3, h4, h5⟩ := h
  have ks : Kept [w.heap.size + 2] wc (wc.setCell ⟨w.heap.size + 2, k / 3, none⟩ (.int .i64 x)) := (Kept.refl _ _).setCell (.inl (by simp)) _
  refine ⟨(h1.trans hk).setCell (.inr (Nat.le_add_right _ _)) _, ks.heap (hk.heap h2 (by simp)) (by simp), ks.heap (hk.heap h3 (by simp)) (by simp), ?_, ks.heap (hk.heap h5 (by simp)) (by simp)⟩
  rw [heap_setCell_at (hk.heap h4 (by simp)), fset s k h11 hd x hx]
theorem Rs.go {w wa wc : World} {c a b l : Int} {s : ByteArray} {k : Nat}
    (h : Kept [] w wa ∧ wa.heap[w.heap.size]? = some (.cells #[.int .i64 c, .int .i64 a, .int .i64 b, .int .i64 l] 116 (0, 0)) ∧ wa.heap[w.heap.size + 1]? = some (.cells #[.int .i64 0, .int .i64 0, .int .i64 0, .int .i64 0] 122 (0, 0)) ∧ wa.heap[w.heap.size + 2]? = some (.cells #[.int .i64 (fv s k 0), .int .i64 (fv s k 1), .int .i64 (fv s k 2), .int .i64 (fv s k 3)] 152 (0, 0)) ∧ wa.heap[w.heap.size + 3]? = some (.stringIter s (k + 1)))
    (hk : Kept [] wa wc) (hd : k % 3 = 2) : Rs w wc c a b l s (k + 1) := by
  obtain ⟨h1, h2, h3, h4, h5⟩ := h
  refine ⟨h1.trans hk, hk.heap h2 (by simp), hk.heap h3 (by simp), ?_, hk.heap h5 (by simp)⟩
  rw [hk.heap h4 (by simp), fv_same s k 0 (.inr hd), fv_same s k 1 (.inr hd), fv_same s k 2 (.inr hd), fv_same s k 3 (.inr hd)]

set_option maxHeartbeats 8000000 in
set_option maxRecDepth 1000000 in
theorem read_any (c a b l : Int) (s : ByteArray) (w : World) (hs : s.size ≤ maxLen) : Calls Tryd.prog 66 #[pv c a b l, .string s] w fun e w' => RdP l s e ∧ Kept [] w w' := by
  unfold maxLen at hs
  have hR0 := Rs.start w c a b l s
  have HR0 := Hid.mk hR0
  clear hR0
  go_enter Tryd.func66, Tryd.ntmps66
  go_wp2
  go_loopw [8, 9] (fun _ _ wr => ∃ k : Nat, k ≤ 11 ∧ k ≤ s.size ∧ (∀ i, i < k → Ok l s i) ∧ Rs w wr c a b l s k) (fun _ _ wr => s.size - wr.iterPos (w.heap.size + 3))
  case atStart => exact ⟨0, by omega, by omega, fun i hi => by omega, HR0.out⟩
  case round =>
    obtain ⟨k, hk11, hks, hok, R⟩ := hrel
    clear HR0
    by_cases hlt : k < s.size
    · obtain ⟨r, d, hnx, hoc, hod⟩ := next_rune wr (w.heap.size + 3) s k l R.it hlt
      obtain ⟨n1, n2, n3, n4, n5⟩ := R.next d
      have ip := iterPos_of R.it
      have HI := Hid.mk ip
      have HR := Hid.mk R
      have HO := Hid.mk hok
      obtain ⟨wa, ewa⟩ : ∃ wa, wr.iterAt (w.heap.size + 3) s (k + d) = wa := ⟨_, rfl⟩
      simp only [ewa] at hnx n1 n2 n3 n4 n5
      have CS := Hid.mk (fun u => stands_any c a b l k r u (by omega) (by omega))
      have CD := Hid.mk (fun u => digitAt_any k u (by omega) (by omega))
      obtain ⟨x0, x1, x2, x3⟩ := four_of n2
      have HN := Hid.mk (And.intro n1 (And.intro n2 (And.intro n3 (And.intro n4 n5))))
      clear ip R hok n1 n2 n3 n4 n5 ewa
      by_cases hgo : k < 11 ∧ okc l k r = true
      · have t1 : (decide ((k : Int) < 11) && okc l k r) = true := by simp [hgo.2]; omega
        rw [t1] at CS
        obtain ⟨rfl, rfl⟩ : r = bt s k ∧ d = 1 := hod hgo.2
        have hokk : Ok l s k := ⟨hgo.1, hlt, hgo.2⟩
        have HO2 : Hid (∀ i, i < k + 1 → Ok l s i) := Hid.mk fun i hi => by
          by_cases h : i = k
          · rw [h]; exact hokk
          · exact HO.out i (by omega)
        have hk1 := hgo.1
        clear t1 hoc hod
        by_cases hd : k % 3 < 2
        · have t2 : decide ((k : Int) % 3 < 2) = true := by simp; omega
          rw [t2] at CD
          have hbt := ok_dig hokk hd
          have hfn := fv_next s k hd
          have hfb := fv_bd HO.out (k / 3)
          obtain ⟨r, er⟩ : ∃ r, bt s k = r := ⟨_, rfl⟩
          rw [er] at hnx CS hfn hbt
          obtain ⟨J, eJ⟩ : ∃ J, k / 3 = J := ⟨_, rfl⟩
          have hJ : J < 4 := by omega
          have hJ2 : (J : Int) < 4 := by omega
          have hq : (k : Int) / 3 = (J : Int) := by omega
          obtain ⟨x, ex⟩ : ∃ x, fv s k J = x := ⟨_, rfl⟩
          rw [eJ, ex] at hfb hfn
          have x0b : 0 ≤ x := hfb.1
          have x1b : x ≤ 9 := hfb.2.2 (by omega)
          obtain ⟨r0, r1⟩ := hbt
          have HF : Hid (10 * x + (r - 48) = fv s (k + 1) (k / 3)) := Hid.mk (by rw [eJ]; exact hfn.symm)
          have HD : Hid (k % 3 < 2) := Hid.mk hd
          have HX := Hid.mk ex
          have HJ := Hid.mk eJ
          clear hfb hfn er ex eJ hokk hgo t2 hd
          go_wp2_with (first | (go_at_call 75; refine (CS.out _).mono ?_; rintro e wb ⟨rfl, kb⟩; have gc := fcell (kb.heap HN.out.2.2.2.1 (by simp)) J hJ; rw [HX.out] at gc; have fz := frz_of (kb.heap HN.out.2.2.2.1 (by simp)); have HK := Hid.mk kb; clear kb) | (go_at_call 76; refine (CD.out _).mono ?_; rintro e wc ⟨rfl, rfl⟩))
          have R2 := Rs.put HN.out HK.out hk1 HD.out HF.out
          rw [HJ.out] at R2
          refine ⟨⟨k + 1, by omega, by omega, HO2.out, R2⟩, ?_⟩
          rw [HI.out, iterPos_of R2.it]; omega
        · have t2 : decide ((k : Int) % 3 < 2) = false := by simp; omega
          rw [t2] at CD
          have HD : Hid (k % 3 = 2) := Hid.mk (by omega)
          clear hokk hgo t2 hd
          go_wp2_with (first | (go_at_call 75; refine (CS.out _).mono ?_; rintro e wb ⟨rfl, kb⟩; have HK := Hid.mk kb; clear kb) | (go_at_call 76; refine (CD.out _).mono ?_; rintro e wc ⟨rfl, rfl⟩))
          have R2 := Rs.go HN.out HK.out HD.out
          refine ⟨⟨k + 1, by omega, by omega, HO2.out, R2⟩, ?_⟩
          rw [HI.out, iterPos_of R2.it]; omega
      · have t1 : (decide ((k : Int) < 11) && okc l k r) = false := by
          rw [Bool.eq_false_iff]
          intro h
          simp at h
          exact hgo ⟨by omega, h.2⟩
        rw [t1] at CS
        have HB : Hid (Bd l s k) := Hid.mk ⟨HO.out, fun h => hgo ⟨h.1, by rw [hoc]; exact h.2.2⟩, fun h => by omega⟩
        clear t1 hgo hoc hod
        go_wp2_with (go_at_call 75; refine (CS.out _).mono ?_; rintro e wb ⟨rfl, kb⟩; obtain ⟨y0, y1, y2, y3⟩ := four_of (kb.heap HN.out.2.2.1 (by simp)); have fz := frz_of (kb.heap HN.out.2.2.1 (by simp)); have HK := Hid.mk (HN.out.1.trans kb); clear kb)
        exact bodyPost_ret (v := .tuple #[pv 0 0 0 0, .int .i64 k, .int .i64 182]) (by simp [results, Tryd.results66, go_sem, y0, y1, y2, y3]) rfl ⟨.inr ⟨k, HB.out, rfl⟩, kept_set4 HK.out (by omega) _ _ _ _⟩
    · have hnx := fun ty => run_next_end_at (P := Tryd.prog) wr (w.heap.size + 3) s k ty R.it hlt
      have hsz : k = s.size := by omega
      obtain ⟨x0, x1, x2, x3⟩ := four_of R.z
      have fz := frz_of R.z
      obtain ⟨g0, g1, g2, g3⟩ := four_of R.f
      have HR := Hid.mk R
      have HO := Hid.mk hok
      clear R hok
      by_cases h11 : k = 11
      · have t1 : ¬ (s.size : Int) < 11 := by omega
        have HG : Hid (Gd l s) := Hid.mk ⟨by omega, fun i hi => HO.out i (by omega)⟩
        subst h11
        clear hsz
        go_wp2
        exact bodyPost_ret (v := .tuple #[pv (fv s 11 0) (fv s 11 1) (fv s 11 2) (fv s 11 3), .int .i64 0, .int .i64 0]) (by simp [results, Tryd.results66, go_sem, x0, x1, x2, x3]) rfl ⟨.inl ⟨HG.out, rfl⟩, kept_set4 HR.out.hk (by omega) _ _ _ _⟩
      · have t1 : (s.size : Int) < 11 := by omega
        have HB : Hid (Bd l s k) := Hid.mk ⟨HO.out, fun h => hlt h.2.1, fun h => h11 h.1⟩
        have HZ := Hid.mk hsz
        clear hsz
        go_wp2
        exact bodyPost_ret (v := .tuple #[pv 0 0 0 0, .int .i64 s.size, .int .i64 182]) (by simp [results, Tryd.results66, go_sem, x0, x1, x2, x3]) rfl ⟨.inr ⟨k, HB.out, by rw [HZ.out]⟩, kept_set4 HR.out.hk (by omega) _ _ _ _⟩
end Go.Proofs.YtknkjhfemgiiaaaDoor
