import Derived.Test.YtknkjhfemgiiaaaDoorK0
import Derived.Test.YtknkjhfemgiiaaaDoorD2
namespace Go.Proofs.YtknkjhfemgiiaaaDoor
open Go.RowKit Go.Lib

/-- A rune that a name may have. -/
def inN (r : Int) : Bool := (decide (97 ≤ r) && decide (r ≤ 122)) || (decide (48 ≤ r) && decide (r ≤ 57)) || r == 95 || r == 45
set_option maxHeartbeats 2000000 in
theorem inName_any (r : Int) (w : World) : Calls Tryd.prog 59 #[.int .i32 r] w fun e w' => e = .returned (.bool (inN r)) ∧ w' = w := by
  go_enter Tryd.func59, Tryd.ntmps59
  go_wp2
  all_goals go_ret
  all_goals (refine ⟨ret_bool ?_, rfl⟩; rw [Bool.eq_iff_iff]; simp only [inN]; simp; try omega)
/-- The next rune: the byte, or beyond all of them. -/
theorem nxt (wr : World) (K : Nat) (s : ByteArray) (k : Nat) (hit : wr.heap[K]? = some (.stringIter s k)) (hk : k < s.size) :
    ∃ (r : Int) (d : Nat), (∀ ty, (Instr.next (.pointer (some ⟨K, 0, none⟩)) true ty).run Tryd.prog wr = .ok (.tuple #[.bool true, .int .i64 k, .int .i32 r]) (wr.iterAt K s (k + d))) ∧ 1 ≤ d ∧ ((r = bt s k ∧ d = 1) ∨ (128 ≤ r ∧ 128 ≤ bt s k)) := by
  by_cases ha : (s[k]'hk).toNat < 128
  · exact ⟨_, 1, fun ty => run_next_ascii_at wr K s k ty hit hk ha, Nat.le_refl _, .inl ⟨by unfold bt; simp [hk], rfl⟩⟩
  · have hh := decode_high s k hk (by omega)
    refine ⟨_, _, fun ty => run_next_any_at wr K s k ty hit hk, hh.2, .inr ⟨by omega, ?_⟩⟩
    unfold bt; rw [dif_pos hk]; omega
def nmB (s : ByteArray) : Bool := s.data.toList.all (fun c => inN (c.toNat : Int)) && decide (1 ≤ s.size) && decide (s.size ≤ 16)
theorem bt_at (s : ByteArray) (i : Nat) (h : i < s.size) : ∃ c : UInt8, s.data.toList[i]? = some c ∧ bt s i = (c.toNat : Int) := by
  refine ⟨s[i]'h, ?_, by unfold bt; simp [h]⟩
  have : i < s.data.toList.length := by simpa using h
  rw [List.getElem?_eq_getElem this]; rfl
theorem all_bt (s : ByteArray) (h : ∀ i, i < s.size → inN (bt s i) = true) : s.data.toList.all (fun c => inN (c.toNat : Int)) = true := by
  rw [List.all_eq_true]
  intro c hc
  obtain ⟨i, hi, rfl⟩ := List.mem_iff_getElem.1 hc
  have hi' : i < s.size := by simpa using hi
  obtain ⟨c, h1, h2⟩ := bt_at s i hi'
  rw [List.getElem?_eq_getElem hi] at h1
  have := h i hi'
  rw [h2] at this
  rw [show s.data.toList[i] = c from by simpa using h1]; exact this
theorem not_bt (s : ByteArray) (i : Nat) (hi : i < s.size) (h : inN (bt s i) = false) : s.data.toList.all (fun c => inN (c.toNat : Int)) = false := by
  obtain ⟨c, h1, h2⟩ := bt_at s i hi
  rw [Bool.eq_false_iff]
  intro ha
  rw [List.all_eq_true] at ha
  have := ha c (List.mem_of_getElem? h1)
  rw [← h2, h] at this; cases this
theorem inN_high (r : Int) (h : 128 ≤ r) : inN r = false := by simp [inN]; omega

set_option maxHeartbeats 4000000 in
set_option maxRecDepth 1000000 in
theorem isName_any (s : ByteArray) (w : World) (hs : s.size ≤ maxLen) : Calls Tryd.prog 40 #[.string s] w fun e w' => e = .returned (.bool (nmB s)) ∧ Kept [] w w' := by
  unfold maxLen at hs
  have k0 : Kept [] w (w.iter s 0) := alloc_kept _ _
  have i0 := World.iter_heap w s 0
  have H0 := Hid.mk (And.intro k0 i0)
  clear k0 i0
  go_enter Tryd.func40, Tryd.ntmps40
  go_wp2
  go_loopw [4] (fun _ wr => ∃ k : Nat, k ≤ s.size ∧ (∀ i, i < k → inN (bt s i) = true) ∧ wr.heap[w.heap.size]? = some (.stringIter s k) ∧ Kept [] w wr) (fun _ wr => s.size - wr.iterPos w.heap.size)
  case atStart => exact ⟨0, by omega, fun i hi => by omega, H0.out.2, H0.out.1⟩
  case round =>
    obtain ⟨k, hks, hok, hit, hkw⟩ := hrel
    clear H0
    by_cases hlt : k < s.size
    · obtain ⟨r, d, hnx, hd1, hrd⟩ := nxt wr w.heap.size s k hit hlt
      have ip := iterPos_of hit
      have hk2 : Kept [w.heap.size] wr (wr.iterAt w.heap.size s (k + d)) := ⟨rfl, rfl, rfl, by rw [iterAt_size]; exact Nat.le_refl _, fun i _ hi => iterAt_other _ _ _ _ _ (by simpa using hi)⟩
      have hi2 := iterAt_heap wr w.heap.size s k (k + d) hit
      obtain ⟨wa, ewa⟩ : ∃ wa, wr.iterAt w.heap.size s (k + d) = wa := ⟨_, rfl⟩
      simp only [ewa] at hnx hk2 hi2
      have CN := Hid.mk (fun u => inName_any r u)
      have HI := Hid.mk ip
      have HA := Hid.mk (And.intro hi2 (And.intro (hkw.step hk2 (fun x hx => by simp at hx; omega)) hok))
      clear ip hk2 hi2 hit hkw hok ewa
      by_cases hin : inN r = true
      · rw [hin] at CN
        obtain ⟨rfl, rfl⟩ : r = bt s k ∧ d = 1 := by
          rcases hrd with h | ⟨h, _⟩
          · exact h
          · rw [inN_high r h] at hin; cases hin
        have HB := Hid.mk hin
        clear hrd hin
        go_wp2_with (go_at_call 59; refine (CN.out _).mono ?_; rintro e w' ⟨rfl, rfl⟩)
        refine ⟨⟨k + 1, by omega, fun i hi => ?_, HA.out.1, HA.out.2.1⟩, ?_⟩
        · by_cases h : i = k
          · rw [h]; exact HB.out
          · exact HA.out.2.2 i (by omega)
        · rw [HI.out, iterPos_of HA.out.1]; omega
      · have hin' : inN r = false := by simpa using hin
        rw [hin'] at CN
        have HB : Hid (nmB s = false) := Hid.mk (by
          have : inN (bt s k) = false := by
            rcases hrd with h | ⟨_, h⟩
            · rw [← h.1]; exact hin'
            · exact inN_high _ h
          unfold nmB; rw [not_bt s k hlt this]; rfl)
        clear hrd hin hin'
        go_wp2_with (go_at_call 59; refine (CN.out _).mono ?_; rintro e w' ⟨rfl, rfl⟩)
        go_ret
        exact ⟨by rw [HB.out]; rfl, HA.out.2.1⟩
    · have hnx := fun ty => run_next_end_at (P := Tryd.prog) wr w.heap.size s k ty hit hlt
      have HB : Hid (nmB s = (decide (1 ≤ s.size) && decide (s.size ≤ 16))) := Hid.mk (by
        unfold nmB; rw [all_bt s (fun i hi => hok i (by omega))]; rfl)
      have HK := Hid.mk hkw
      clear hok hkw hit
      go_wp2
      all_goals go_ret
      all_goals (refine ⟨ret_bool ?_, HK.out⟩; rw [HB.out, Bool.eq_iff_iff]; simp; try omega)

/-- A fade's number. -/
def fo : Int → List UInt8 → Int × Bool
  | n, [] => (n, decide (0 < n))
  | n, c :: t => if (c.toNat : Int) < 48 ∨ 57 < (c.toNat : Int) then (0, false) else if 10 * n + ((c.toNat : Int) - 48) < 1 ∨ 100 < 10 * n + ((c.toNat : Int) - 48) then (0, false) else fo (10 * n + ((c.toNat : Int) - 48)) t
theorem drop_bt (s : ByteArray) (k : Nat) (h : k < s.size) : ∃ c : UInt8, s.data.toList.drop k = c :: s.data.toList.drop (k + 1) ∧ bt s k = (c.toNat : Int) := by
  obtain ⟨c, h1, h2⟩ := bt_at s k h
  have hl : k < s.data.toList.length := by simpa using h
  refine ⟨c, ?_, h2⟩
  rw [List.getElem?_eq_getElem hl] at h1
  rw [List.drop_eq_getElem_cons hl, Option.some.inj h1]
set_option maxHeartbeats 4000000 in
set_option maxRecDepth 1000000 in
theorem fadeOf_any (s : ByteArray) (w : World) (hs : s.size ≤ maxLen) : Calls Tryd.prog 49 #[.string s] w fun e w' => e = .returned (.tuple #[.int .i64 (fo 0 s.data.toList).1, .bool (fo 0 s.data.toList).2]) ∧ Kept [] w w' := by
  unfold maxLen at hs
  have k0 : Kept [] w (w.iter s 0) := alloc_kept _ _
  have i0 := World.iter_heap w s 0
  have H0 := Hid.mk (And.intro k0 i0)
  clear k0 i0
  obtain ⟨R, eR⟩ : ∃ R, fo 0 s.data.toList = R := ⟨_, rfl⟩
  rw [eR]
  have ER := Hid.mk eR
  clear eR
  go_enter Tryd.func49, Tryd.ntmps49
  go_wp2
  go_loopw [4, 6] (fun v _ wr => ∃ (k : Nat) (n : Int), v = .int .i64 n ∧ 0 ≤ n ∧ n ≤ 100 ∧ k ≤ s.size ∧ fo n (s.data.toList.drop k) = R ∧ wr.heap[w.heap.size]? = some (.stringIter s k) ∧ Kept [] w wr) (fun _ _ wr => s.size - wr.iterPos w.heap.size)
  case atStart => exact ⟨0, 0, rfl, by omega, by omega, by omega, ER.out, H0.out.2, H0.out.1⟩
  case round =>
    obtain ⟨k, n, rfl, n0, n1, hks, hfo, hit, hkw⟩ := hrel
    clear H0
    by_cases hlt : k < s.size
    · obtain ⟨r, d, hnx, hd1, hrd⟩ := nxt wr w.heap.size s k hit hlt
      have ip := iterPos_of hit
      have hk2 : Kept [w.heap.size] wr (wr.iterAt w.heap.size s (k + d)) := ⟨rfl, rfl, rfl, by rw [iterAt_size]; exact Nat.le_refl _, fun i _ hi => iterAt_other _ _ _ _ _ (by simpa using hi)⟩
      have hi2 := iterAt_heap wr w.heap.size s k (k + d) hit
      obtain ⟨wa, ewa⟩ : ∃ wa, wr.iterAt w.heap.size s (k + d) = wa := ⟨_, rfl⟩
      simp only [ewa] at hnx hk2 hi2
      have HI := Hid.mk ip
      have HA := Hid.mk (And.intro hi2 (hkw.step hk2 (fun x hx => by simp at hx; omega)))
      clear ip hk2 hi2 hit hkw ewa
      obtain ⟨c, hdr, hbt⟩ := drop_bt s k hlt
      rw [hdr] at hfo
      simp only [fo] at hfo
      by_cases hbad : r < 48 ∨ 57 < r
      · have hR : R = (0, false) := by
          rw [if_pos (by rcases hrd with h | ⟨_, h⟩ <;> omega)] at hfo
          exact hfo.symm
        have HR := Hid.mk hR
        clear hfo hrd hbt hdr hR
        rcases hbad with hb | hb
        · go_wp2
          go_ret2
          rw [HR.out]; exact ⟨rfl, HA.out.2⟩
        · have hb2 : ¬ r < 48 := by omega
          go_wp2
          go_ret2
          rw [HR.out]; exact ⟨rfl, HA.out.2⟩
      · have hb1 : ¬ r < 48 := by omega
        have hb2 : ¬ 57 < r := by omega
        obtain ⟨rfl, rfl⟩ : r = bt s k ∧ d = 1 := by
          rcases hrd with h | ⟨h, _⟩
          · exact h
          · omega
        rw [if_neg (by omega)] at hfo
        rw [← hbt] at hfo
        obtain ⟨r, er⟩ : ∃ r, bt s k = r := ⟨_, rfl⟩
        rw [er] at hfo hnx hb1 hb2
        obtain ⟨m, em⟩ : ∃ m, 10 * n + (r - 48) = m := ⟨_, rfl⟩
        rw [em] at hfo
        have w1 : wrap64 (10 * n) = 10 * n := w64_in (by omega) (by omega)
        have w2 : IntKind.i32.wrap (r - 48) = r - 48 := by simp only [IntKind.wrap, IntKind.bits, IntKind.signed]; simp; omega
        have w3 : wrap64 (10 * n + (r - 48)) = m := by rw [← em]; exact w64_in (by omega) (by omega)
        have w4 : IntKind.i64.wrap (r - 48) = r - 48 := wrap_i (by omega) (by omega)
        clear hbad hrd hbt hdr er
        by_cases hm : m < 1 ∨ 100 < m
        · have hR : R = (0, false) := by rw [if_pos hm] at hfo; exact hfo.symm
          have HR := Hid.mk hR
          clear hfo hR
          rcases hm with hb | hb
          · go_wp2
            go_ret2
            rw [HR.out]; exact ⟨rfl, HA.out.2⟩
          · have hb3 : ¬ m < 1 := by omega
            go_wp2
            go_ret2
            rw [HR.out]; exact ⟨rfl, HA.out.2⟩
        · rw [if_neg hm] at hfo
          have hm1 : ¬ m < 1 := by omega
          have hm2 : ¬ 100 < m := by omega
          have HF := Hid.mk hfo
          clear hfo hm
          go_wp2
          refine ⟨⟨k + 1, m, rfl, by omega, by omega, by omega, HF.out, HA.out.1, HA.out.2⟩, ?_⟩
          rw [HI.out, iterPos_of HA.out.1]; omega
    · have hnx := fun ty => run_next_end_at (P := Tryd.prog) wr w.heap.size s k ty hit hlt
      have hR : R = (n, decide (0 < n)) := by
        rw [List.drop_eq_nil_of_le (by simp; omega)] at hfo
        exact hfo.symm
      have HR := Hid.mk hR
      have HK := Hid.mk hkw
      clear hfo hkw hit hR
      go_wp2
      go_ret2
      rw [HR.out]; exact ⟨rfl, HK.out⟩
end Go.Proofs.YtknkjhfemgiiaaaDoor
