import Derived.Test.YtjnmnkheichflaaM4
import Derived.Test.YtjnmnkheichflaaPk
namespace Go.Proofs.Ytjnmnkheichflaa
open Go.RowKit

/-- Whether v is one of the first k powers of 2. -/
def sn (v : Nat) : Nat → Bool
  | 0 => false
  | k + 1 => sn v k || decide (pw 2 k = v)
theorem sn_new {k : Nat} (h : k < 255) : sn (pw 2 k) k = false := by
  have key : ∀ j, j ≤ k → sn (pw 2 k) j = false := by
    intro j
    induction j with
    | zero => intro _; rfl
    | succ j ih =>
      intro hj
      rw [sn, ih (by omega), decide_eq_false (pw2_inj (by omega) h)]; rfl
  exact key k (Nat.le_refl _)

/-- The list that is kept of them. -/
def snC (k : Nat) : List Value := (List.range 256).map fun v => .int .i64 (if sn v k then 1 else 0)
theorem snC_length (k : Nat) : (snC k).length = 256 := by simp [snC]
theorem snC_at (k v : Nat) (h : v < 256) : (snC k)[v]? = some (.int .i64 (if sn v k then 1 else 0)) := by simp [snC, h]
theorem snC_zero : snC 0 = List.replicate 256 (.int .i64 0) := by
  apply List.ext_getElem?
  intro i
  by_cases h : i < 256
  · rw [snC_at _ _ h, List.getElem?_replicate, if_pos h]; rfl
  · rw [List.getElem?_eq_none (by rw [snC_length]; omega), List.getElem?_eq_none (by rw [List.length_replicate]; omega)]
theorem snC_set (k : Nat) : (snC k).set (pw 2 k) (.int .i64 1) = snC (k + 1) := by
  apply List.ext_getElem?
  intro i
  by_cases h : i < 256
  · rw [List.getElem?_set, snC_at _ _ h, snC_at _ _ h]
    by_cases e : pw 2 k = i
    · subst e; simp [snC_length, h, sn]
    · rw [if_neg e]; simp [sn, e]
  · rw [List.getElem?_eq_none (by simp [snC_length]; omega), List.getElem?_eq_none (by simp [snC_length]; omega)]

theorem powN_pw {a : Nat} (h0 : a ≠ 0) (n : Int) : powN a n = pw a (n % 255).toNat := by
  unfold powN
  split
  · rename_i h; subst h; rfl
  · rfl
theorem powN_add {a : Nat} (h0 : a ≠ 0) (h : a < 256) (n m : Int) : mu (powN a n) (powN a m) = powN a (n + m) := by
  rw [powN_pw h0, powN_pw h0, powN_pw h0, ← pw_add, pw_mod h0 h]
  congr 1
  omega
theorem powE_none {a : Nat} (h0 : a ≠ 0) (n : Int) : powE a n = 0 := by
  unfold powE; rw [if_neg (fun h => h0 h.1)]
theorem powE_zero (n : Int) : (powE 0 n == 0) = decide (0 ≤ n) := by
  unfold powE
  by_cases h : n < 0
  · rw [if_pos ⟨rfl, h⟩, decide_eq_false (by omega)]; rfl
  · rw [if_neg (fun h2 => h h2.2), decide_eq_true (by omega)]; rfl
theorem pow_two (k : Nat) (hk : k < 255) : powN 2 (k : Int) = pw 2 k ∧ powE 2 (k : Int) = 0 := by
  refine ⟨?_, powE_none (by decide) _⟩
  rw [powN_pw (by decide)]
  congr 1
  omega
theorem x_back : pw 2 255 = 1 := pw_255 (by decide) (by decide)

theorem Try.info3 : (Try.prog.info? 3).map (fun i => (i.zero, i.size, i.bytes)) = some (some (.int .i64 0), 1, 8) := by kernel_rfl

set_option maxHeartbeats 4000000 in
set_option maxRecDepth 1000000 in
theorem powers_any (a : Nat) (n m : Int) (ha : a < 256) (hn : -9223372036854775808 ≤ n ∧ n ≤ 9223372036854775807) (hm : -9223372036854775808 ≤ m ∧ m ≤ 9223372036854775807) (w : World) :
    Calls Try.prog 6 #[.int .u8 (a : Int), .int .i64 n, .int .i64 m] w fun e w' => e = .returned (.bool true) ∧ Kept [] w w' := by
  obtain ⟨i0, hi, hz0, hz1, hz2⟩ := info_parts Try.info3
  have P1 := pick_any n 100000
  have P2 := pick_any m 100000
  have a1 := pick_lo n 100000 (by decide)
  have a2 := pick_hi n 100000 (by decide)
  have b1 := pick_lo m 100000 (by decide)
  have b2 := pick_hi m 100000 (by decide)
  have C1 := Hid.mk (fun w => P1 w hn.1 hn.2 (by decide))
  have C2 := Hid.mk (fun w => P2 w hm.1 hm.2 (by decide))
  clear P1 P2 hn hm
  obtain ⟨x, e⟩ : ∃ x, x = pick n 100000 := ⟨_, rfl⟩
  rw [← e] at C1 a1 a2; clear e
  obtain ⟨y, e⟩ : ∃ y, y = pick m 100000 := ⟨_, rfl⟩
  rw [← e] at C2 b1 b2; clear e
  obtain ⟨X, hX⟩ : ∃ X, x - 50000 = X := ⟨_, rfl⟩
  obtain ⟨Y, hY⟩ : ∃ Y, y - 50000 = Y := ⟨_, rfl⟩
  obtain ⟨Z, hZ⟩ : ∃ Z, X + Y = Z := ⟨_, rfl⟩
  have bX : -50000 ≤ X ∧ X ≤ 50000 := by omega
  have bY : -50000 ≤ Y ∧ Y ≤ 50000 := by omega
  have D1 := Hid.mk (pow_any a X ha (by omega))
  have D2 := Hid.mk (pow_any a Y ha (by omega))
  have D3 := Hid.mk (pow_any a Z ha (by omega))
  have HX := Hid.mk hX
  have HY := Hid.mk hY
  have HZ := Hid.mk hZ
  clear hX hY hZ
  go_enter Try.func6, Try.ntmps6
  go_wp2_with (first
      | (go_at_call 9; refine (alive_any _).mono ?_; rintro e w1 ⟨rfl, mm, rfl⟩)
      | (at_make; refine wpList_make_full _ rfl _ _ 31 rfl 0 3 i0 (.int .i64 0) 1 Try.underlying31 hi hz0 hz1 _ _ _ _ 256 rfl rfl (by omega) (by omega) ?b2 ?b3 (by omega) ?_))
  case b2 => rw [hz2]; omega
  case b3 => unfold maxLen; omega
  intro w2 ho2 hg2
  have hk2 := Kept.of_grown hg2
  have hr2 := row_heap ho2 rfl
  rw [toList_madeCells_one, ← snC_zero] at hr2
  obtain ⟨N, hN⟩ : ∃ N, N = w.heap.size := ⟨_, rfl⟩
  have hNw : w.heap.size ≤ N := by rw [hN]; exact Nat.le_refl _
  rw [← hN] at hr2 ⊢
  have HK2 : Hid (Kept [] w w2) := Hid.mk ((Qt.kept ⟨mm, rfl⟩ []).step hk2 (by simp))
  have Hr2 := Hid.mk hr2
  clear hN hr2 ho2 hg2 hk2 hi hz0 hz1 hz2
  go_wp2
  go_loopw [9, 10] (fun x i wr => ∃ k : Nat, k ≤ 255 ∧ i = .int .i64 (k : Int) ∧ x = .int .u8 (pw 2 k : Int) ∧ wr.heap[N]? = some (.cells (snC k).toArray 3 (0, 0)) ∧ Kept [] w wr) (fun _ i _ => 255 - (intOf i).toNat)
  case atStart => exact ⟨0, by omega, rfl, rfl, Hr2.out, HK2.out⟩
  case round =>
    obtain ⟨k, hk, rfl, rfl, hrow, hkr⟩ := hrel
    have Hrow := Hid.mk hrow
    have Hkr := Hid.mk hkr
    by_cases hlt : k < 255
    · have hpl := pw_lt 2 k
      have hcell : wr.cell? ⟨N, pw 2 k, none⟩ = some (.int .i64 0) := by
        rw [cell_of_row _ _ _ _ _ _ hrow, List.getElem?_toArray, snC_at _ _ hpl, sn_new hlt]; rfl
      have hfz : wr.frozen? ⟨N, pw 2 k, none⟩ = false := by simp [World.frozen?, hrow]
      have hne := pw_ne (a := 2) (by decide) (by decide) k
      have Hset := Hid.mk (snC_set k)
      have Hn : Hid (mu (pw 2 k) 2 = pw 2 (k + 1)) := Hid.mk rfl
      have hpw := pow_any 2 (k : Int) (by decide) (by omega)
      rw [(pow_two k hlt).1, (pow_two k hlt).2] at hpw
      have Hpw := Hid.mk hpw
      clear hpw hrow hkr
      obtain ⟨p, hp⟩ : ∃ p, p = pw 2 k := ⟨_, rfl⟩
      rw [← hp] at hpl hcell hfz hne Hset Hn Hpw ⊢
      clear hp
      have hne2 : ((p : Int) == 0) = false := by simp; omega
      have l2 : 2 < 256 := by decide
      go_wp2_with (first
        | (go_at_call 16; refine (Hpw.out _).mono ?_; rintro e w3 ⟨rfl, m3, rfl⟩)
        | (go_at_call 10; refine (mul_any _ 2 (by assumption) (by assumption) _).mono ?_; rintro e w3 ⟨rfl, m4, rfl⟩))
      go_roundw
      case rel =>
        refine ⟨k + 1, by omega, by go_num, by rw [Hn.out], ?_, ?_⟩
        · show (World.setCell _ _ _).heap[N]? = _
          rw [heap_setCell_at ((Qt.kept ⟨m3, rfl⟩ []).heap Hrow.out (by simp)), List.setIfInBounds_toArray, Hset.out]
        · exact ((Hkr.out.drewN _).setCell (p := ⟨N, p, none⟩) (.inr hNw) _).drewN _
      case measure => simp [intOf]; omega
    · obtain rfl : k = 255 := by omega
      clear hrow hkr Hrow
      rw [x_back]
      have hX := HX.out
      have hY := HY.out
      have hZ := HZ.out
      clear HX HY
      by_cases h0 : a = 0
      · subst h0
        have e1 := powE_zero X
        have e2 := powE_zero Y
        have e3 := powE_zero Z
        obtain ⟨p1, h⟩ : ∃ p, p = (powN 0 X : Int) := ⟨_, rfl⟩
        rw [← h] at D1; clear h
        obtain ⟨p2, h⟩ : ∃ p, p = (powN 0 Y : Int) := ⟨_, rfl⟩
        rw [← h] at D2; clear h
        obtain ⟨p3, h⟩ : ∃ p, p = (powN 0 Z : Int) := ⟨_, rfl⟩
        rw [← h] at D3; clear h
        obtain ⟨q1, h⟩ : ∃ p, p = powE 0 X := ⟨_, rfl⟩
        rw [← h] at D1 e1; clear h
        obtain ⟨q2, h⟩ : ∃ p, p = powE 0 Y := ⟨_, rfl⟩
        rw [← h] at D2 e2; clear h
        obtain ⟨q3, h⟩ : ∃ p, p = powE 0 Z := ⟨_, rfl⟩
        rw [← h] at D3 e3; clear h
        go_wp2_with (first
          | (go_at_call_of 18 n; refine (C1.out _).mono ?_; rintro e w3 ⟨rfl, rfl⟩)
          | (go_at_call_of 18 m; refine (C2.out _).mono ?_; rintro e w3 ⟨rfl, rfl⟩)
          | (go_at_call_of 16 X; refine (D1.out _).mono ?_; rintro e w3 ⟨rfl, m3, rfl⟩)
          | (go_at_call_of 16 Y; refine (D2.out _).mono ?_; rintro e w3 ⟨rfl, m3, rfl⟩)
          | (go_at_call_of 16 Z; refine (D3.out _).mono ?_; rintro e w3 ⟨rfl, m3, rfl⟩))
        go_ret
        exact ⟨rfl, Hkr.out.drewN _⟩
      · have ea := powN_add h0 ha X Y
        rw [HZ.out] at ea
        have e1 := powE_none h0 X
        have e2 := powE_none h0 Y
        have e3 := powE_none h0 Z
        have l1 := powN_lt a X
        have l2 := powN_lt a Y
        rw [e1] at D1
        rw [e2] at D2
        rw [e3] at D3
        obtain ⟨p1, h⟩ : ∃ p, p = powN a X := ⟨_, rfl⟩
        rw [← h] at D1 ea l1; clear h
        obtain ⟨p2, h⟩ : ∃ p, p = powN a Y := ⟨_, rfl⟩
        rw [← h] at D2 ea l2; clear h
        obtain ⟨p3, h⟩ : ∃ p, p = powN a Z := ⟨_, rfl⟩
        rw [← h] at D3 ea; clear h
        have ha0 : ((a : Int) == 0) = false := by simp; omega
        clear e1 e2 e3
        go_wp2_with (first
          | (go_at_call_of 18 n; refine (C1.out _).mono ?_; rintro e w3 ⟨rfl, rfl⟩)
          | (go_at_call_of 18 m; refine (C2.out _).mono ?_; rintro e w3 ⟨rfl, rfl⟩)
          | (go_at_call_of 16 X; refine (D1.out _).mono ?_; rintro e w3 ⟨rfl, m3, rfl⟩)
          | (go_at_call_of 16 Y; refine (D2.out _).mono ?_; rintro e w3 ⟨rfl, m3, rfl⟩)
          | (go_at_call_of 16 Z; refine (D3.out _).mono ?_; rintro e w3 ⟨rfl, m3, rfl⟩)
          | (go_at_call 10; refine (mul_any _ _ (by assumption) (by assumption) _).mono ?_; rintro e w3 ⟨rfl, m3, rfl⟩))
        go_ret
        exact ⟨rfl, Hkr.out.drewN _⟩
end Go.Proofs.Ytjnmnkheichflaa
