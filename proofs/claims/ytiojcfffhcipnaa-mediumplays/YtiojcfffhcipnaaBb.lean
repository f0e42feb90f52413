import Derived.Test.YtiojcfffhcipnaaBa
namespace Go.Proofs.Ytiojcfffhcipnaa
open Go.RowKit

/-- What is held: a list that came out, and its mark. -/
structure Hd where
  a : Option Addr
  l : Nat
  c : Nat
  m : Int
def hcs (k : IntKind) (f : Nat → Hd) : Nat → List Value
  | 0 => []
  | n + 1 => hcs k f n ++ [.slice (f n).a (f n).l (f n).c, .int k (f n).m]
theorem hcs_len (k : IntKind) (f : Nat → Hd) (n : Nat) : (hcs k f n).length = n * 2 := by
  induction n with
  | zero => rfl
  | succ n ih => rw [hcs, List.length_append, ih]; simp; omega
theorem hcs_cell (k : IntKind) (f : Nat → Hd) : ∀ (n i : Nat), i < n → (hcs k f n)[i * 2]? = some (.slice (f i).a (f i).l (f i).c) ∧ (hcs k f n)[i * 2 + 1]? = some (.int k (f i).m)
  | 0, i, h => by omega
  | n + 1, i, h => by
    have hl := hcs_len k f n
    by_cases e : i = n
    · subst e
      refine ⟨?_, ?_⟩
      · rw [hcs, List.getElem?_append_right (by omega), hl, Nat.sub_self]; rfl
      · rw [hcs, List.getElem?_append_right (by omega), hl, show i * 2 + 1 - i * 2 = 1 by omega]; rfl
    · have ih := hcs_cell k f n i (by omega)
      refine ⟨?_, ?_⟩
      · rw [hcs, List.getElem?_append_left (by omega)]; exact ih.1
      · rw [hcs, List.getElem?_append_left (by omega)]; exact ih.2
theorem hcs_congr (k : IntKind) (f g : Nat → Hd) (n : Nat) (h : ∀ i, i < n → f i = g i) : hcs k f n = hcs k g n := by
  induction n with
  | zero => rfl
  | succ n ih => rw [hcs, hcs, ih (fun i hi => h i (by omega)), h n (by omega)]

/-- Lists of bytes that are held, each all of its mark. -/
structure Hs (w : World) (V : Value) (n : Nat) (f : Nat → Hd) : Prop where
  own : w.ownsRow 0 94 2 V n (hcs .u8 f n)
  each : ∀ i, i < n → w.ownsRow 0 5 1 (.slice (f i).a (f i).l (f i).c) (f i).l (List.replicate (f i).l (.int .u8 (f i).m))
structure Ss (w : World) (V : Value) (n : Nat) (f : Nat → Hd) : Prop where
  own : w.ownsRow 0 96 2 V n (hcs .i64 f n)
  each : ∀ i, i < n → w.ownsRow 0 63 2 (.slice (f i).a (f i).l (f i).c) (f i).l (spc (List.replicate (f i).l ((f i).m, 0)))
theorem Hs.keep {w w' : World} {V : Value} {n : Nat} {f : Nat → Hd} (h : Hs w V n f) (hk : Kept [] w w') : Hs w' V n f := ⟨hk.row h.own (by simp), fun i hi => hk.row (h.each i hi) (by simp)⟩
theorem Ss.keep {w w' : World} {V : Value} {n : Nat} {f : Nat → Hd} (h : Ss w V n f) (hk : Kept [] w w') : Ss w' V n f := ⟨hk.row h.own (by simp), fun i hi => hk.row (h.each i hi) (by simp)⟩
theorem own_cellsN {w : World} {base e z n c : Nat} {ao : Option Addr} {xs : List Value} (h : w.ownsRow base e z (.slice ao n c) n xs) (hn : 0 < n) : ∃ g, ao = some ⟨g, 0, none⟩ ∧ ∀ i x, xs[i]? = some x → w.cell? ⟨g, i, none⟩ = some x := by
  rcases h.2 with ⟨_, h1⟩ | ⟨g, cap, cur, h1, _⟩
  · omega
  · simp only [Value.slice.injEq] at h1
    obtain ⟨rfl, -, rfl⟩ := h1
    refine ⟨g, rfl, fun i x hx => ?_⟩
    have := h.cells (g := g) rfl i x hx
    rw [addN, Nat.zero_add] at this
    exact this

set_option maxHeartbeats 16000000 in
set_option maxRecDepth 1000000 in
theorem looks_any (w : World) (A : Nat) (lo so : Option Addr) (n lc q sc : Nat) (o t k u ks us : Value) (f g : Nat → Hd) (h : Bx w A (.slice lo n lc) (.slice so q sc) o t k u ks us) (hH : Hs w (.slice lo n lc) n f) (hS : Ss w (.slice so q sc) q g) (hn : n ≤ 9000000000000) (hq : q ≤ 9000000000000) (hfl : ∀ i, i < n → (f i).l ≤ 1000000000) (hgl : ∀ i, i < q → (g i).l ≤ 9000000000000) :
    Calls Try.prog 49 #[.pointer (some ⟨A, 0, none⟩)] w fun e w' => e = .returned (.bool true) ∧ Kept [] w w' := by
  have HB := Hid.mk h
  have HH := Hid.mk hH
  have HS := Hid.mk hS
  have HFL := Hid.mk hfl
  have HGL := Hid.mk hgl
  clear h hH hS hfl hgl
  go_enter Try.func49, Try.ntmps49
  go_wp2
  go_loopw [3] (fun i wr => ∃ x : Nat, x ≤ n ∧ i = .int .i64 (x : Int) ∧ Hid (Kept [] w wr)) (fun i _ => n - (intOf i).toNat)
  case atStart => exact ⟨0, Nat.zero_le _, rfl, Hid.mk (Kept.refl _ _)⟩
  case round =>
    obtain ⟨x, hx, rfl, HI⟩ := hrel
    obtain ⟨w0, rfl⟩ : ∃ w0, w0 = wr := ⟨_, rfl⟩
    obtain ⟨c0, -⟩ := (HB.out.kept HI.out (by simp)).cells
    by_cases hlt : x < n
    · have ix : (x : Int) < (n : Int) := by omega
      clear c0
      obtain ⟨c0, -⟩ := (HB.out.kept HI.out (by simp)).cells
      go_wp2
      go_loopw [4] (fun j wr => ∃ y : Nat, y ≤ (f x).l ∧ j = .int .i64 (y : Int) ∧ Hid (Kept [] w wr)) (fun j _ => (f x).l - (intOf j).toNat)
      case atStart => exact ⟨0, Nat.zero_le _, rfl, HI⟩
      case round =>
        obtain ⟨y, hy, rfl, HJ⟩ := hrel
        clear c0
        obtain ⟨c0, -⟩ := (HB.out.kept HJ.out (by simp)).cells
        obtain ⟨gl, rfl, hcl⟩ := own_cellsN ((HH.out.keep HJ.out).own) (by omega)
        obtain ⟨e1, e2⟩ := hcs_cell .u8 f n x hlt
        have l0 := hcl _ _ e1
        have l1 := hcl _ _ e2
        have hrow := (HH.out.keep HJ.out).each x hlt
        have hfb := HFL.out x hlt
        obtain ⟨⟨a, l, c, m⟩, efx⟩ : ∃ z, f x = z := ⟨_, rfl⟩
        rw [efx] at l0 l1 hrow hy hfb ⊢
        simp only at l0 l1 hrow hy hfb ⊢
        by_cases hly : y < l
        · have iy : (y : Int) < (l : Int) := by omega
          obtain ⟨ga, rfl, hca⟩ := own_cellsN hrow (by omega)
          have m0 := hca y (.int .u8 m) (by simp [hly])
          clear hcl e1 e2 hrow hca efx
          go_wp2_with (fail)
          go_quiet (fail)
          clear l0 l1 m0 c0
          go_wp2
          go_roundw
          case rel => exact ⟨y + 1, by omega, by go_num, Hid.mk (HJ.out.drewN _)⟩
          case measure => simp [intOf]; omega
        · obtain rfl : l = y := by omega
          clear hcl e1 e2 hrow hly hy
          go_wp2
          go_roundw
          case rel => exact ⟨x + 1, by omega, by go_num, HJ⟩
          case measure => simp [intOf]; omega
    · obtain rfl : n = x := by omega
      clear hlt hx c0
      obtain ⟨c0, c1, -⟩ := (HB.out.kept HI.out (by simp)).cells
      go_wp2
      clear c0 c1
      go_loopw [5] (fun i wr => ∃ x : Nat, x ≤ q ∧ i = .int .i64 (x : Int) ∧ Hid (Kept [] w wr)) (fun i _ => q - (intOf i).toNat)
      case atStart => exact ⟨0, Nat.zero_le _, rfl, HI⟩
      case round =>
        obtain ⟨x, hx, rfl, HJ0⟩ := hrel
        obtain ⟨-, c1, -⟩ := (HB.out.kept HJ0.out (by simp)).cells
        by_cases hlt : x < q
        · have ix : (x : Int) < (q : Int) := by omega
          go_wp2
          clear c1
          go_loopw [6] (fun j wr => ∃ y : Nat, y ≤ (g x).l ∧ j = .int .i64 (y : Int) ∧ Hid (Kept [] w wr)) (fun j _ => (g x).l - (intOf j).toNat)
          case atStart => exact ⟨0, Nat.zero_le _, rfl, HJ0⟩
          case round =>
            obtain ⟨y, hy, rfl, HJ⟩ := hrel
            obtain ⟨-, c1, -⟩ := (HB.out.kept HJ.out (by simp)).cells
            obtain ⟨gl, rfl, hcl⟩ := own_cellsN ((HS.out.keep HJ.out).own) (by omega)
            obtain ⟨e1, e2⟩ := hcs_cell .i64 g q x hlt
            have l0 := hcl _ _ e1
            have l1 := hcl _ _ e2
            have hrow := (HS.out.keep HJ.out).each x hlt
            have hfb := HGL.out x hlt
            obtain ⟨⟨a, l, c, m⟩, efx⟩ : ∃ z, g x = z := ⟨_, rfl⟩
            rw [efx] at l0 l1 hrow hy hfb ⊢
            simp only at l0 l1 hrow hy hfb ⊢
            by_cases hly : y < l
            · have iy : (y : Int) < (l : Int) := by omega
              obtain ⟨ga, rfl, hca⟩ := own_cellsN hrow (by omega)
              obtain ⟨z1, z2⟩ := spc_cell (List.replicate l (m, 0)) y (by simpa using hly)
              have ed : (List.replicate l (m, (0 : Int))).getD y (0, 0) = (m, 0) := by simp [hly]
              rw [ed, Nat.mul_comm] at z1 z2
              have m0 := hca _ _ z1
              have m1 := hca _ _ z2
              clear hcl e1 e2 hrow hca efx z1 z2 ed
              go_wp2_with (fail)
              go_quiet (fail)
              clear l0 l1 m0 m1 c1
              go_wp2
              go_roundw
              case rel => exact ⟨y + 1, by omega, by go_num, Hid.mk (HJ.out.drewN _)⟩
              case measure => simp [intOf]; omega
            · obtain rfl : l = y := by omega
              clear hcl e1 e2 hrow hly hy
              go_wp2
              go_roundw
              case rel => exact ⟨x + 1, by omega, by go_num, HJ⟩
              case measure => simp [intOf]; omega
        · obtain rfl : q = x := by omega
          clear hlt hx
          go_wp2
          go_ret
          exact ⟨rfl, HJ0.out⟩
end Go.Proofs.Ytiojcfffhcipnaa
