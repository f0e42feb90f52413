import Derived.Test.YtgjjnkhkjnkahaaDoorA3
import Derived.Test.YtgjjnkhkjnkahaaDoorB3
import Derived.Test.YtgjjnkhkjnkahaaDoorLa
import Derived.Deep.RegionHeldLaw
namespace Go.Proofs.YtgjjnkhkjnkahaaDoor
open Go.RowKit

/-- A sample mixed of two, the second one by p of o parts. -/
def mxv (x y p o : Nat) : Nat := (x * (o - p) + y * p + o / 2) / o
theorem mxv_le {x y p o M : Nat} (hx : x ≤ M) (hy : y ≤ M) (hp : p ≤ o) (ho : 1 ≤ o) : mxv x y p o ≤ M := by
  unfold mxv
  have h1 : x * (o - p) ≤ M * (o - p) := Nat.mul_le_mul_right _ hx
  have h2 : y * p ≤ M * p := Nat.mul_le_mul_right _ hy
  have h3 : M * (o - p) + M * p = M * o := by rw [← Nat.mul_add, Nat.sub_add_cancel hp]
  have : x * (o - p) + y * p + o / 2 < (M + 1) * o := by
    rw [Nat.add_mul, Nat.one_mul]; omega
  have := (Nat.div_lt_iff_lt_mul (show 0 < o by omega)).2 this
  omega
theorem w64_in {x : Int} (h0 : -9223372036854775808 ≤ x) (h1 : x ≤ 9223372036854775807) : wrap64 x = x := by unfold wrap64; omega
theorem wrap_u {x : Int} (h0 : 0 ≤ x) (h1 : x ≤ 65535) : IntKind.u16.wrap x = x := by
  simp only [IntKind.wrap, IntKind.bits, IntKind.signed]; simp; omega
/-- A number of either wrap. -/
theorem both_in (x : Int) (h0 : -9223372036854775808 ≤ x) (h1 : x ≤ 9223372036854775807) : IntKind.i64.wrap x = x ∧ wrap64 x = x := ⟨wrap_i h0 h1, w64_in h0 h1⟩
theorem both_eq {a x : Int} (h : a = x) (h0 : -9223372036854775808 ≤ x) (h1 : x ≤ 9223372036854775807) : IntKind.i64.wrap a = x ∧ wrap64 a = x := h ▸ both_in a (by omega) (by omega)
/-- The numbers of a sample that is mixed. -/
theorem mix_nums (x y p o hh : Nat) (hx : x ≤ 65535) (hy : y ≤ 65535) (hp : p ≤ o) (ho : 1 ≤ o) (ho2 : o ≤ 101) (eh : o / 2 = hh) : ∃ m q1 q2 q3 q4 : Nat, ∃ r : Nat, mxv x y p o = r ∧ r ≤ 65535 ∧
    (IntKind.i64.wrap ((o : Int) - (p : Int)) = (m : Int) ∧ wrap64 ((o : Int) - (p : Int)) = (m : Int)) ∧ (o : Int) - (p : Int) = (m : Int) ∧
    (IntKind.i64.wrap ((x : Int) * (m : Int)) = (q1 : Int) ∧ wrap64 ((x : Int) * (m : Int)) = (q1 : Int)) ∧
    (IntKind.i64.wrap ((y : Int) * (p : Int)) = (q2 : Int) ∧ wrap64 ((y : Int) * (p : Int)) = (q2 : Int)) ∧
    (IntKind.i64.wrap ((q1 : Int) + (q2 : Int)) = (q3 : Int) ∧ wrap64 ((q1 : Int) + (q2 : Int)) = (q3 : Int)) ∧
    (IntKind.i64.wrap ((q3 : Int) + (hh : Int)) = (q4 : Int) ∧ wrap64 ((q3 : Int) + (hh : Int)) = (q4 : Int)) ∧
    ((q4 : Int).tdiv (o : Int) = (r : Int) ∧ (q4 : Int) / (o : Int) = (r : Int)) ∧
    (IntKind.i64.wrap (r : Int) = (r : Int) ∧ wrap64 (r : Int) = (r : Int)) ∧ IntKind.u16.wrap (r : Int) = (r : Int) ∧
    (IntKind.i64.wrap (x : Int) = (x : Int) ∧ wrap64 (x : Int) = (x : Int)) ∧ (IntKind.i64.wrap (y : Int) = (y : Int) ∧ wrap64 (y : Int) = (y : Int)) := by
  have b1 : x * (o - p) ≤ 6619035 := Nat.le_trans (Nat.mul_le_mul hx (show o - p ≤ 101 by omega)) (by decide)
  have b2 : y * p ≤ 6619035 := Nat.le_trans (Nat.mul_le_mul hy (show p ≤ 101 by omega)) (by decide)
  have hle := mxv_le hx hy hp ho
  have e0 : (x : Int) * ((o - p : Nat) : Int) = ((x * (o - p) : Nat) : Int) := by simp
  have e1 : (y : Int) * (p : Int) = ((y * p : Nat) : Int) := by simp
  have hr : mxv x y p o = (x * (o - p) + y * p + hh) / o := by unfold mxv; rw [eh]
  obtain ⟨Q1, eQ1⟩ : ∃ Q, x * (o - p) = Q := ⟨_, rfl⟩
  obtain ⟨Q2, eQ2⟩ : ∃ Q, y * p = Q := ⟨_, rfl⟩
  rw [eQ1] at b1 e0 hr
  rw [eQ2] at b2 e1 hr
  obtain ⟨R, eR⟩ : ∃ R, mxv x y p o = R := ⟨_, rfl⟩
  rw [eR] at hle hr
  have hd1 : ((Q1 + Q2 + hh : Nat) : Int).tdiv (o : Int) = (R : Int) := by rw [hr]; rfl
  have hd2 : ((Q1 + Q2 + hh : Nat) : Int) / (o : Int) = (R : Int) := by rw [hr]; rfl
  exact ⟨o - p, Q1, Q2, Q1 + Q2, Q1 + Q2 + hh, R, eR, hle, both_eq (by omega) (by omega) (by omega), by omega, both_eq e0 (by omega) (by omega), both_eq e1 (by omega) (by omega), both_eq (by omega) (by omega) (by omega), both_eq (by omega) (by omega) (by omega), ⟨hd1, hd2⟩, both_in _ (by omega) (by omega), wrap_u (by omega) (by omega), both_in _ (by omega) (by omega), both_in _ (by omega) (by omega)⟩
/-- What is mixed as far as k samples. -/
def mxK (f0 f g : Nat → Nat) (p o k : Nat) : Nat → Nat := fun j => if j < k then mxv (f j) (g j) p o else f0 j

set_option maxHeartbeats 8000000 in
set_option maxRecDepth 1000000 in
theorem mixPlane_any (B n ca cb : Nat) (f0 f g : Nat → Nat) (ao bo : Option Addr) (p o : Nat) (w : World) (hr : Row w B n f0) (ha : Rd w ao n f) (hb : Rd w bo n g) (hao : ∀ x y, ao = some ⟨x, y, none⟩ → x ≠ B) (hbo : ∀ x y, bo = some ⟨x, y, none⟩ → x ≠ B) (hp : p ≤ o) (ho : 1 ≤ o) (ho2 : o ≤ 101) (hf : ∀ i, i < n → f i ≤ 65535) (hg : ∀ i, i < n → g i ≤ 65535) (hn : n ≤ 1000000000) :
    Calls Tryd.prog 17 #[.slice (some ⟨B, 0, none⟩) n n, .slice ao n ca, .slice bo n cb, .int .i64 (p : Int), .int .i64 (o : Int)] w fun e w' => e = .returned (.tuple #[]) ∧ Row w' B n (fun j => mxv (f j) (g j) p o) ∧ Kept [B] w w' := by
  have HR : Hid (Row w B n (mxK f0 f g p o 0)) := Hid.mk (hr.congr (fun j _ => by unfold mxK; rw [if_neg (by omega)]))
  obtain ⟨hh, eh⟩ : ∃ hh : Nat, o / 2 = hh := ⟨_, rfl⟩
  have eh2 : (o : Int).tdiv 2 = (hh : Int) := by rw [← eh]; rw [Int.tdiv_eq_ediv_of_nonneg (by omega)]; rfl
  have eh3 : (o : Int) / 2 = (hh : Int) := by rw [← eh]; rfl
  have HA := Hid.mk (And.intro ha (And.intro hb (And.intro hao (And.intro hbo (And.intro hf hg)))))
  have ho' : (1 : Int) ≤ (o : Int) := by omega
  have ho2' : (o : Int) ≤ 101 := by omega
  have hp' : (p : Int) ≤ (o : Int) := by omega
  have EH := Hid.mk eh
  clear ha hb hao hbo hf hg hr eh
  go_enter Tryd.func17, Tryd.ntmps17
  go_wp2_with (fail)
  go_loopw [16] (fun i wr => ∃ k : Nat, k ≤ n ∧ i = .int .i64 (k : Int) ∧ Row wr B n (mxK f0 f g p o k) ∧ Kept [B] w wr) (fun i _ => n - (intOf i).toNat)
  case atStart => exact ⟨0, by omega, rfl, HR.out, Kept.refl _ _⟩
  case round =>
    obtain ⟨k, hk, rfl, hrow, hkr⟩ := hrel
    have HRW := Hid.mk hrow
    have HK := Hid.mk hkr
    by_cases hlt : k < n
    · have ix : (k : Int) < (n : Int) := by omega
      obtain ⟨h1, h2, h3, h4, h5, h6⟩ := HA.out
      obtain ⟨ga, oa, rfl, ca1⟩ := h1.at hlt
      obtain ⟨gb, ob, rfl, cb1⟩ := h2.at hlt
      have c1 := cell_keep hkr ca1 (by simpa using h3 _ _ rfl)
      have c2 := cell_keep hkr cb1 (by simpa using h4 _ _ rfl)
      have c3 := hrow.at hlt
      have c4 := hrow.fz k
      have hx := h5 k hlt
      have hy := h6 k hlt
      have hne1 := h3 _ _ rfl
      have hne2 := h4 _ _ rfl
      obtain ⟨x, ex⟩ : ∃ x, f k = x := ⟨_, rfl⟩
      obtain ⟨y, ey⟩ : ∃ y, g k = y := ⟨_, rfl⟩
      obtain ⟨z, ez⟩ : ∃ z, mxK f0 f g p o k k = z := ⟨_, rfl⟩
      rw [ex] at c1 hx
      rw [ey] at c2 hy
      rw [ez] at c3
      have HV : Hid (mxv (f k) (g k) p o = mxv x y p o) := Hid.mk (by rw [ex, ey])
      obtain ⟨m, q1, q2, q3, q4, r, hr2, hle, ⟨j1, l1⟩, n1, ⟨j2, l2⟩, ⟨j3, l3⟩, ⟨j4, l4⟩, ⟨j5, l5⟩, ⟨i5, i6⟩, ⟨j6, l6⟩, j7, ⟨jx, lx⟩, ⟨jy, ly⟩⟩ := mix_nums x y p o hh hx hy hp ho ho2 EH.out
      rw [hr2] at HV
      have j8 : ((o : Int) == 0) = false := by clear j1 l1 n1 j2 l2 j3 l3 j4 l4 j5 l5 i5 i6 j6 l6 j7 jx lx jy ly; simp; omega
      have j9 : ¬ (o : Int) = 0 := by clear j1 l1 n1 j2 l2 j3 l3 j4 l4 j5 l5 i5 i6 j6 l6 j7 jx lx jy ly; omega
      have S2 := HRW.out.set (i := k) (v := r)
      have HS : Hid (Row (wr.setCell ⟨B, k, none⟩ (.int .u16 (r : Int))) B n (mxK f0 f g p o (k + 1))) := Hid.mk (S2.congr (fun j hj => by
        unfold mxK
        by_cases e : j = k
        · subst e; rw [if_pos rfl, if_pos (Nat.lt_succ_self _), HV.out]
        · rw [if_neg e]
          by_cases e2 : j < k
          · rw [if_pos e2, if_pos (Nat.lt_succ_of_lt e2)]
          · rw [if_neg e2, if_neg (fun h => (Nat.lt_succ_iff_lt_or_eq.1 h).elim e2 e)]))
      have hset : Kept [B] wr (wr.setCell ⟨B, k, none⟩ (.int .u16 (r : Int))) := (Kept.refl [B] wr).setCell (p := ⟨B, k, none⟩) (.inl (by simp)) _
      have c1' := cell_keep hset c1 (by simpa using hne1)
      have c2' := cell_keep hset c2 (by simpa using hne2)
      have HK2 := Hid.mk (HK.out.trans hset)
      clear S2 hset hrow hkr h1 h2 h3 h4 h5 h6 ca1 cb1 ex ey ez hx hy hr2 hle
      go_upto_region 4 with (fail)
      go_region_held_law (fun w' => w'.cell? ⟨ga, oa + k, none⟩ = some (.int .u16 (x : Int)) ∧ w'.cell? ⟨gb, ob + k, none⟩ = some (.int .u16 (y : Int))) (first | exact ⟨c1, c2⟩ | exact ⟨c1', c2'⟩ | go_keep) (fail)
      all_goals go_wp2
      all_goals go_roundw
      all_goals first
        | exact ⟨k + 1, hlt, by go_num, HS.out, HK2.out⟩
        | exact ⟨k + 1, hlt, by go_num, HS.out.keep ((Kept.refl [] _).drewN _) (by simp), HK2.out.drewN _⟩
        | (simp [intOf]; exact Nat.sub_lt_sub_left hlt (Nat.lt_succ_self _))
    · obtain rfl : n = k := by omega
      have HE : Hid (Row wr B n (fun j => mxv (f j) (g j) p o)) := Hid.mk (hrow.congr (fun j hj => by unfold mxK; rw [if_pos hj]))
      clear hrow hkr
      go_wp2
      refine bodyPost_end (v := .tuple #[]) (results_none rfl _ _ _) rfl ?_
      exact ⟨rfl, HE.out, HK.out⟩
end Go.Proofs.YtgjjnkhkjnkahaaDoor
