import Derived.Test.YtbhhkcgicajlcaaGreatDooryK0Z
import Derived.Test.YtbhhkcgicajlcaaGreatDooryM2Z
import Derived.Deep.WholeRow
import Derived.Deep.MidRow
import Derived.Laws.ResultCell
import Derived.Deep.RegionLaw
namespace Go.Proofs.YtbhhkcgicajlcaaGreatDoor.Py
open Go.RowKit

/-- The cells of a table of which k places are filled. -/
def tabC (a k : Nat) : List Value := (List.range 256).map fun j => .int .u8 (if j < k then (mu a j : Int) else 0)
def tabA (a : Nat) : Array Value := (tabC a 256).toArray

theorem tabC_length (a k : Nat) : (tabC a k).length = 256 := by simp [tabC]
theorem tabC_at (a k j : Nat) (hj : j < 256) : (tabC a k)[j]? = some (.int .u8 (if j < k then (mu a j : Int) else 0)) := by simp [tabC, hj]
theorem tabC_zero (a : Nat) : tabC a 0 = List.replicate 256 (.int .u8 0) := by
  unfold tabC
  apply List.ext_getElem?
  intro i
  by_cases h : i < 256
  · rw [List.getElem?_map, List.getElem?_range h, List.getElem?_replicate, if_pos h]; simp only [Option.map_some, Nat.not_lt_zero, if_false]
  · rw [List.getElem?_eq_none (by rw [List.length_map, List.length_range]; omega), List.getElem?_eq_none (by rw [List.length_replicate]; omega)]
theorem tabC_start (a : Nat) : (tabC a 0).toArray = Array.replicate 256 (.int .u8 0) := by rw [tabC_zero]; exact List.toArray_replicate ..
theorem tabC_set (a k : Nat) (hk : k < 256) : (tabC a k).set k (.int .u8 (mu a k : Int)) = tabC a (k + 1) := by
  apply List.ext_getElem?
  intro i
  by_cases h : i < 256
  · rw [List.getElem?_set, tabC_at _ _ _ h, tabC_at _ _ _ h]
    by_cases e : k = i
    · subst e; simp [tabC_length, hk]
    · rw [if_neg e]
      have : (i < k) = (i < k + 1) := by apply propext; omega
      simp [this]
  · rw [List.getElem?_eq_none (by simp [tabC_length]; omega), List.getElem?_eq_none (by simp [tabC_length]; omega)]
theorem tabC_one (a k : Nat) : ∀ v ∈ tabC a k, v.oneCell' = true := by
  intro v hv
  simp only [tabC, List.mem_map] at hv
  obtain ⟨j, _, rfl⟩ := hv
  rfl

theorem mu_t2 (a x : Nat) (hx : x < 256) : mu a (t2 x) = t2 (mu a x) := by
  rw [t2_tx hx, t2_tx (mu_lt _ _)]
  unfold mu
  rw [el_toNat, el_toNat, M_tx]
theorem half_all : ∀ k : Fin 256, k.val = t2 (k.val / 2) ^^^ (k.val % 2) := by decide +kernel
theorem tb_half (a k : Nat) (ha : a < 256) (hk : k < 256) : mu a k = t2 (mu a (k / 2)) ^^^ (if k % 2 = 1 then a else 0) := by
  have h := half_all ⟨k, hk⟩
  simp only at h
  rw [← mu_t2 _ _ (by omega)]
  have e : mu a k = mu a (t2 (k / 2) ^^^ (k % 2)) := by rw [← h]
  rw [e, mu_xor]
  congr 1
  rcases Nat.mod_two_eq_zero_or_one k with h2 | h2
  · rw [h2, mu_zero]; rfl
  · rw [h2, mu_one ha]; rfl
theorem tab_read (a k : Nat) (hk : k < 256) : (tabC a k)[k / 2]? = some (.int .u8 (mu a (k / 2) : Int)) := by
  rw [tabC_at _ _ _ (by omega)]
  by_cases h : k / 2 < k
  · rw [if_pos h]
  · have : k = 0 := by omega
    subst this
    rw [if_neg (by omega), show 0 / 2 = 0 from rfl, mu_zero]; rfl

theorem Tryz.infoT : (Tryz.prog.info? 202).map (fun i => (i.zero, i.size)) = some (some (.agg (Array.replicate 256 (.int .u8 0))), 256) := by kernel_rfl
theorem Tryz.underT : Tryz.prog.underlying 202 = some (.array 256 5) := by kernel_rfl

theorem tabA_size (a : Nat) : (tabA a).size = 256 := by simp [tabA, tabC_length]
theorem tabA_one (a : Nat) : (tabA a).all (·.oneCell') = true := all_oneCell_toArray (tabC_one a 256)
theorem tabA_at (a j : Nat) (hj : j < 256) : (tabA a)[j]? = some (.int .u8 (mu a j : Int)) := by
  rw [tabA, List.getElem?_toArray, tabC_at _ _ _ hj, if_pos hj]

theorem setRow_kept (w : World) (g : Nat) (cs : Array Value) : Kept [g] w (w.setRow g cs) :=
  ⟨rfl, rfl, rfl, by simp [World.setRow], fun k _ hk => setRow_other w g k _ (by simpa using hk)⟩

theorem storeCells_row (w : World) (g : Nat) (t : TypeId) (cs old : List Value) (hg : w.heap[g]? = some (.cells old.toArray t (0, 0))) (hl : old.length = cs.length) (h1 : ∀ v ∈ cs, v.oneCell' = true) :
    Sem.run Tryz.prog (storeCells ⟨g, 0, none⟩ cs) w = .ok () (w.setRow g cs.toArray) := by
  have := run_storeCells_from (P := Tryz.prog) g t cs 0 old.toArray w hg (by simp; omega) h1
  simpa using this

theorem table_stored (a : Nat) (u : World) : Sem.run Tryz.prog (storeCells ⟨u.heap.size, 0, none⟩ (tabA a).toList) (u.alloc (.cells (Array.replicate 256 (.int .u8 0)) 202)) = .ok () (u.alloc (.cells (tabA a) 202)) := by
  obtain ⟨hvT, hiT⟩ := zero_of_info Tryz.infoT
  exact run_storeCells_new u 202 _ (tabA a) (by rw [tabA_size]; exact hiT) (by rw [tabA_size, Array.size_replicate]) (tabA_one a)
end Go.Proofs.YtbhhkcgicajlcaaGreatDoor.Py

namespace Go.Proofs.YtbhhkcgicajlcaaGreatDoor.Py
open Go.RowKit

/-- A row, and another one f times. -/
def am (f : Nat) (p q : Nat → Nat) : Nat → Nat := fun j => p j ^^^ mu f (q j)

end Go.Proofs.YtbhhkcgicajlcaaGreatDoor.Py

namespace Go.Proofs.YtbhhkcgicajlcaaGreatDoor.Py
open Go.RowKit

theorem pow_xor_all : ∀ k : Fin 8, ∀ l : Fin 128, l.val < 2 ^ k.val → 2 ^ k.val ^^^ l.val = 2 ^ k.val + l.val := by decide +kernel
theorem pow_le_all : ∀ k : Fin 8, 2 ^ k.val ≤ 128 := by decide +kernel

theorem tabC_first (a : Nat) : tabC a 1 = tabC a 0 := by
  unfold tabC
  apply List.map_congr_left
  intro j _
  by_cases h : j < 1
  · obtain rfl : j = 0 := by omega
    simp [mu_zero]
  · simp [h]

set_option maxHeartbeats 2000000 in
set_option maxRecDepth 1000000 in
theorem pmul_any (a : Nat) (ha : a < 256) (w : World) :
    Calls Tryz.prog 130 #[.int .u8 (a : Int)] w fun e w' => e = .returned (.agg (tabA a)) ∧ Kept [] w w' := by
  obtain ⟨hvT, hiT⟩ := zero_of_info Tryz.infoT
  have Hi := Hid.mk hiT
  clear hiT
  go_enter Tryz.func130, Tryz.ntmps130
  go_wp2
  clear hvT
  go_loopw [8] (fun i wr => ∃ k : Nat, k ≤ 8 ∧ i = .int .i64 (k : Int) ∧ wr.heap[w.heap.size]? = some (.cells (tabC a 0).toArray 202 (0, 0)) ∧ wr.heap[w.heap.size + 1]? = some (.cells (tabC a (2 ^ k)).toArray 202 (0, 0)) ∧ Kept [] w wr)
    (fun i _ => 8 - (intOf i).toNat)
  case atStart =>
    refine ⟨0, by omega, rfl, ?_, ?_, ((Kept.refl _ _).alloc _).alloc _⟩
    · rw [heap_alloc_old _ _ (by simp), heap_alloc_new, tabC_start]
    · rw [heap_alloc2_new, show (2 : Nat) ^ 0 = 1 from rfl, tabC_first, tabC_start]
  case round =>
    obtain ⟨k, hk, rfl, h0, h1, hkr⟩ := hrel
    have H0 := Hid.mk h0
    have H1 := Hid.mk h1
    have Hk := Hid.mk hkr
    clear h0 h1 hkr
    by_cases hlt : k < 8
    · have hp2 := pow_le_all ⟨k, hlt⟩
      have hpp := Nat.two_pow_pos k
      have Hx := Hid.mk (pow_xor_all ⟨k, hlt⟩)
      have Hs := Hid.mk (Nat.pow_succ 2 k)
      simp only at hp2 Hx
      have hq : ((2 ^ k : Nat) : Int) = (2 : Int) ^ k := by simp
      obtain ⟨h, hh⟩ : ∃ h : Nat, h = 2 ^ k := ⟨_, rfl⟩
      rw [← hh] at hp2 hpp Hx hq H1 Hs
      have Hh := Hid.mk hh
      clear hh
      have Hm1 := Hid.mk (mul_any a h ha (by omega))
      have hsh : wrap64 ((2 : Int) ^ k) = (h : Int) := by rw [← hq]; unfold wrap64; omega
      have hsm : (h : Int) % 256 = (h : Int) := by omega
      clear hq
      have Hpp := Hid.mk hpp
      clear hpp
      go_wp2_with (go_at_call 149; rw [hsh]; refine (Hm1.out _).mono ?_; rintro e w1 ⟨rfl, m, hw1⟩; clear hsh hsm; have hk1 : Kept [] wr w1 := by { rw [hw1]; exact (Kept.refl _ _).drewN m }; clear hw1)
      have hpp := Hpp.out
      have H0' := Hid.mk (hk1.heap H0.out (by simp))
      have H1' := Hid.mk (hk1.heap H1.out (by simp))
      have Hk' := Hid.mk (Hk.out.trans hk1)
      have hmu := mu_lt a h
      obtain ⟨y, hy⟩ : ∃ y, y = mu a h := ⟨_, rfl⟩
      have Hy := Hid.mk hy
      rw [← hy] at hmu ⊢
      clear hy hk1 H0 H1 Hk
      go_loopw [18] (fun i wx => ∃ l : Nat, l ≤ h ∧ i = .int .i64 (l : Int) ∧ wx.heap[w.heap.size]? = some (.cells (tabC a 0).toArray 202 (0, 0)) ∧ wx.heap[w.heap.size + 1]? = some (.cells (tabC a (h + l)).toArray 202 (0, 0)) ∧ Kept [] w wx)
        (fun i _ => h - (intOf i).toNat)
      case atStart => exact ⟨0, by omega, rfl, H0'.out, H1'.out, Hk'.out⟩
      case round =>
        obtain ⟨l, hl, rfl, g0, g1, gk⟩ := hrel
        have G0 := Hid.mk g0
        have G1 := Hid.mk g1
        have Gk := Hid.mk gk
        clear g0 g1 gk
        by_cases hll : l < h
        · have hcell : wr.cell? ⟨w.heap.size + 1, l, none⟩ = some (.int .u8 (mu a l : Int)) := by
            rw [cell_of_row _ _ _ _ _ _ G1.out, List.getElem?_toArray, tabC_at _ _ _ (by omega), if_pos (by omega)]
          obtain ⟨u, hu⟩ : ∃ u, wr.cell? ⟨w.heap.size + 1, h + l, none⟩ = some u := row_cell_at G1.out (by rw [tabC_length]; omega)
          have hfz : wr.frozen? ⟨w.heap.size + 1, h + l, none⟩ = false := by simp [World.frozen?, G1.out]
          have He : mu a (h + l) = y ^^^ mu a l := by rw [Hy.out, ← mu_xor, Hx.out ⟨l, by omega⟩ hll]
          have hA1 := mu_lt a l
          obtain ⟨A, hA⟩ : ∃ A, A = mu a l := ⟨_, rfl⟩
          rw [← hA] at He hcell hA1
          clear hA
          have hx := u8_xor_nat y A hmu hA1
          have HE := Hid.mk He
          clear He
          have ix : ((h : Int) + (l : Int)) < 256 := by omega
          go_wp2
          refine ⟨⟨l + 1, by omega, by go_num, ?_, ?_, Gk.out.setCell (p := ⟨w.heap.size + 1, h + l, none⟩) (.inr (by simp)) _⟩, by simp [intOf]; omega⟩
          · rw [Below.heap_setCell _ _ _ _ (by simp)]; exact G0.out
          · rw [heap_setCell_at G1.out, List.setIfInBounds_toArray, ← HE.out, tabC_set a (h + l) (by omega), Nat.add_assoc]
        · obtain rfl : h = l := by omega
          go_wp2
          go_roundw
          case rel => exact ⟨k + 1, by omega, by go_num, G0.out, by rw [Hs.out, Nat.mul_two]; exact G1.out, Gk.out⟩
          case measure => simp [intOf]; omega
    · obtain rfl : k = 8 := by omega
      have hi := Hi.out
      have h1 := H1.out
      have e1 : (tabC a (2 ^ 8)).toArray = tabA a := rfl
      rw [e1] at h1
      clear e1
      have H1 := Hid.mk h1
      have HI := Hid.mk hi
      clear h1 hi
      go_wp2
      refine wp_load_row 202 _ (by rfl) (w.heap.size + 1) (by rfl) 202 (tabA a) (0, 0) (.array 256 5) H1.out Tryz.underT rfl (by rw [tabA_size]; exact HI.out) ?_
      have hsc := storeCells_row wr w.heap.size 202 (tabA a).toList _ H0.out (by simp [tabC_length, tabA_size]) (fun v hv => (Array.all_eq_true_iff_forall_mem.1 (tabA_one a)) v (by simpa using hv))
      obtain ⟨wz, hz⟩ : ∃ wz, wz = wr.setRow w.heap.size (tabA a).toList.toArray := ⟨_, rfl⟩
      have hr : wz.heap[w.heap.size]? = some (.cells (tabA a) 202 (0, 0)) := by rw [hz, Array.toArray_toList]; exact setRow_heap wr _ _ _ 202 _ H0.out
      have hK : Kept [] w wz := by rw [hz]; exact Hk.out.step (setRow_kept _ _ _) (fun x hx => by simp at hx; subst hx; exact .inr (Nat.le_refl _))
      rw [← hz] at hsc
      have Hr := Hid.mk hr
      have HK := Hid.mk hK
      clear hr hK hz
      go_wp2
      refine bodyPost_ret (v := .agg (tabA a)) ?_ rfl ⟨rfl, HK.out⟩
      exact results_cell_row rfl _ _ w.heap.size 202 (tabA a) (0, 0) (.array 256 5) rfl Hr.out Tryz.underT rfl (by rw [tabA_size]; exact HI.out)
end Go.Proofs.YtbhhkcgicajlcaaGreatDoor.Py

namespace Go.Proofs.YtbhhkcgicajlcaaGreatDoor.Py
open Go.RowKit

/-- A flat row, to a part of which another row is added f times. -/
def adm (Z : Nat → Nat) (o n f : Nat) (l : List Nat) : Nat → Nat := fun q => if o ≤ q ∧ q < o + n then Z q ^^^ mu f (l.getD (q - o) 0) else Z q
theorem adm_lo {Z : Nat → Nat} (h : ∀ q, Z q < 256) (o n f : Nat) (l : List Nat) : ∀ q, adm Z o n f l q < 256 := by
  intro q
  unfold adm
  split
  · exact xor_lt (h q) (mu_lt _ _)
  · exact h q
/-- Rows that lie apart, or not where it matters. -/
def Apt (bo : Option Addr) (m b o n : Nat) : Prop := 0 < m → ∀ g off, bo = some ⟨g, off, none⟩ → g ≠ b ∨ off + m ≤ o ∨ o + n ≤ off

theorem cell_other {w : World} {g off b o : Nat} {u : Value} (h : g ≠ b ∨ off ≠ o) : (w.setCell ⟨b, o, none⟩ u).cell? ⟨g, off, none⟩ = w.cell? ⟨g, off, none⟩ := by
  by_cases e : g = b
  · subst e
    rcases h with h | h
    · exact absurd rfl h
    · exact World.cell?_setCell_other _ _ _ _ (by intro e; cases e; exact h rfl)
  · exact World.cell?_of_block (a := ⟨g, off, none⟩) (Below.heap_setCell _ _ _ _ (by simpa using e))

theorem _root_.Go.Proofs.YtbhhkcgicajlcaaGreatDoor.Reads.setApt {w : World} {bo : Option Addr} {l : List Nat} {b o n k : Nat} (h : Reads w bo l) (ha : Apt bo l.length b o n) (hk : k < n) (u : Value) : Reads (w.setCell ⟨b, o + k, none⟩ u) bo l := by
  rcases h with h | ⟨g, off, rfl, hc⟩
  · exact .inl h
  · refine .inr ⟨g, off, rfl, fun i hi => ?_⟩
    rw [cell_other (by rcases ha (by omega) g off rfl with h | h | h; exact .inl h; exact .inr (by omega); exact .inr (by omega))]
    exact hc i hi

theorem adm_zero (Z : Nat → Nat) (o f : Nat) (l : List Nat) : adm Z o 0 f l = Z := by
  funext q
  exact if_neg (by omega)
theorem adm_at (Z : Nat → Nat) (o k f : Nat) (l : List Nat) : adm Z o k f l (o + k) = Z (o + k) := if_neg (by omega)
theorem adm_next (Z : Nat → Nat) (o k f : Nat) (l : List Nat) : ∀ j, adm Z o (k + 1) f l j = if j = o + k then Z (o + k) ^^^ mu f (l.getD k 0) else adm Z o k f l j := by
  intro j
  unfold adm
  by_cases e : j = o + k
  · subst e
    rw [if_pos (by omega), if_pos rfl, Nat.add_sub_cancel_left]
  · rw [if_neg e]
    have : (o ≤ j ∧ j < o + (k + 1)) = (o ≤ j ∧ j < o + k) := by apply propext; omega
    simp only [this]
theorem adm_end (Z : Nat → Nat) (o n f k : Nat) (l : List Nat) (h1 : k ≤ n) (h2 : k = n ∨ k = l.length) : adm Z o k f l = adm Z o n f l := by
  funext q
  rcases h2 with rfl | rfl
  · rfl
  · unfold adm
    by_cases a : o ≤ q ∧ q < o + l.length
    · rw [if_pos a, if_pos (by omega)]
    · rw [if_neg a]
      by_cases c : o ≤ q ∧ q < o + n
      · rw [if_pos c, List.getD_eq_getElem?_getD, List.getElem?_eq_none (by omega), Option.getD_none, mu_zero, Nat.xor_zero]
      · rw [if_neg c]

theorem Row.put {w : World} {b T q x : Nat} {P Q : Nat → Nat} {u : Value} (h : Row w b (rg P T)) (hQ : ∀ j, Q j = if j = q then x else P j) (hu : u = byt x) : Row (w.setCell ⟨b, q, none⟩ u) b (rg Q T) := by
  subst hu
  unfold Row at h ⊢
  rw [heap_setCell_at h, List.setIfInBounds_toArray, ← List.map_set]
  congr 4
  apply List.ext_getElem?
  intro j
  by_cases hj : j < T
  · rw [List.getElem?_set, rg_at _ _ _ hj, rg_at _ _ _ hj, rg_length, hQ j]
    by_cases e : q = j
    · subst e; simp [hj]
    · rw [if_neg e, if_neg (Ne.symm e)]
  · rw [List.getElem?_eq_none (by simp [rg_length]; omega), List.getElem?_eq_none (by simp [rg_length]; omega)]

set_option maxHeartbeats 2000000 in
set_option maxRecDepth 1000000 in
theorem padd_any (b o n cap f m cb T : Nat) (bo : Option Addr) (Z : Nat → Nat) (l : List Nat) (hf : f < 256) (w : World) (hr : Row w b (rg Z T)) (hoT : o + n ≤ T) (hZ : ∀ q, Z q < 256) (hl : Byts l) (hm : l.length = m) (ho : f ≠ 0 → Reads w bo l) (hcb : m ≤ cb) (hne : f ≠ 0 → Apt bo l.length b o n) (hn : n ≤ 140737488355328) (hm1 : m ≤ 140737488355328) :
    Calls Tryz.prog 111 #[.slice (some ⟨b, o, none⟩) n cap, .int .u8 (f : Int), .slice bo m cb] w fun e w' => e = .returned (.tuple #[]) ∧ Row w' b (rg (adm Z o n f l) T) ∧ Kept [b] w w' := by
  by_cases hf0 : f = 0
  · subst hf0
    have HR : Hid (Row w b (rg (adm Z o n 0 l) T)) := Hid.mk (by rw [rg_congr (q := Z) (fun j _ => by rw [adm, zero_mu, Nat.xor_zero, ite_self])]; exact hr)
    clear hr hZ hl ho hne hm hcb
    go_enter Tryz.func111, Tryz.ntmps111
    go_wp2
    refine bodyPost_ret (v := .tuple #[]) (results_none rfl _ _ _) rfl ?_
    exact ⟨rfl, HR.out, Kept.refl _ _⟩
  · have hf1 : ((f : Int) == 0) = false := by simp; omega
    obtain ⟨hvT, hiT⟩ := zero_of_info Tryz.infoT
    clear hiT
    have hsc := table_stored f
    have Hr := Hid.mk hr
    have Hb := Hid.mk hr.lt
    have Ho := Hid.mk (ho hf0)
    have Hne := Hid.mk (hne hf0)
    have Hm := Hid.mk hm
    clear hr hf0 ho hne hm
    by_cases h : m ≤ n
    · have em : min (n : Int) (m : Int) = (m : Int) := by omega
      go_enter Tryz.func111, Tryz.ntmps111
      go_wp2_with (go_at_call 130; refine (pmul_any _ hf _).mono ?_; rintro e w1 ⟨rfl, hk1⟩)
      all_goals (
        clear hsc hvT
        have Hl := Hid.mk hl
        clear hl
        obtain ⟨X, hX⟩ : ∃ X, X = w1.heap.size := ⟨_, rfl⟩
        have Ht : Hid ((w1.alloc (.cells (tabA f) 202)).heap[X]? = some (.cells (tabA f) 202 (0, 0))) := Hid.mk (by rw [hX, heap_alloc_new])
        have HK : Hid (Kept [b] w (w1.alloc (.cells (tabA f) 202))) := Hid.mk ((hk1.alloc _).mono (by simp))
        have HR := Hid.mk (Hr.out.keep (hk1.alloc (.cells (tabA f) 202)) (by simp))
        have HO := Hid.mk (Ho.out.keep (hk1.alloc (.cells (tabA f) 202)))
        have HbT : Hid (b ≠ X) := Hid.mk (by have := hk1.size; have := Hb.out; omega)
        obtain ⟨w2, hw2⟩ : ∃ w2, w2 = w1.alloc (.cells (tabA f) 202) := ⟨_, rfl⟩
        rw [← hX, ← hw2]
        rw [← hw2] at Ht HK HR HO
        clear hw2 hX hk1 Hr Ho em)
      have HcZ : Hid (m ≤ n ∧ m ≤ m ∧ (m = n ∨ m = m)) := Hid.mk (by omega)
      clear h
      go_loopw [22] (fun i wr => ∃ k : Nat, k ≤ m ∧ i = .int .i64 (k : Int) ∧ Row wr b (rg (adm Z o k f l) T) ∧ wr.heap[X]? = some (.cells (tabA f) 202 (0, 0)) ∧ Reads wr bo l ∧ Kept [b] w wr) (fun i _ => m - (intOf i).toNat)
      case atStart => exact ⟨0, by omega, rfl, by rw [adm_zero]; exact HR.out, Ht.out, HO.out, HK.out⟩
      case round =>
        obtain ⟨k, hk, rfl, hrow, htab, hrd, hkr⟩ := hrel
        have hcZ := HcZ.out
        by_cases hlt : k < m
        · have hcell := hrow.at (j := o + k) (by rw [rg_length]; omega)
          rw [rg_getD _ _ _ (by omega), adm_at] at hcell
          obtain ⟨g, off, hg, hco⟩ := hrd.cell (j := k) (by rw [Hm.out]; omega)
          have hfz := hrow.fz (o + k)
          have hpk := hZ (o + k)
          have hqk := getD_lt l k Hl.out
          have ht : wr.cell? ⟨X, l.getD k 0, none⟩ = some (.int .u8 (mu f (l.getD k 0) : Int)) := by
            rw [cell_of_row _ _ _ _ _ _ htab, tabA_at _ _ hqk]
          have hx := u8_xor_nat (Z (o + k)) (mu f (l.getD k 0)) hpk (mu_lt _ _)
          have Hrow := Hid.mk (fun u hu => hrow.put (q := o + k) (x := Z (o + k) ^^^ mu f (l.getD k 0)) (Q := adm Z o (k + 1) f l) (u := u) (adm_next Z o k f l) hu)
          have Htab := Hid.mk htab
          have Hkr := Hid.mk hkr
          have Hrd : Hid (∀ u, Reads (wr.setCell ⟨b, o + k, none⟩ u) bo l) := Hid.mk (fun u => hrd.setApt Hne.out (by omega) u)
          clear hrow htab hkr hrd hcZ
          obtain ⟨x, e⟩ : ∃ x, x = Z (o + k) := ⟨_, rfl⟩
          rw [← e] at hcell hpk hx Hrow
          clear e
          obtain ⟨y, e⟩ : ∃ y, y = l.getD k 0 := ⟨_, rfl⟩
          rw [← e] at hco hqk ht hx Hrow
          clear e
          obtain ⟨z, e⟩ : ∃ z, z = mu f y := ⟨_, rfl⟩
          rw [← e] at ht hx Hrow
          clear e
          have hT : ¬ X = b := Ne.symm HbT.out
          have Hg := Hid.mk hg
          subst hg
          have ix : (k : Int) < (m : Int) := by omega
          have ixn : (k : Int) < (n : Int) := by have := HcZ.out; omega
          have iy : (y : Int) < 256 := by omega
          go_wp2
          go_region_law (fail)
          all_goals go_wp2
          all_goals go_roundw
          all_goals first
            | exact ⟨k + 1, by omega, by go_num, Hrow.out _ rfl, (by show (World.setCell _ _ _).heap[X]? = _; rw [Below.heap_setCell _ _ _ _ (by simpa using hT)]; exact Htab.out), (Hrd.out _).keep ((Kept.refl [] _).drew), (Hkr.out.setCell (p := ⟨b, o + k, none⟩) (.inl (by simp)) _).drew⟩
            | (simp [intOf]; omega)
        · obtain rfl : m = k := by omega
          rw [adm_end Z o n f _ l (by omega) (by have := Hm.out; omega)] at hrow
          have Hrow := Hid.mk hrow
          have Hkr := Hid.mk hkr
          clear hrow htab hkr hrd hcZ HcZ
          go_wp2
          go_end0
          exact ⟨rfl, Hrow.out, Hkr.out⟩
    · have em : min (n : Int) (m : Int) = (n : Int) := by omega
      go_enter Tryz.func111, Tryz.ntmps111
      go_wp2_with (go_at_call 130; refine (pmul_any _ hf _).mono ?_; rintro e w1 ⟨rfl, hk1⟩)
      all_goals (
        clear hsc hvT
        have Hl := Hid.mk hl
        clear hl
        obtain ⟨X, hX⟩ : ∃ X, X = w1.heap.size := ⟨_, rfl⟩
        have Ht : Hid ((w1.alloc (.cells (tabA f) 202)).heap[X]? = some (.cells (tabA f) 202 (0, 0))) := Hid.mk (by rw [hX, heap_alloc_new])
        have HK : Hid (Kept [b] w (w1.alloc (.cells (tabA f) 202))) := Hid.mk ((hk1.alloc _).mono (by simp))
        have HR := Hid.mk (Hr.out.keep (hk1.alloc (.cells (tabA f) 202)) (by simp))
        have HO := Hid.mk (Ho.out.keep (hk1.alloc (.cells (tabA f) 202)))
        have HbT : Hid (b ≠ X) := Hid.mk (by have := hk1.size; have := Hb.out; omega)
        obtain ⟨w2, hw2⟩ : ∃ w2, w2 = w1.alloc (.cells (tabA f) 202) := ⟨_, rfl⟩
        rw [← hX, ← hw2]
        rw [← hw2] at Ht HK HR HO
        clear hw2 hX hk1 Hr Ho em)
      have HcZ : Hid (n ≤ n ∧ n ≤ m ∧ (n = n ∨ n = m)) := Hid.mk (by omega)
      clear h
      go_loopw [22] (fun i wr => ∃ k : Nat, k ≤ n ∧ i = .int .i64 (k : Int) ∧ Row wr b (rg (adm Z o k f l) T) ∧ wr.heap[X]? = some (.cells (tabA f) 202 (0, 0)) ∧ Reads wr bo l ∧ Kept [b] w wr) (fun i _ => n - (intOf i).toNat)
      case atStart => exact ⟨0, by omega, rfl, by rw [adm_zero]; exact HR.out, Ht.out, HO.out, HK.out⟩
      case round =>
        obtain ⟨k, hk, rfl, hrow, htab, hrd, hkr⟩ := hrel
        have hcZ := HcZ.out
        by_cases hlt : k < n
        · have hcell := hrow.at (j := o + k) (by rw [rg_length]; omega)
          rw [rg_getD _ _ _ (by omega), adm_at] at hcell
          obtain ⟨g, off, hg, hco⟩ := hrd.cell (j := k) (by rw [Hm.out]; omega)
          have hfz := hrow.fz (o + k)
          have hpk := hZ (o + k)
          have hqk := getD_lt l k Hl.out
          have ht : wr.cell? ⟨X, l.getD k 0, none⟩ = some (.int .u8 (mu f (l.getD k 0) : Int)) := by
            rw [cell_of_row _ _ _ _ _ _ htab, tabA_at _ _ hqk]
          have hx := u8_xor_nat (Z (o + k)) (mu f (l.getD k 0)) hpk (mu_lt _ _)
          have Hrow := Hid.mk (fun u hu => hrow.put (q := o + k) (x := Z (o + k) ^^^ mu f (l.getD k 0)) (Q := adm Z o (k + 1) f l) (u := u) (adm_next Z o k f l) hu)
          have Htab := Hid.mk htab
          have Hkr := Hid.mk hkr
          have Hrd : Hid (∀ u, Reads (wr.setCell ⟨b, o + k, none⟩ u) bo l) := Hid.mk (fun u => hrd.setApt Hne.out (by omega) u)
          clear hrow htab hkr hrd hcZ
          obtain ⟨x, e⟩ : ∃ x, x = Z (o + k) := ⟨_, rfl⟩
          rw [← e] at hcell hpk hx Hrow
          clear e
          obtain ⟨y, e⟩ : ∃ y, y = l.getD k 0 := ⟨_, rfl⟩
          rw [← e] at hco hqk ht hx Hrow
          clear e
          obtain ⟨z, e⟩ : ∃ z, z = mu f y := ⟨_, rfl⟩
          rw [← e] at ht hx Hrow
          clear e
          have hT : ¬ X = b := Ne.symm HbT.out
          have Hg := Hid.mk hg
          subst hg
          have ix : (k : Int) < (n : Int) := by omega
          have ixn : (k : Int) < (n : Int) := by have := HcZ.out; omega
          have iy : (y : Int) < 256 := by omega
          go_wp2
          go_region_law (fail)
          all_goals go_wp2
          all_goals go_roundw
          all_goals first
            | exact ⟨k + 1, by omega, by go_num, Hrow.out _ rfl, (by show (World.setCell _ _ _).heap[X]? = _; rw [Below.heap_setCell _ _ _ _ (by simpa using hT)]; exact Htab.out), (Hrd.out _).keep ((Kept.refl [] _).drew), (Hkr.out.setCell (p := ⟨b, o + k, none⟩) (.inl (by simp)) _).drew⟩
            | (simp [intOf]; omega)
        · obtain rfl : n = k := by omega
          rw [adm_end Z o n f _ l (by omega) (by have := Hm.out; omega)] at hrow
          have Hrow := Hid.mk hrow
          have Hkr := Hid.mk hkr
          clear hrow htab hkr hrd hcZ HcZ
          go_wp2
          go_end0
          exact ⟨rfl, Hrow.out, Hkr.out⟩
end Go.Proofs.YtbhhkcgicajlcaaGreatDoor.Py
