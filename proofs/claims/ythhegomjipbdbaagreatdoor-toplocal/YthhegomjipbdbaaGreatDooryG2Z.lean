import Derived.Test.YthhegomjipbdbaaGreatDooryK0Z
import Derived.Deep.WholeRow
import Derived.Deep.MidRow
import Derived.Laws.ResultCell
import Derived.Deep.RegionLaw
namespace Go.Proofs.YthhegomjipbdbaaGreatDoor.Py
open Go.RowKit

/-- The cells of a table of which k places are filled. -/
def tabC (a k : Nat) : List Value := (List.range 256).map fun j => .int .u8 (if j < k then (mu a j : Int) else 0)
def tabA (a : Nat) : Array Value := (tabC a 256).toArray

theorem tabC_length (a k : Nat) : (tabC a k).length = 256 := by simp [tabC]
theorem tabC_at (a k j : Nat) (hj : j < 256) : (tabC a k)[j]? = some (.int .u8 (if j < k then (mu a j : Int) else 0)) := by simp [tabC, hj]
theorem tabC_zero (a : Nat) : tabC a 0 = List.replicate 256 (.int .u8 0) := by
  unfold tabC
  apply List.ext_getElem?
  intro i
  by_cases h : i < 256
  · rw [List.getElem?_map, List.getElem?_range h, List.getElem?_replicate, if_pos h]; simp only [Option.map_some, Nat.not_lt_zero, if_false]
  · rw [List.getElem?_eq_none (by rw [List.length_map, List.length_range]; omega), List.getElem?_eq_none (by rw [List.length_replicate]; omega)]
theorem tabC_start (a : Nat) : (tabC a 0).toArray = Array.replicate 256 (.int .u8 0) := by rw [tabC_zero]; exact List.toArray_replicate ..
theorem tabC_set (a k : Nat) (hk : k < 256) : (tabC a k).set k (.int .u8 (mu a k : Int)) = tabC a (k + 1) := by
  apply List.ext_getElem?
  intro i
  by_cases h : i < 256
  · rw [List.getElem?_set, tabC_at _ _ _ h, tabC_at _ _ _ h]
    by_cases e : k = i
    · subst e; simp [tabC_length, hk]
    · rw [if_neg e]
      have : (i < k) = (i < k + 1) := by apply propext; omega
      simp [this]
  · rw [List.getElem?_eq_none (by simp [tabC_length]; omega), List.getElem?_eq_none (by simp [tabC_length]; omega)]
theorem tabC_one (a k : Nat) : ∀ v ∈ tabC a k, v.oneCell' = true := by
  intro v hv
  simp only [tabC, List.mem_map] at hv
  obtain ⟨j, _, rfl⟩ := hv
  rfl

theorem mu_t2 (a x : Nat) (hx : x < 256) : mu a (t2 x) = t2 (mu a x) := by
  rw [t2_tx hx, t2_tx (mu_lt _ _)]
  unfold mu
  rw [el_toNat, el_toNat, M_tx]
theorem half_all : ∀ k : Fin 256, k.val = t2 (k.val / 2) ^^^ (k.val % 2) := by decide +kernel
theorem tb_half (a k : Nat) (ha : a < 256) (hk : k < 256) : mu a k = t2 (mu a (k / 2)) ^^^ (if k % 2 = 1 then a else 0) := by
  have h := half_all ⟨k, hk⟩
  simp only at h
  rw [← mu_t2 _ _ (by omega)]
  have e : mu a k = mu a (t2 (k / 2) ^^^ (k % 2)) := by rw [← h]
  rw [e, mu_xor]
  congr 1
  rcases Nat.mod_two_eq_zero_or_one k with h2 | h2
  · rw [h2, mu_zero]; rfl
  · rw [h2, mu_one ha]; rfl
theorem tab_read (a k : Nat) (hk : k < 256) : (tabC a k)[k / 2]? = some (.int .u8 (mu a (k / 2) : Int)) := by
  rw [tabC_at _ _ _ (by omega)]
  by_cases h : k / 2 < k
  · rw [if_pos h]
  · have : k = 0 := by omega
    subst this
    rw [if_neg (by omega), show 0 / 2 = 0 from rfl, mu_zero]; rfl

theorem Tryz.infoT : (Tryz.prog.info? 230).map (fun i => (i.zero, i.size)) = some (some (.agg (Array.replicate 256 (.int .u8 0))), 256) := by kernel_rfl
theorem Tryz.underT : Tryz.prog.underlying 230 = some (.array 256 5) := by kernel_rfl

theorem tabA_size (a : Nat) : (tabA a).size = 256 := by simp [tabA, tabC_length]
theorem tabA_one (a : Nat) : (tabA a).all (·.oneCell') = true := all_oneCell_toArray (tabC_one a 256)
theorem tabA_at (a j : Nat) (hj : j < 256) : (tabA a)[j]? = some (.int .u8 (mu a j : Int)) := by
  rw [tabA, List.getElem?_toArray, tabC_at _ _ _ hj, if_pos hj]

theorem setRow_kept (w : World) (g : Nat) (cs : Array Value) : Kept [g] w (w.setRow g cs) :=
  ⟨rfl, rfl, rfl, by simp [World.setRow], fun k _ hk => setRow_other w g k _ (by simpa using hk)⟩

theorem storeCells_row (w : World) (g : Nat) (t : TypeId) (cs old : List Value) (hg : w.heap[g]? = some (.cells old.toArray t (0, 0))) (hl : old.length = cs.length) (h1 : ∀ v ∈ cs, v.oneCell' = true) :
    Sem.run Tryz.prog (storeCells ⟨g, 0, none⟩ cs) w = .ok () (w.setRow g cs.toArray) := by
  have := run_storeCells_from (P := Tryz.prog) g t cs 0 old.toArray w hg (by simp; omega) h1
  simpa using this

theorem table_stored (a : Nat) (u : World) : Sem.run Tryz.prog (storeCells ⟨u.heap.size, 0, none⟩ (tabA a).toList) (u.alloc (.cells (Array.replicate 256 (.int .u8 0)) 230)) = .ok () (u.alloc (.cells (tabA a) 230)) := by
  obtain ⟨hvT, hiT⟩ := zero_of_info Tryz.infoT
  exact run_storeCells_new u 230 _ (tabA a) (by rw [tabA_size]; exact hiT) (by rw [tabA_size, Array.size_replicate]) (tabA_one a)
end Go.Proofs.YthhegomjipbdbaaGreatDoor.Py

namespace Go.Proofs.YthhegomjipbdbaaGreatDoor.Py
open Go.RowKit

/-- A row, and another one f times. -/
def am (f : Nat) (p q : Nat → Nat) : Nat → Nat := fun j => p j ^^^ mu f (q j)

end Go.Proofs.YthhegomjipbdbaaGreatDoor.Py

namespace Go.Proofs.YthhegomjipbdbaaGreatDoor.Py
open Go.RowKit

theorem pow_xor_all : ∀ k : Fin 8, ∀ l : Fin 128, l.val < 2 ^ k.val → 2 ^ k.val ^^^ l.val = 2 ^ k.val + l.val := by decide +kernel
theorem pow_le_all : ∀ k : Fin 8, 2 ^ k.val ≤ 128 := by decide +kernel

theorem tabC_first (a : Nat) : tabC a 1 = tabC a 0 := by
  unfold tabC
  apply List.map_congr_left
  intro j _
  by_cases h : j < 1
  · obtain rfl : j = 0 := by omega
    simp [mu_zero]
  · simp [h]

set_option maxHeartbeats 2000000 in
set_option maxRecDepth 1000000 in
theorem pmul_any (a : Nat) (ha : a < 256) (w : World) :
    Calls Tryz.prog 161 #[.int .u8 (a : Int)] w fun e w' => e = .returned (.agg (tabA a)) ∧ Kept [] w w' := by
  obtain ⟨hvT, hiT⟩ := zero_of_info Tryz.infoT
  have Hi := Hid.mk hiT
  clear hiT
  go_enter Tryz.func161, Tryz.ntmps161
  go_wp2
  clear hvT
  go_loopw [8] (fun i wr => ∃ k : Nat, k ≤ 8 ∧ i = .int .i64 (k : Int) ∧ wr.heap[w.heap.size]? = some (.cells (tabC a 0).toArray 230 (0, 0)) ∧ wr.heap[w.heap.size + 1]? = some (.cells (tabC a (2 ^ k)).toArray 230 (0, 0)) ∧ Kept [] w wr)
    (fun i _ => 8 - (intOf i).toNat)
  case atStart =>
    refine ⟨0, by omega, rfl, ?_, ?_, ((Kept.refl _ _).alloc _).alloc _⟩
    · rw [heap_alloc_old _ _ (by simp), heap_alloc_new, tabC_start]
    · rw [heap_alloc2_new, show (2 : Nat) ^ 0 = 1 from rfl, tabC_first, tabC_start]
  case round =>
    obtain ⟨k, hk, rfl, h0, h1, hkr⟩ := hrel
    have H0 := Hid.mk h0
    have H1 := Hid.mk h1
    have Hk := Hid.mk hkr
    clear h0 h1 hkr
    by_cases hlt : k < 8
    · have hp2 := pow_le_all ⟨k, hlt⟩
      have hpp := Nat.two_pow_pos k
      have Hx := Hid.mk (pow_xor_all ⟨k, hlt⟩)
      have Hs := Hid.mk (Nat.pow_succ 2 k)
      simp only at hp2 Hx
      have hq : ((2 ^ k : Nat) : Int) = (2 : Int) ^ k := by simp
      obtain ⟨h, hh⟩ : ∃ h : Nat, h = 2 ^ k := ⟨_, rfl⟩
      rw [← hh] at hp2 hpp Hx hq H1 Hs
      have Hh := Hid.mk hh
      clear hh
      have Hm1 := Hid.mk (mul_any a h ha (by omega))
      have hsh : wrap64 ((2 : Int) ^ k) = (h : Int) := by rw [← hq]; unfold wrap64; omega
      have hsm : (h : Int) % 256 = (h : Int) := by omega
      clear hq
      have Hpp := Hid.mk hpp
      clear hpp
      go_wp2_with (go_at_call 179; rw [hsh]; refine (Hm1.out _).mono ?_; rintro e w1 ⟨rfl, m, hw1⟩; clear hsh hsm; have hk1 : Kept [] wr w1 := by { rw [hw1]; exact (Kept.refl _ _).drewN m }; clear hw1)
      have hpp := Hpp.out
      have H0' := Hid.mk (hk1.heap H0.out (by simp))
      have H1' := Hid.mk (hk1.heap H1.out (by simp))
      have Hk' := Hid.mk (Hk.out.trans hk1)
      have hmu := mu_lt a h
      obtain ⟨y, hy⟩ : ∃ y, y = mu a h := ⟨_, rfl⟩
      have Hy := Hid.mk hy
      rw [← hy] at hmu ⊢
      clear hy hk1 H0 H1 Hk
      go_loopw [18] (fun i wx => ∃ l : Nat, l ≤ h ∧ i = .int .i64 (l : Int) ∧ wx.heap[w.heap.size]? = some (.cells (tabC a 0).toArray 230 (0, 0)) ∧ wx.heap[w.heap.size + 1]? = some (.cells (tabC a (h + l)).toArray 230 (0, 0)) ∧ Kept [] w wx)
        (fun i _ => h - (intOf i).toNat)
      case atStart => exact ⟨0, by omega, rfl, H0'.out, H1'.out, Hk'.out⟩
      case round =>
        obtain ⟨l, hl, rfl, g0, g1, gk⟩ := hrel
        have G0 := Hid.mk g0
        have G1 := Hid.mk g1
        have Gk := Hid.mk gk
        clear g0 g1 gk
        by_cases hll : l < h
        · have hcell : wr.cell? ⟨w.heap.size + 1, l, none⟩ = some (.int .u8 (mu a l : Int)) := by
            rw [cell_of_row _ _ _ _ _ _ G1.out, List.getElem?_toArray, tabC_at _ _ _ (by omega), if_pos (by omega)]
          obtain ⟨u, hu⟩ : ∃ u, wr.cell? ⟨w.heap.size + 1, h + l, none⟩ = some u := row_cell_at G1.out (by rw [tabC_length]; omega)
          have hfz : wr.frozen? ⟨w.heap.size + 1, h + l, none⟩ = false := by simp [World.frozen?, G1.out]
          have He : mu a (h + l) = y ^^^ mu a l := by rw [Hy.out, ← mu_xor, Hx.out ⟨l, by omega⟩ hll]
          have hA1 := mu_lt a l
          obtain ⟨A, hA⟩ : ∃ A, A = mu a l := ⟨_, rfl⟩
          rw [← hA] at He hcell hA1
          clear hA
          have hx := u8_xor_nat y A hmu hA1
          have HE := Hid.mk He
          clear He
          have ix : ((h : Int) + (l : Int)) < 256 := by omega
          go_wp2
          refine ⟨⟨l + 1, by omega, by go_num, ?_, ?_, Gk.out.setCell (p := ⟨w.heap.size + 1, h + l, none⟩) (.inr (by simp)) _⟩, by simp [intOf]; omega⟩
          · rw [Below.heap_setCell _ _ _ _ (by simp)]; exact G0.out
          · rw [heap_setCell_at G1.out, List.setIfInBounds_toArray, ← HE.out, tabC_set a (h + l) (by omega), Nat.add_assoc]
        · obtain rfl : h = l := by omega
          go_wp2
          go_roundw
          case rel => exact ⟨k + 1, by omega, by go_num, G0.out, by rw [Hs.out, Nat.mul_two]; exact G1.out, Gk.out⟩
          case measure => simp [intOf]; omega
    · obtain rfl : k = 8 := by omega
      have hi := Hi.out
      have h1 := H1.out
      have e1 : (tabC a (2 ^ 8)).toArray = tabA a := rfl
      rw [e1] at h1
      clear e1
      have H1 := Hid.mk h1
      have HI := Hid.mk hi
      clear h1 hi
      go_wp2
      refine wp_load_row 230 _ (by rfl) (w.heap.size + 1) (by rfl) 230 (tabA a) (0, 0) (.array 256 5) H1.out Tryz.underT rfl (by rw [tabA_size]; exact HI.out) ?_
      have hsc := storeCells_row wr w.heap.size 230 (tabA a).toList _ H0.out (by simp [tabC_length, tabA_size]) (fun v hv => (Array.all_eq_true_iff_forall_mem.1 (tabA_one a)) v (by simpa using hv))
      obtain ⟨wz, hz⟩ : ∃ wz, wz = wr.setRow w.heap.size (tabA a).toList.toArray := ⟨_, rfl⟩
      have hr : wz.heap[w.heap.size]? = some (.cells (tabA a) 230 (0, 0)) := by rw [hz, Array.toArray_toList]; exact setRow_heap wr _ _ _ 230 _ H0.out
      have hK : Kept [] w wz := by rw [hz]; exact Hk.out.step (setRow_kept _ _ _) (fun x hx => by simp at hx; subst hx; exact .inr (Nat.le_refl _))
      rw [← hz] at hsc
      have Hr := Hid.mk hr
      have HK := Hid.mk hK
      clear hr hK hz
      go_wp2
      refine bodyPost_ret (v := .agg (tabA a)) ?_ rfl ⟨rfl, HK.out⟩
      exact results_cell_row rfl _ _ w.heap.size 230 (tabA a) (0, 0) (.array 256 5) rfl Hr.out Tryz.underT rfl (by rw [tabA_size]; exact HI.out)
end Go.Proofs.YthhegomjipbdbaaGreatDoor.Py

namespace Go.Proofs.YthhegomjipbdbaaGreatDoor.Py
open Go.RowKit

/-- A flat row, to a part of which another row is added f times. -/
def adm (Z : Nat → Nat) (o n f : Nat) (l : List Nat) : Nat → Nat := fun q => if o ≤ q ∧ q < o + n then Z q ^^^ mu f (l.getD (q - o) 0) else Z q
theorem adm_lo {Z : Nat → Nat} (h : ∀ q, Z q < 256) (o n f : Nat) (l : List Nat) : ∀ q, adm Z o n f l q < 256 := by
  intro q
  unfold adm
  split
  · exact xor_lt (h q) (mu_lt _ _)
  · exact h q
/-- Rows that lie apart, or not where it matters. -/
def Apt (bo : Option Addr) (m b o n : Nat) : Prop := 0 < m → ∀ g off, bo = some ⟨g, off, none⟩ → g ≠ b ∨ off + m ≤ o ∨ o + n ≤ off

theorem cell_other {w : World} {g off b o : Nat} {u : Value} (h : g ≠ b ∨ off ≠ o) : (w.setCell ⟨b, o, none⟩ u).cell? ⟨g, off, none⟩ = w.cell? ⟨g, off, none⟩ := by
  by_cases e : g = b
  · subst e
    rcases h with h | h
    · exact absurd rfl h
    · exact World.cell?_setCell_other _ _ _ _ (by intro e; cases e; exact h rfl)
  · exact World.cell?_of_block (a := ⟨g, off, none⟩) (Below.heap_setCell _ _ _ _ (by simpa using e))

theorem _root_.Go.Proofs.YthhegomjipbdbaaGreatDoor.Reads.setApt {w : World} {bo : Option Addr} {l : List Nat} {b o n k : Nat} (h : Reads w bo l) (ha : Apt bo l.length b o n) (hk : k < n) (u : Value) : Reads (w.setCell ⟨b, o + k, none⟩ u) bo l := by
  rcases h with h | ⟨g, off, rfl, hc⟩
  · exact .inl h
  · refine .inr ⟨g, off, rfl, fun i hi => ?_⟩
    rw [cell_other (by rcases ha (by omega) g off rfl with h | h | h; exact .inl h; exact .inr (by omega); exact .inr (by omega))]
    exact hc i hi

theorem adm_zero (Z : Nat → Nat) (o f : Nat) (l : List Nat) : adm Z o 0 f l = Z := by
  funext q
  exact if_neg (by omega)
theorem adm_at (Z : Nat → Nat) (o k f : Nat) (l : List Nat) : adm Z o k f l (o + k) = Z (o + k) := if_neg (by omega)
theorem adm_next (Z : Nat → Nat) (o k f : Nat) (l : List Nat) : ∀ j, adm Z o (k + 1) f l j = if j = o + k then Z (o + k) ^^^ mu f (l.getD k 0) else adm Z o k f l j := by
  intro j
  unfold adm
  by_cases e : j = o + k
  · subst e
    rw [if_pos (by omega), if_pos rfl, Nat.add_sub_cancel_left]
  · rw [if_neg e]
    have : (o ≤ j ∧ j < o + (k + 1)) = (o ≤ j ∧ j < o + k) := by apply propext; omega
    simp only [this]
theorem adm_end (Z : Nat → Nat) (o n f k : Nat) (l : List Nat) (h1 : k ≤ n) (h2 : k = n ∨ k = l.length) : adm Z o k f l = adm Z o n f l := by
  funext q
  rcases h2 with rfl | rfl
  · rfl
  · unfold adm
    by_cases a : o ≤ q ∧ q < o + l.length
    · rw [if_pos a, if_pos (by omega)]
    · rw [if_neg a]
      by_cases c : o ≤ q ∧ q < o + n
      · rw [if_pos c, List.getD_eq_getElem?_getD, List.getElem?_eq_none (by omega), Option.getD_none, mu_zero, Nat.xor_zero]
      · rw [if_neg c]

theorem Row.put {w : World} {b T q x : Nat} {P Q : Nat → Nat} {u : Value} (h : Row w b (rg P T)) (hQ : ∀ j, Q j = if j = q then x else P j) (hu : u = byt x) : Row (w.setCell ⟨b, q, none⟩ u) b (rg Q T) := by
  subst hu
  unfold Row at h ⊢
  rw [heap_setCell_at h, List.setIfInBounds_toArray, ← List.map_set]
  congr 4
  apply List.ext_getElem?
  intro j
  by_cases hj : j < T
  · rw [List.getElem?_set, rg_at _ _ _ hj, rg_at _ _ _ hj, rg_length, hQ j]
    by_cases e : q = j
    · subst e; simp [hj]
    · rw [if_neg e, if_neg (Ne.symm e)]
  · rw [List.getElem?_eq_none (by simp [rg_length]; omega), List.getElem?_eq_none (by simp [rg_length]; omega)]

set_option maxHeartbeats 2000000 in
set_option maxRecDepth 1000000 in
theorem padd_any (b o n cap f m cb T : Nat) (bo : Option Addr) (Z : Nat → Nat) (l : List Nat) (hf : f < 256) (w : World) (hr : Row w b (rg Z T)) (hoT : o + n ≤ T) (hZ : ∀ q, Z q < 256) (hl : Byts l) (hm : l.length = m) (ho : f ≠ 0 → Reads w bo l) (hcb : m ≤ cb) (hne : f ≠ 0 → Apt bo l.length b o n) (hn : n ≤ 140737488355328) (hm1 : m ≤ 140737488355328) :
    Calls Tryz.prog 138 #[.slice (some ⟨b, o, none⟩) n cap, .int .u8 (f : Int), .slice bo m cb] w fun e w' => e = .returned (.tuple #[]) ∧ Row w' b (rg (adm Z o n f l) T) ∧ Kept [b] w w' := by
  by_cases hf0 : f = 0
  · subst hf0
    have HR : Hid (Row w b (rg (adm Z o n 0 l) T)) := Hid.mk (by rw [rg_congr (q := Z) (fun j _ => by rw [adm, zero_mu, Nat.xor_zero, ite_self])]; exact hr)
    clear hr hZ hl ho hne hm hcb
    go_enter Tryz.func138, Tryz.ntmps138
    go_wp2
    refine bodyPost_ret (v := .tuple #[]) (results_none rfl _ _ _) rfl ?_
    exact ⟨rfl, HR.out, Kept.refl _ _⟩
  · have hf1 : ((f : Int) == 0) = false := by simp; omega
    obtain ⟨hvT, hiT⟩ := zero_of_info Tryz.infoT
    clear hiT
    have hsc := table_stored f
    have Hr := Hid.mk hr
    have Hb := Hid.mk hr.lt
    have Ho := Hid.mk (ho hf0)
    have Hne := Hid.mk (hne hf0)
    have Hm := Hid.mk hm
    clear hr hf0 ho hne hm
    by_cases h : m ≤ n
    · have em : min (n : Int) (m : Int) = (m : Int) := by omega
      go_enter Tryz.func138, Tryz.ntmps138
      go_wp2_with (go_at_call 161; refine (pmul_any _ hf _).mono ?_; rintro e w1 ⟨rfl, hk1⟩)
      all_goals (
        clear hsc hvT
        have Hl := Hid.mk hl
        clear hl
        obtain ⟨X, hX⟩ : ∃ X, X = w1.heap.size := ⟨_, rfl⟩
        have Ht : Hid ((w1.alloc (.cells (tabA f) 230)).heap[X]? = some (.cells (tabA f) 230 (0, 0))) := Hid.mk (by rw [hX, heap_alloc_new])
        have HK : Hid (Kept [b] w (w1.alloc (.cells (tabA f) 230))) := Hid.mk ((hk1.alloc _).mono (by simp))
        have HR := Hid.mk (Hr.out.keep (hk1.alloc (.cells (tabA f) 230)) (by simp))
        have HO := Hid.mk (Ho.out.keep (hk1.alloc (.cells (tabA f) 230)))
        have HbT : Hid (b ≠ X) := Hid.mk (by have := hk1.size; have := Hb.out; omega)
        obtain ⟨w2, hw2⟩ : ∃ w2, w2 = w1.alloc (.cells (tabA f) 230) := ⟨_, rfl⟩
        rw [← hX, ← hw2]
        rw [← hw2] at Ht HK HR HO
        clear hw2 hX hk1 Hr Ho em)
      have HcZ : Hid (m ≤ n ∧ m ≤ m ∧ (m = n ∨ m = m)) := Hid.mk (by omega)
      clear h
      go_loopw [22] (fun i wr => ∃ k : Nat, k ≤ m ∧ i = .int .i64 (k : Int) ∧ Row wr b (rg (adm Z o k f l) T) ∧ wr.heap[X]? = some (.cells (tabA f) 230 (0, 0)) ∧ Reads wr bo l ∧ Kept [b] w wr) (fun i _ => m - (intOf i).toNat)
      case atStart => exact ⟨0, by omega, rfl, by rw [adm_zero]; exact HR.out, Ht.out, HO.out, HK.out⟩
      case round =>
        obtain ⟨k, hk, rfl, hrow, htab, hrd, hkr⟩ := hrel
        have hcZ := HcZ.out
        by_cases hlt : k < m
        · have hcell := hrow.at (j := o + k) (by rw [rg_length]; omega)
          rw [rg_getD _ _ _ (by omega), adm_at] at hcell
          obtain ⟨g, off, hg, hco⟩ := hrd.cell (j := k) (by rw [Hm.out]; omega)
          have hfz := hrow.fz (o + k)
          have hpk := hZ (o + k)
          have hqk := getD_lt l k Hl.out
          have ht : wr.cell? ⟨X, l.getD k 0, none⟩ = some (.int .u8 (mu f (l.getD k 0) : Int)) := by
            rw [cell_of_row _ _ _ _ _ _ htab, tabA_at _ _ hqk]
          have hx := u8_xor_nat (Z (o + k)) (mu f (l.getD k 0)) hpk (mu_lt _ _)
          have Hrow := Hid.mk (fun u hu => hrow.put (q := o + k) (x := Z (o + k) ^^^ mu f (l.getD k 0)) (Q := adm Z o (k + 1) f l) (u := u) (adm_next Z o k f l) hu)
          have Htab := Hid.mk htab
          have Hkr := Hid.mk hkr
          have Hrd : Hid (∀ u, Reads (wr.setCell ⟨b, o + k, none⟩ u) bo l) := Hid.mk (fun u => hrd.setApt Hne.out (by omega) u)
          clear hrow htab hkr hrd hcZ
          obtain ⟨x, e⟩ : ∃ x, x = Z (o + k) := ⟨_, rfl⟩
          rw [← e] at hcell hpk hx Hrow
          clear e
          obtain ⟨y, e⟩ : ∃ y, y = l.getD k 0 := ⟨_, rfl⟩
          rw [← e] at hco hqk ht hx Hrow
          clear e
          obtain ⟨z, e⟩ : ∃ z, z = mu f y := ⟨_, rfl⟩
          rw [← e] at ht hx Hrow
          clear e
          have hT : ¬ X = b := Ne.symm HbT.out
          have Hg := Hid.mk hg
          subst hg
          have ix : (k : Int) < (m : Int) := by omega
          have ixn : (k : Int) < (n : Int) := by have := HcZ.out; omega
          have iy : (y : Int) < 256 := by omega
          go_wp2
          go_region_law (fail)
          all_goals go_wp2
          all_goals go_roundw
          all_goals first
            | exact ⟨k + 1, by omega, by go_num, Hrow.out _ rfl, (by show (World.setCell _ _ _).heap[X]? = _; rw [Below.heap_setCell _ _ _ _ (by simpa using hT)]; exact Htab.out), (Hrd.out _).keep ((Kept.refl [] _).drew), (Hkr.out.setCell (p := ⟨b, o + k, none⟩) (.inl (by simp)) _).drew⟩
            | (simp [intOf]; omega)
        · obtain rfl : m = k := by omega
          rw [adm_end Z o n f _ l (by omega) (by have := Hm.out; omega)] at hrow
          have Hrow := Hid.mk hrow
          have Hkr := Hid.mk hkr
          clear hrow htab hkr hrd hcZ HcZ
          go_wp2
          go_end0
          exact ⟨rfl, Hrow.out, Hkr.out⟩
    · have em : min (n : Int) (m : Int) = (n : Int) := by omega
      go_enter Tryz.func138, Tryz.ntmps138
      go_wp2_with (go_at_call 161; refine (pmul_any _ hf _).mono ?_; rintro e w1 ⟨rfl, hk1⟩)
      all_goals (
        clear hsc hvT
        have Hl := Hid.mk hl
        clear hl
        obtain ⟨X, hX⟩ : ∃ X, X = w1.heap.size := ⟨_, rfl⟩
        have Ht : Hid ((w1.alloc (.cells (tabA f) 230)).heap[X]? = some (.cells (tabA f) 230 (0, 0))) := Hid.mk (by rw [hX, heap_alloc_new])
        have HK : Hid (Kept [b] w (w1.alloc (.cells (tabA f) 230))) := Hid.mk ((hk1.alloc _).mono (by simp))
        have HR := Hid.mk (Hr.out.keep (hk1.alloc (.cells (tabA f) 230)) (by simp))
        have HO := Hid.mk (Ho.out.keep (hk1.alloc (.cells (tabA f) 230)))
        have HbT : Hid (b ≠ X) := Hid.mk (by have := hk1.size; have := Hb.out; omega)
        obtain ⟨w2, hw2⟩ : ∃ w2, w2 = w1.alloc (.cells (tabA f) 230) := ⟨_, rfl⟩
        rw [← hX, ← hw2]
        rw [← hw2] at Ht HK HR HO
        clear hw2 hX hk1 Hr Ho em)
      have HcZ : Hid (n ≤ n ∧ n ≤ m ∧ (n = n ∨ n = m)) := Hid.mk (by omega)
      clear h
      go_loopw [22] (fun i wr => ∃ k : Nat, k ≤ n ∧ i = .int .i64 (k : Int) ∧ Row wr b (rg (adm Z o k f l) T) ∧ wr.heap[X]? = some (.cells (tabA f) 230 (0, 0)) ∧ Reads wr bo l ∧ Kept [b] w wr) (fun i _ => n - (intOf i).toNat)
      case atStart => exact ⟨0, by omega, rfl, by rw [adm_zero]; exact HR.out, Ht.out, HO.out, HK.out⟩
      case round =>
        obtain ⟨k, hk, rfl, hrow, htab, hrd, hkr⟩ := hrel
        have hcZ := HcZ.out
        by_cases hlt : k < n
        · have hcell := hrow.at (j := o + k) (by rw [rg_length]; omega)
          rw [rg_getD _ _ _ (by omega), adm_at] at hcell
          obtain ⟨g, off, hg, hco⟩ := hrd.cell (j := k) (by rw [Hm.out]; omega)
          have hfz := hrow.fz (o + k)
          have hpk := hZ (o + k)
          have hqk := getD_lt l k Hl.out
          have ht : wr.cell? ⟨X, l.getD k 0, none⟩ = some (.int .u8 (mu f (l.getD k 0) : Int)) := by
            rw [cell_of_row _ _ _ _ _ _ htab, tabA_at _ _ hqk]
          have hx := u8_xor_nat (Z (o + k)) (mu f (l.getD k 0)) hpk (mu_lt _ _)
          have Hrow := Hid.mk (fun u hu => hrow.put (q := o + k) (x := Z (o + k) ^^^ mu f (l.getD k 0)) (Q := adm Z o (k + 1) f l) (u := u) (adm_next Z o k f l) hu)
          have Htab := Hid.mk htab
          have Hkr := Hid.mk hkr
          have Hrd : Hid (∀ u, Reads (wr.setCell ⟨b, o + k, none⟩ u) bo l) := Hid.mk (fun u => hrd.setApt Hne.out (by omega) u)
          clear hrow htab hkr hrd hcZ
          obtain ⟨x, e⟩ : ∃ x, x = Z (o + k) := ⟨_, rfl⟩
          rw [← e] at hcell hpk hx Hrow
          clear e
          obtain ⟨y, e⟩ : ∃ y, y = l.getD k 0 := ⟨_, rfl⟩
          rw [← e] at hco hqk ht hx Hrow
          clear e
          obtain ⟨z, e⟩ : ∃ z, z = mu f y := ⟨_, rfl⟩
          rw [← e] at ht hx Hrow
          clear e
          have hT : ¬ X = b := Ne.symm HbT.out
          have Hg := Hid.mk hg
          subst hg
          have ix : (k : Int) < (n : Int) := by omega
          have ixn : (k : Int) < (n : Int) := by have := HcZ.out; omega
          have iy : (y : Int) < 256 := by omega
          go_wp2
          go_region_law (fail)
          all_goals go_wp2
          all_goals go_roundw
          all_goals first
            | exact ⟨k + 1, by omega, by go_num, Hrow.out _ rfl, (by show (World.setCell _ _ _).heap[X]? = _; rw [Below.heap_setCell _ _ _ _ (by simpa using hT)]; exact Htab.out), (Hrd.out _).keep ((Kept.refl [] _).drew), (Hkr.out.setCell (p := ⟨b, o + k, none⟩) (.inl (by simp)) _).drew⟩
            | (simp [intOf]; omega)
        · obtain rfl : n = k := by omega
          rw [adm_end Z o n f _ l (by omega) (by have := Hm.out; omega)] at hrow
          have Hrow := Hid.mk hrow
          have Hkr := Hid.mk hkr
          clear hrow htab hkr hrd hcZ HcZ
          go_wp2
          go_end0
          exact ⟨rfl, Hrow.out, Hkr.out⟩
end Go.Proofs.YthhegomjipbdbaaGreatDoor.Py

namespace Go.Proofs.YthhegomjipbdbaaGreatDoor.Py
open Go.RowKit

/-- A list of rows: where each lies, how long it is. -/
def Rv (w : World) (ao : Option Addr) (N : Nat) (bo : Nat → Option Addr) (ln cp : Nat → Nat) : Prop :=
  N = 0 ∨ ∃ g off, ao = some ⟨g, off, none⟩ ∧ ∀ j, j < N → w.cell? ⟨g, off + j, none⟩ = some (.slice (bo j) (ln j) (cp j))

/-- A flat row, to a part of which sums of products are added. -/
def asm (Z : Nat → Nat) (o n N : Nat) (f : Nat → Nat) (L : Nat → List Nat) : Nat → Nat := fun q => if o ≤ q ∧ q < o + n then Z q ^^^ sm (fun j => mu (f j) ((L j).getD (q - o) 0)) N else Z q
theorem asm_zero (Z : Nat → Nat) (o n : Nat) (f : Nat → Nat) (L : Nat → List Nat) : asm Z o n 0 f L = Z := by
  funext q
  unfold asm
  split
  · exact Nat.xor_zero _
  · rfl
theorem asm_next (Z : Nat → Nat) (o n k : Nat) (f : Nat → Nat) (L : Nat → List Nat) : adm (asm Z o n k f L) o n (f k) (L k) = asm Z o n (k + 1) f L := by
  funext q
  unfold adm asm
  by_cases h : o ≤ q ∧ q < o + n
  · simp only [if_pos h, sm, Nat.xor_assoc]
  · simp only [if_neg h]
theorem asm_out (Z : Nat → Nat) (o n N : Nat) (f : Nat → Nat) (L : Nat → List Nat) (q : Nat) (h : ¬ (o ≤ q ∧ q < o + n)) : asm Z o n N f L q = Z q := if_neg h
theorem asm_lo {Z : Nat → Nat} (h : ∀ q, Z q < 256) (o n N : Nat) (f : Nat → Nat) (L : Nat → List Nat) : ∀ q, asm Z o n N f L q < 256 := by
  intro q
  unfold asm
  split
  · exact xor_lt (h q) (sm_lt _ _ (fun _ _ => mu_lt _ _))
  · exact h q

theorem row_cell_is {w : World} {b T q : Nat} {Z : Nat → Nat} {u : Value} (h : Row w b (rg Z T)) (hc : w.cell? ⟨b, q, none⟩ = some u) : q < T := by
  unfold Row at h
  rcases Nat.lt_or_ge q T with h1 | h1
  · exact h1
  · simp [World.cell?, h, rg_length, h1] at hc

theorem _root_.Go.Proofs.YthhegomjipbdbaaGreatDoor.Reads.through {w w' : World} {bo : Option Addr} {l : List Nat} {b o n T : Nat} {Z Z' : Nat → Nat} (h : Reads w bo l) (hr : Row w b (rg Z T)) (hr' : Row w' b (rg Z' T)) (hZ : ∀ q, ¬ (o ≤ q ∧ q < o + n) → Z' q = Z q) (hk : Kept [b] w w') (ha : Apt bo l.length b o n) : Reads w' bo l := by
  rcases h with h | ⟨g, off, rfl, hc⟩
  · exact .inl h
  · refine .inr ⟨g, off, rfl, fun i hi => ?_⟩
    have h1 := hc i hi
    by_cases e : g = b
    · subst e
      have hq := row_cell_is hr h1
      have h2 := hr.at (j := off + i) (by rw [rg_length]; exact hq)
      have h3 := hr'.at (j := off + i) (by rw [rg_length]; exact hq)
      rw [rg_getD _ _ _ hq] at h2 h3
      rw [h3, hZ (off + i) (by rcases ha (by omega) g off rfl with h | h | h; exact absurd rfl h; omega; omega), ← h2]
      exact h1
    · exact cell_keep hk h1 (by simpa using e)

set_option maxHeartbeats 2000000 in
set_option maxRecDepth 1000000 in
theorem addSum_any (b o n cap T nf cf N ca : Nat) (fo ao : Option Addr) (bo : Nat → Option Addr) (cp : Nat → Nat) (Z : Nat → Nat) (lf : List Nat) (L : Nat → List Nat) (w : World) (hr : Row w b (rg Z T)) (hoT : o + n ≤ T) (hZ : ∀ q, Z q < 256)
    (hlf : Byts lf) (hnf : lf.length = nf) (hN : N ≤ nf) (hrf : Reads w fo lf) (hfb : 0 < nf → ∀ g off, fo = some ⟨g, off, none⟩ → g ≠ b)
    (hv : Rv w ao N bo (fun j => (L j).length) cp) (hab : 0 < N → ∀ g off, ao = some ⟨g, off, none⟩ → g ≠ b) (hL : ∀ j, j < N → Byts (L j) ∧ (L j).length ≤ cp j ∧ (L j).length ≤ 140737488355328)
    (hR : ∀ j, j < N → lf.getD j 0 ≠ 0 → Reads w (bo j) (L j) ∧ Apt (bo j) (L j).length b o n) (hn : n ≤ 140737488355328) (hNl : N ≤ 140737488355328) :
    Calls Tryz.prog 120 #[.slice (some ⟨b, o, none⟩) n cap, .slice fo nf cf, .slice ao N ca] w fun e w' => e = .returned (.tuple #[]) ∧ Row w' b (rg (asm Z o n N (fun j => lf.getD j 0) L) T) ∧ Kept [b] w w' := by
  have Hr := Hid.mk hr
  have Hlf := Hid.mk hlf
  have Hnf := Hid.mk hnf
  have Hrf := Hid.mk hrf
  have Hfb := Hid.mk hfb
  have Hv := Hid.mk hv
  have Hab := Hid.mk hab
  have HL := Hid.mk hL
  have HR := Hid.mk hR
  have HZ := Hid.mk hZ
  clear hr hlf hnf hrf hfb hv hab hL hR hZ
  go_enter Tryz.func120, Tryz.ntmps120
  go_wp2
  go_loopw [10] (fun i wr => ∃ k : Nat, k ≤ N ∧ i = .int .i64 (k : Int) ∧ Row wr b (rg (asm Z o n k (fun j => lf.getD j 0) L) T) ∧ Kept [b] w wr) (fun i _ => N - (intOf i).toNat)
  case atStart => exact ⟨0, by omega, rfl, by rw [asm_zero]; exact Hr.out, Kept.refl _ _⟩
  case round =>
    obtain ⟨k, hk, rfl, hrow, hkr⟩ := hrel
    by_cases hlt : k < N
    · obtain ⟨gf, of_, hgf, hcf⟩ := (Hrf.out.kept hkr (fun g off e => by simpa using Hfb.out (by omega) g off e)).cell (j := k) (by rw [Hnf.out]; omega)
      obtain ⟨ga, oa, hga, hca⟩ : ∃ g off, ao = some ⟨g, off, none⟩ ∧ wr.cell? ⟨g, off + k, none⟩ = some (.slice (bo k) (L k).length (cp k)) := by
        rcases Hv.out with h | ⟨g, off, h, hc⟩
        · omega
        · exact ⟨g, off, h, cell_keep hkr (hc k hlt) (by simpa using Hab.out (by omega) g off h)⟩
      have Hc := Hid.mk (fun w' (e : w' = wr) => padd_any b o n cap (lf.getD k 0) (L k).length (cp k) T (bo k) (asm Z o n k (fun j => lf.getD j 0) L) (L k) (getD_lt _ _ Hlf.out) w' (by rw [e]; exact hrow) hoT (asm_lo HZ.out _ _ _ _ _) (HL.out k hlt).1 rfl (fun hf => by rw [e]; exact (HR.out k hlt hf).1.through Hr.out hrow (fun q hq => asm_out _ _ _ _ _ _ q hq) hkr (HR.out k hlt hf).2) (HL.out k hlt).2.1 (fun hf => (HR.out k hlt hf).2) hn (HL.out k hlt).2.2)
      rw [asm_next Z o n k (fun j => lf.getD j 0) L] at Hc
      have Hkr := Hid.mk hkr
      clear hrow hkr
      obtain ⟨y, e⟩ : ∃ y, y = lf.getD k 0 := ⟨_, rfl⟩
      rw [← e] at hcf Hc
      clear e
      obtain ⟨m, e⟩ : ∃ m, m = (L k).length := ⟨_, rfl⟩
      rw [← e] at hca Hc
      clear e
      obtain ⟨bk, e⟩ : ∃ bk, bk = bo k := ⟨_, rfl⟩
      rw [← e] at hca Hc
      clear e
      obtain ⟨ck, e⟩ : ∃ ck, ck = cp k := ⟨_, rfl⟩
      rw [← e] at hca Hc
      clear e
      subst hgf hga
      have ix : (k : Int) < (N : Int) := by omega
      have ixf : (k : Int) < (nf : Int) := by omega
      go_wp2_with (go_at_call 138; refine (Hc.out _ rfl).mono ?_; rintro e w1 ⟨rfl, hrow, hk1⟩)
      exact ⟨⟨k + 1, by omega, by go_num, hrow, Hkr.out.trans hk1⟩, by simp [intOf]; omega⟩
    · obtain rfl : N = k := by omega
      have Hrow := Hid.mk hrow
      have Hkr := Hid.mk hkr
      clear hrow hkr
      go_wp2
      go_end0
      exact ⟨rfl, Hrow.out, Hkr.out⟩
end Go.Proofs.YthhegomjipbdbaaGreatDoor.Py

namespace Go.Proofs.YthhegomjipbdbaaGreatDoor.Py
open Go.RowKit

theorem sixteen {P : Nat → Prop} (h0 : P 0) (h1 : P 1) (h2 : P 2) (h3 : P 3) (h4 : P 4) (h5 : P 5) (h6 : P 6) (h7 : P 7) (h8 : P 8) (h9 : P 9) (h10 : P 10) (h11 : P 11) (h12 : P 12) (h13 : P 13) (h14 : P 14) (h15 : P 15) (h16 : P 16) (p : Nat) (hp : p ≤ 16) : P p := by
  have h : p = 0 ∨ p = 1 ∨ p = 2 ∨ p = 3 ∨ p = 4 ∨ p = 5 ∨ p = 6 ∨ p = 7 ∨ p = 8 ∨ p = 9 ∨ p = 10 ∨ p = 11 ∨ p = 12 ∨ p = 13 ∨ p = 14 ∨ p = 15 ∨ p = 16 := by omega
  rcases h with rfl | rfl | rfl | rfl | rfl | rfl | rfl | rfl | rfl | rfl | rfl | rfl | rfl | rfl | rfl | rfl | rfl <;> assumption

set_option maxHeartbeats 4000000 in
set_option maxRecDepth 1000000 in
theorem mul64_any (p : Nat) (hp : p ≤ 16) (w : World) :
    Calls Tryz.prog 158 #[.int .u64 1, .int .u64 (p : Int)] w fun e w' => e = .returned (.tuple #[.int .u64 0, .int .u64 (p : Int)]) ∧ w' = w := by
  have b1 : bits BinOp.and IntKind.u64 1 4294967295 = 1 := by decide +kernel
  have b0 : bits BinOp.and IntKind.u64 0 4294967295 = 0 := by decide +kernel
  have bp : bits BinOp.and IntKind.u64 (p : Int) 4294967295 = (p : Int) := sixteen (P := fun p : Nat => bits BinOp.and IntKind.u64 (p : Int) 4294967295 = (p : Int)) (by decide +kernel) (by decide +kernel) (by decide +kernel) (by decide +kernel) (by decide +kernel) (by decide +kernel) (by decide +kernel) (by decide +kernel) (by decide +kernel) (by decide +kernel) (by decide +kernel) (by decide +kernel) (by decide +kernel) (by decide +kernel) (by decide +kernel) (by decide +kernel) (by decide +kernel) p hp
  have d1 : (p : Int) / 4294967296 = 0 := by omega
  go_enter Tryz.func158, Tryz.ntmps158
  go_wp2
  go_ret2
  exact ⟨rfl, rfl⟩

set_option maxHeartbeats 4000000 in
set_option maxRecDepth 1000000 in
theorem bmul_any (p : Nat) (hp : p ≤ 16) (w : World) :
    Calls Tryz.prog 136 #[.int .u64 1, .int .u64 (p : Int)] w fun e w' => e = .returned (.tuple #[.int .u64 0, .int .u64 (p : Int)]) ∧ w' = w := by
  have C := Hid.mk (mul64_any p hp)
  go_enter Tryz.func136, Tryz.ntmps136
  go_wp2_with (go_at_call 158; refine (C.out _).mono ?_; rintro e w' ⟨rfl, hw⟩; obtain rfl := hw.symm)
  go_ret2
  exact ⟨rfl, rfl⟩

/-- A list of numbers that is read. -/
def RdI (w : World) (ao : Option Addr) (f : Nat → Int) (n : Nat) : Prop := n = 0 ∨ ∃ g off, ao = some ⟨g, off, none⟩ ∧ ∀ i, i < n → w.cell? ⟨g, off + i, none⟩ = some (.int .i64 (f i))
theorem RdI.kept {w w' : World} {ao : Option Addr} {f : Nat → Int} {n : Nat} {ks : List Nat} (h : RdI w ao f n) (hk : Kept ks w w') (hn : ∀ g off, ao = some ⟨g, off, none⟩ → g ∉ ks) : RdI w' ao f n := by
  rcases h with h | ⟨g, off, e, hc⟩
  · exact .inl h
  · exact .inr ⟨g, off, e, fun i hi => cell_keep hk (hc i hi) (hn g off e)⟩
theorem RdI.keep {w w' : World} {ao : Option Addr} {f : Nat → Int} {n : Nat} (h : RdI w ao f n) (hk : Kept [] w w') : RdI w' ao f n := h.kept hk (by simp)
theorem RdI.at {w : World} {ao : Option Addr} {f : Nat → Int} {n : Nat} (h : RdI w ao f n) {i : Nat} (hi : i < n) : ∃ g off, ao = some ⟨g, off, none⟩ ∧ w.cell? ⟨g, off + i, none⟩ = some (.int .i64 (f i)) := by
  rcases h with h | ⟨g, off, e, hc⟩
  · omega
  · exact ⟨g, off, e, hc i hi⟩

theorem Tryz.infoI : (Tryz.prog.info? 3).map (fun i => (i.zero, i.size, i.bytes)) = some (some (.int .i64 0), 1, 8) := by kernel_rfl

/-- Numbers of which n are W, the rest nought. -/
def repC (W : Int) (n p : Nat) : List Value := List.replicate n (.int .i64 W) ++ List.replicate (p - n) (.int .i64 0)

theorem madeInts (n : Nat) : (madeCells (Value.int .i64 0).cells (n * 1)).toList = List.replicate n (.int .i64 0) := by
  rw [Nat.mul_one]; exact toList_madeCells_one _ _
theorem repC_length (W : Int) (n p : Nat) (h : n ≤ p) : (repC W n p).length = p := by simp only [repC, List.length_append, List.length_replicate]; omega
theorem repC_at (W : Int) (n p i : Nat) (h : i < n) : (repC W n p)[i]? = some (.int .i64 W) := by
  unfold repC
  rw [List.getElem?_append_left (by simpa using h), List.getElem?_replicate, if_pos h]
theorem repC_zero (W : Int) (p : Nat) : List.replicate p (Value.int .i64 0) = repC W 0 p := by simp [repC]
theorem repC_next (W : Int) (n p k : Nat) : (repC W n p).take n ++ List.replicate k (Value.int .i64 W) ++ (repC W n p).drop (n + k) = repC W (n + k) p := by
  unfold repC
  rw [List.take_append_of_le_length (by simp), List.take_of_length_le (by simp), List.drop_append, List.drop_of_length_le (by simp)]
  simp [← List.replicate_append_replicate, Nat.sub_sub]

theorem icopy (w : World) (g o dLen dCap sg so sLen sCap : Nat) (W : Int) (cur : List Value) (k : Nat) (hk : k = min sLen dLen) (hg : w.heap[g]? = some (.cells cur.toArray 3 (0, 0))) (hs : ∀ j, j < k → w.cell? ⟨sg, so + j, none⟩ = some (.int .i64 W)) (hf : o + k ≤ cur.length) :
    ∃ w2, Sem.run Tryz.prog (Builtin.copy_ #[78, 78] 3 #[.slice (some ⟨g, o, none⟩) dLen dCap, .slice (some ⟨sg, so, none⟩) sLen sCap]) w = .ok (.int .i64 (k : Int)) w2 ∧ w2.heap[g]? = some (.cells (cur.take o ++ List.replicate k (Value.int .i64 W) ++ cur.drop (o + k)).toArray 3 (0, 0)) ∧ Kept [g] w w2 := by
  obtain ⟨i0, hi, hz0, hz1, hz2⟩ := info_parts Tryz.infoI
  have hsz : (Tryz.prog.info? 3).map (·.size) = some 1 := by rw [hi]; simp [hz1]
  have h := run_copy_row (P := Tryz.prog) w 78 78 3 3 g o dLen dCap ⟨sg, so, none⟩ sLen sCap cur.toArray 3 (List.replicate k (.int .i64 W)) Tryz.underlying78 hsz hg (by rw [List.length_replicate]; exact hk) (fun j v hv => by
    have hj : j < k := by
      rcases Nat.lt_or_ge j k with h | h
      · exact h
      · rw [List.getElem?_eq_none (by simpa using h)] at hv; cases hv
    rw [List.getElem?_replicate, if_pos hj] at hv
    cases hv
    have hadd : (⟨sg, so, none⟩ : Addr).add j = ⟨sg, so + j, none⟩ := by unfold Addr.add; split <;> simp_all
    rw [hadd]
    exact hs j hj) (by simpa using hf) (fun v hv => by rw [List.eq_of_mem_replicate hv]; rfl)
  rw [List.length_replicate] at h
  refine ⟨_, h, ?_, setRow_kept _ _ _⟩
  exact setRow_heap w g _ _ 3 _ hg

set_option maxHeartbeats 4000000 in
set_option maxRecDepth 1000000 in
theorem repeat_any (xg xo cx p : Nat) (W : Int) (hp : p ≤ 16) (w : World) (hx : w.cell? ⟨xg, xo, none⟩ = some (.int .i64 W)) :
    Calls Tryz.prog 118 #[.slice (some ⟨xg, xo, none⟩) 1 cx, .int .i64 (p : Int)] w fun e w' => ∃ g, e = .returned (.slice (some ⟨g, 0, none⟩) p p) ∧ RdI w' (some ⟨g, 0, none⟩) (fun _ => W) p ∧ w.heap.size ≤ g ∧ Kept [] w w' := by
  obtain ⟨i0, hi, hz0, hz1, hz2⟩ := info_parts Tryz.infoI
  have C := Hid.mk (bmul_any p hp)
  have HH : Hid (∀ w2, w2.ownsRow 0 3 1 (.slice (some ⟨w.heap.size, 0, none⟩) p p) p (madeCells (Value.int .i64 0).cells (p * 1)).toList → w.grownBy w2 none →
      ∃ w3, Sem.run Tryz.prog (Builtin.copy_ #[78, 78] 3 #[.slice (some ⟨w.heap.size, 0, none⟩) p p, .slice (some ⟨xg, xo, none⟩) 1 cx]) w2 = .ok (.int .i64 ((min 1 p : Nat) : Int)) w3 ∧ w3.heap[w.heap.size]? = some (.cells (repC W (min 1 p) p).toArray 3 (0, 0)) ∧ Kept [] w w3) := Hid.mk (by
    intro w2 ho2 hg2
    have hk2 := Kept.of_grown hg2
    have hr2 := row_heap ho2 rfl
    rw [madeInts, repC_zero W] at hr2
    have hx2 := cell_keep hk2 hx (by simp)
    obtain ⟨w3, hc3, hr3, hk3⟩ := icopy w2 w.heap.size 0 p p xg xo 1 cx W _ (min 1 p) rfl hr2 (fun j hj => by
      have : j = 0 := by omega
      subst this; exact hx2) (by rw [repC_length _ _ _ (by omega)]; omega)
    rw [repC_next W 0 p _, Nat.zero_add] at hr3
    exact ⟨w3, hc3, hr3, (hk2.mono (by simp)).step hk3 (l := []) (fun x hx => by simp at hx; right; omega)⟩)
  clear hx
  have Hn : Hid (min 1 p ≤ p ∧ (p = 0 ∨ 0 < min 1 p)) := Hid.mk (by omega)
  obtain ⟨n0, hn0⟩ : ∃ n0, n0 = min 1 p := ⟨_, rfl⟩
  rw [← hn0] at HH Hn
  clear hn0
  go_enter Tryz.func118, Tryz.ntmps118
  go_wp2_with (first | (go_at_call 136; refine (C.out _).mono ?_; rintro e w' ⟨rfl, hw⟩; obtain rfl := hw.symm) | (at_make; refine wpList_make_full _ rfl _ _ 78 rfl 0 3 i0 (.int .i64 0) 1 Tryz.underlying78 hi hz0 hz1 _ _ _ _ p rfl rfl (by omega) (by omega) (by rw [hz2]; omega) (by unfold maxLen; omega) (by omega) ?_; intro w2 ho2 hg2; obtain ⟨w3, hc3, hr3, hk3⟩ := HH.out w2 ho2 hg2; clear ho2 hg2))
  clear hi hz0 hz1 hz2 C HH
  obtain ⟨G, hG⟩ : ∃ G, G = w.heap.size := ⟨_, rfl⟩
  rw [← hG] at hr3 ⊢
  have HG := Hid.mk hG
  have Hr := Hid.mk hr3
  have Hk := Hid.mk hk3
  clear hr3 hk3 hG
  go_loopw [8] (fun v wr => ∃ n : Nat, n ≤ p ∧ (p = 0 ∨ 0 < n) ∧ v = .int .i64 (n : Int) ∧ wr.heap[G]? = some (.cells (repC W n p).toArray 3 (0, 0)) ∧ Kept [] w wr) (fun v _ => p - (intOf v).toNat)
  case atStart => exact ⟨n0, Hn.out.1, Hn.out.2, rfl, Hr.out, Hk.out⟩
  case round =>
    obtain ⟨n, hn, hpn, rfl, hrow, hkr⟩ := hrel
    by_cases hlt : n < p
    · obtain ⟨w4, hc4, hr4, hk4⟩ := icopy wr.drew G n (p - n) (p - n) G 0 n p W _ (min n (p - n)) rfl (show wr.drew.heap[G]? = _ from hrow) (fun j hj => by
        have : j < n := by omega
        rw [cell_of_row _ _ _ _ _ _ (show wr.drew.heap[G]? = _ from hrow), List.getElem?_toArray, Nat.zero_add, repC_at _ _ _ _ this]) (by rw [repC_length _ _ _ (by omega)]; omega)
      rw [repC_next W n p _] at hr4
      have Hr4 := Hid.mk hr4
      have Hk4 := Hid.mk (hkr.drew.step hk4 (fun x hx => by simp at hx; right; have := HG.out; omega))
      have hm : min n (p - n) ≤ p - n ∧ 0 < min n (p - n) := by omega
      obtain ⟨m, em⟩ : ∃ m, m = min n (p - n) := ⟨_, rfl⟩
      rw [← em] at Hr4 hm hc4
      clear hr4 hk4 hrow hkr em
      have hnp : ¬ p = n := by omega
      go_wp2
      go_region_law (fail)
      all_goals go_simp
      have hwr : IntKind.i64.wrap ((n : Int) + (m : Int)) = ((n + m : Nat) : Int) := by
        have : IntKind.i64.wrap ((n : Int) + (m : Int)) = (n : Int) + (m : Int) := by rw [IntKind.wrap_i64]; omega
        omega
      all_goals rw [hwr]
      all_goals go_roundw
      case rel =>
        (repeat apply Exists.intro)
        exact ⟨⟨n + m, by omega, by omega, rfl, Hr4.out, Hk4.out⟩, rfl⟩
      case measure =>
        show p - (((n + m : Nat) : Int)).toNat < p - ((n : Int)).toNat
        omega
    · obtain rfl : p = n := by omega
      have Hrow := Hid.mk hrow
      have Hkr := Hid.mk hkr
      clear hrow hkr
      go_wp2
      go_ret
      exact ⟨G, rfl, .inr ⟨G, 0, rfl, fun i hi => by rw [cell_of_row _ _ _ _ _ _ Hrow.out, List.getElem?_toArray, Nat.zero_add, repC_at _ _ _ _ hi]⟩, by have := HG.out; omega, Hkr.out⟩
end Go.Proofs.YthhegomjipbdbaaGreatDoor.Py
