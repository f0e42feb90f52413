import Derived.Test.YtgjjnkhkjnkahaaDoorA6
namespace Go.Proofs.YtgjjnkhkjnkahaaDoor
open Go.RowKit

/-- Planes that are read, with their room. -/
def Pc (w : World) (po : Option Addr) (n : Nat) (ln : Nat → Nat) (F : Nat → Nat → Nat) : Prop := n = 0 ∨ ∃ g off, po = some ⟨g, off, none⟩ ∧ ∀ i, i < n → ∃ bo c, w.cell? ⟨g, off + i, none⟩ = some (.slice bo (ln i) c) ∧ ln i ≤ c ∧ Rd w bo (ln i) (F i)
theorem Pc.pl {w : World} {po : Option Addr} {n : Nat} {ln : Nat → Nat} {F : Nat → Nat → Nat} (h : Pc w po n ln F) : Pl w po n ln F := by
  rcases h with h | ⟨g, off, e, hc⟩
  · exact .inl h
  · exact .inr ⟨g, off, e, fun i hi => by obtain ⟨bo, c, h1, _, h2⟩ := hc i hi; exact ⟨bo, c, h1, h2⟩⟩
theorem Pc.keep {w w' : World} {po : Option Addr} {n : Nat} {ln : Nat → Nat} {F : Nat → Nat → Nat} (h : Pc w po n ln F) (hk : Kept [] w w') : Pc w' po n ln F := by
  rcases h with h | ⟨g, off, e, hc⟩
  · exact .inl h
  · refine .inr ⟨g, off, e, fun i hi => ?_⟩
    obtain ⟨bo, c, h1, h3, h2⟩ := hc i hi
    exact ⟨bo, c, cell_keep hk h1 (by simp), h3, h2.keep hk⟩
theorem Pc.at {w : World} {po : Option Addr} {n : Nat} {ln : Nat → Nat} {F : Nat → Nat → Nat} (h : Pc w po n ln F) {i : Nat} (hi : i < n) : ∃ g off bo c, po = some ⟨g, off, none⟩ ∧ w.cell? ⟨g, off + i, none⟩ = some (.slice bo (ln i) c) ∧ ln i ≤ c ∧ Rd w bo (ln i) (F i) := by
  rcases h with h | ⟨g, off, e, hc⟩
  · omega
  · obtain ⟨bo, c, h1, h3, h2⟩ := hc i hi
    exact ⟨g, off, bo, c, e, h1, h3, h2⟩
theorem Mk.pc {w0 w : World} {G n : Nat} {bs ln : Nat → Nat} {F : Nat → Nat → Nat} (h : Mk w0 w G n n bs ln F) : Pc w (some ⟨G, 0, none⟩) n ln F :=
  .inr ⟨G, 0, rfl, fun i hi => ⟨_, _, by rw [Nat.zero_add]; exact h.cell hi (Nat.le_refl _), Nat.le_refl _, (h.row i hi).rd⟩⟩

/-- A part of a row is written over. -/
def ovr (f h : Nat → Nat) (o m : Nat) : Nat → Nat := fun i => if o ≤ i ∧ i < o + m then h (i - o) else f i
set_option maxRecDepth 100000 in
theorem copy_mid (w : World) (g N o m dcap s soff sl sc : Nat) (f h : Nat → Nat) (hr : Row w g N f) (hsrc : ∀ i, i < m → w.cell? ⟨s, soff + i, none⟩ = some (.int .u16 (h i : Int))) (hm : m ≤ sl) (hN : o + m ≤ N) :
    ∃ w2, Sem.run Tryd.prog (Builtin.copy_ #[37, 37] 3 #[.slice (some ⟨g, o, none⟩) m dcap, .slice (some ⟨s, soff, none⟩) sl sc]) w = .ok (goInt m) w2 ∧ Row w2 g N (ovr f h o m) ∧ Kept [g] w w2 := by
  obtain ⟨i0, hi, hz0, hz1, hz2⟩ := info_parts Tryd.info38
  have hsz : (Tryd.prog.info? 38).map (·.size) = some 1 := by rw [hi]; simp [hz1]
  have hc := run_copy_row (P := Tryd.prog) w 37 37 3 38 g o m dcap ⟨s, soff, none⟩ sl sc (fl (vU f) N).toArray 38 (fl (vU h) m) Tryd.underlying37 hsz hr (by rw [fl_length]; show _ = min _ _; omega) (fun j v hv => by
    have hj : j < m := by
      rcases Nat.lt_or_ge j m with h | h
      · exact h
      · rw [List.getElem?_eq_none (by rw [fl_length]; exact h)] at hv; cases hv
    rw [fl_at _ _ _ hj] at hv
    cases hv
    have hadd : (⟨s, soff, none⟩ : Addr).add j = ⟨s, soff + j, none⟩ := by unfold Addr.add; split <;> simp_all
    rw [hadd]
    exact hsrc j hj) (by rw [fl_length]; simp [fl_length]; omega) (fun v hv => by
    simp only [fl, List.mem_map] at hv
    obtain ⟨j, _, rfl⟩ := hv
    rfl)
  rw [fl_length] at hc
  refine ⟨_, hc, ?_, ⟨rfl, rfl, rfl, by simp [World.setRow], fun k _ hk => setRow_other w g k _ (by simpa using hk)⟩⟩
  unfold Row
  rw [setRow_heap w g _ _ 38 _ hr]
  congr 3
  apply List.ext_getElem?
  intro i
  rw [List.append_assoc]
  by_cases h1 : i < o
  · rw [List.getElem?_append_left (by simp [fl_length]; omega), List.getElem?_take, if_pos h1, fl_at _ _ _ (by omega), fl_at _ _ _ (by omega)]
    show some (Value.int .u16 (f i : Int)) = some (Value.int .u16 (ovr f h o m i : Int))
    unfold ovr
    rw [if_neg (by omega)]
  · rw [List.getElem?_append_right (by simp [fl_length]; omega)]
    have hl : ((fl (vU f) N).take o).length = o := by simp [fl_length]; omega
    simp only [List.length_take, fl_length, Nat.min_eq_left (show o ≤ N by omega)]
    by_cases h2 : i < o + m
    · rw [List.getElem?_append_left (by rw [fl_length]; omega), fl_at _ _ _ (by omega), fl_at _ _ _ (by omega)]
      show some (Value.int .u16 (h (i - o) : Int)) = some (Value.int .u16 (ovr f h o m i : Int))
      unfold ovr
      rw [if_pos (by omega)]
    · rw [List.getElem?_append_right (by rw [fl_length]; omega), fl_length, List.getElem?_drop, show o + m + (i - o - m) = i by omega]
      by_cases h3 : i < N
      · rw [fl_at _ _ _ h3, fl_at _ _ _ h3]
        show some (Value.int .u16 (f i : Int)) = some (Value.int .u16 (ovr f h o m i : Int))
        unfold ovr
        rw [if_neg (by omega)]
      · rw [List.getElem?_eq_none (by rw [fl_length]; omega), List.getElem?_eq_none (by rw [fl_length]; omega)]

/-- A rectangle's samples. -/
def crp (f : Nat → Nat) (wd X Y rw : Nat) : Nat → Nat := fun i => f ((Y + i / rw) * wd + X + i % rw)

theorem part_step (f : Nat → Nat) (wd X Y rw k o t j : Nat) (rh : Nat) (ho : o = k * rw) (ht : t = (Y + k) * wd + X) (_hk : k < rh) (h1 : 1 ≤ rw) :
    ovr (fun i => if i < k * rw then crp f wd X Y rw i else 0) (fun i => f (t + i)) o rw j = if j < (k + 1) * rw then crp f wd X Y rw j else 0 := by
  unfold ovr
  rw [Nat.add_mul, Nat.one_mul, ← ho]
  by_cases a : o ≤ j ∧ j < o + rw
  · rw [if_pos a, if_pos (by omega)]
    unfold crp
    have hd : j / rw = k := by
      apply Nat.div_eq_of_lt_le
      · rw [← ho]; exact a.1
      · rw [Nat.succ_mul, ← ho]; exact a.2
    have hm : j % rw = j - o := by
      have := Nat.div_add_mod j rw
      rw [hd, Nat.mul_comm, ← ho] at this
      omega
    rw [hd, hm, ← ht]
  · rw [if_neg a]
    show (if j < o then crp f wd X Y rw j else 0) = _
    by_cases c : j < o
    · rw [if_pos c, if_pos (by omega)]
    · rw [if_neg c, if_neg (by omega)]

end Go.Proofs.YtgjjnkhkjnkahaaDoor
