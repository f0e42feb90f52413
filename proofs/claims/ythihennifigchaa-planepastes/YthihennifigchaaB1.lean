import Derived.Test.YthihennifigchaaA6
namespace Go.Proofs.Ythihennifigchaa
open Go.RowKit

/-- Planes that are read, with their room. -/
def Pc (w : World) (po : Option Addr) (n : Nat) (ln : Nat → Nat) (F : Nat → Nat → Nat) : Prop := n = 0 ∨ ∃ g off, po = some ⟨g, off, none⟩ ∧ ∀ i, i < n → ∃ bo c, w.cell? ⟨g, off + i, none⟩ = some (.slice bo (ln i) c) ∧ ln i ≤ c ∧ Rd w bo (ln i) (F i)
theorem Pc.pl {w : World} {po : Option Addr} {n : Nat} {ln : Nat → Nat} {F : Nat → Nat → Nat} (h : Pc w po n ln F) : Pl w po n ln F := by
  rcases h with h | ⟨g, off, e, hc⟩
  · exact .inl h
  · exact .inr ⟨g, off, e, fun i hi => by obtain ⟨bo, c, h1, _, h2⟩ := hc i hi; exact ⟨bo, c, h1, h2⟩⟩
theorem Pc.keep {w w' : World} {po : Option Addr} {n : Nat} {ln : Nat → Nat} {F : Nat → Nat → Nat} (h : Pc w po n ln F) (hk : Kept [] w w') : Pc w' po n ln F := by
  rcases h with h | ⟨g, off, e, hc⟩
  · exact .inl h
  · refine .inr ⟨g, off, e, fun i hi => ?_⟩
    obtain ⟨bo, c, h1, h3, h2⟩ := hc i hi
    exact ⟨bo, c, cell_keep hk h1 (by simp), h3, h2.keep hk⟩
theorem Pc.at {w : World} {po : Option Addr} {n : Nat} {ln : Nat → Nat} {F : Nat → Nat → Nat} (h : Pc w po n ln F) {i : Nat} (hi : i < n) : ∃ g off bo c, po = some ⟨g, off, none⟩ ∧ w.cell? ⟨g, off + i, none⟩ = some (.slice bo (ln i) c) ∧ ln i ≤ c ∧ Rd w bo (ln i) (F i) := by
  rcases h with h | ⟨g, off, e, hc⟩
  · omega
  · obtain ⟨bo, c, h1, h3, h2⟩ := hc i hi
    exact ⟨g, off, bo, c, e, h1, h3, h2⟩
theorem Mk.pc {w0 w : World} {G n : Nat} {bs ln : Nat → Nat} {F : Nat → Nat → Nat} (h : Mk w0 w G n n bs ln F) : Pc w (some ⟨G, 0, none⟩) n ln F :=
  .inr ⟨G, 0, rfl, fun i hi => ⟨_, _, by rw [Nat.zero_add]; exact h.cell hi (Nat.le_refl _), Nat.le_refl _, (h.row i hi).rd⟩⟩

/-- A part of a row is written over. -/
def ovr (f h : Nat → Nat) (o m : Nat) : Nat → Nat := fun i => if o ≤ i ∧ i < o + m then h (i - o) else f i
theorem copy_mid (w : World) (g N o m dcap s soff sl sc : Nat) (f h : Nat → Nat) (hr : Row w g N f) (hsrc : ∀ i, i < m → w.cell? ⟨s, soff + i, none⟩ = some (.int .u16 (h i : Int))) (hm : m ≤ sl) (hN : o + m ≤ N) :
    ∃ w2, Sem.run Try.prog (Builtin.copy_ #[52, 52] 3 #[.slice (some ⟨g, o, none⟩) m dcap, .slice (some ⟨s, soff, none⟩) sl sc]) w = .ok (goInt m) w2 ∧ Row w2 g N (ovr f h o m) ∧ Kept [g] w w2 := by
  obtain ⟨i0, hi, hz0, hz1, hz2⟩ := info_parts Try.info65
  have hsz : (Try.prog.info? 65).map (·.size) = some 1 := by rw [hi]; simp [hz1]
  have hc := run_copy_row (P := Try.prog) w 52 52 3 65 g o m dcap ⟨s, soff, none⟩ sl sc (fl (vU f) N).toArray 65 (fl (vU h) m) Try.underlying52 hsz hr (by rw [fl_length]; show _ = min _ _; omega) (fun j v hv => by
    have hj : j < m := by
      rcases Nat.lt_or_ge j m with h | h
      · exact h
      · rw [List.getElem?_eq_none (by rw [fl_length]; exact h)] at hv; cases hv
    rw [fl_at _ _ _ hj] at hv
    cases hv
    have hadd : (⟨s, soff, none⟩ : Addr).add j = ⟨s, soff + j, none⟩ := by unfold Addr.add; split <;> simp_all
    rw [hadd]
    exact hsrc j hj) (by rw [fl_length]; simp [fl_length]; omega) (fun v hv => by
    simp only [fl, List.mem_map] at hv
    obtain ⟨j, _, rfl⟩ := hv
    rfl)
  rw [fl_length] at hc
  refine ⟨_, hc, ?_, ⟨rfl, rfl, rfl, by simp [World.setRow], fun k _ hk => setRow_other w g k _ (by simpa using hk)⟩⟩
  unfold Row
  rw [setRow_heap w g _ _ 65 _ hr]
  congr 3
  apply List.ext_getElem?
  intro i
  rw [List.append_assoc]
  by_cases h1 : i < o
  · rw [List.getElem?_append_left (by simp [fl_length]; omega), List.getElem?_take, if_pos h1, fl_at _ _ _ (by omega), fl_at _ _ _ (by omega)]
    show some (Value.int .u16 (f i : Int)) = some (Value.int .u16 (ovr f h o m i : Int))
    unfold ovr
    rw [if_neg (by omega)]
  · rw [List.getElem?_append_right (by simp [fl_length]; omega)]
    have hl : ((fl (vU f) N).take o).length = o := by simp [fl_length]; omega
    simp only [List.length_take, fl_length, Nat.min_eq_left (show o ≤ N by omega)]
    by_cases h2 : i < o + m
    · rw [List.getElem?_append_left (by rw [fl_length]; omega), fl_at _ _ _ (by omega), fl_at _ _ _ (by omega)]
      show some (Value.int .u16 (h (i - o) : Int)) = some (Value.int .u16 (ovr f h o m i : Int))
      unfold ovr
      rw [if_pos (by omega)]
    · rw [List.getElem?_append_right (by rw [fl_length]; omega), fl_length, List.getElem?_drop, show o + m + (i - o - m) = i by omega]
      by_cases h3 : i < N
      · rw [fl_at _ _ _ h3, fl_at _ _ _ h3]
        show some (Value.int .u16 (f i : Int)) = some (Value.int .u16 (ovr f h o m i : Int))
        unfold ovr
        rw [if_neg (by omega)]
      · rw [List.getElem?_eq_none (by rw [fl_length]; omega), List.getElem?_eq_none (by rw [fl_length]; omega)]

/-- A rectangle's samples. -/
def crp (f : Nat → Nat) (wd X Y rw : Nat) : Nat → Nat := fun i => f ((Y + i / rw) * wd + X + i % rw)

theorem part_step (f : Nat → Nat) (wd X Y rw k o t j : Nat) (rh : Nat) (ho : o = k * rw) (ht : t = (Y + k) * wd + X) (_hk : k < rh) (h1 : 1 ≤ rw) :
    ovr (fun i => if i < k * rw then crp f wd X Y rw i else 0) (fun i => f (t + i)) o rw j = if j < (k + 1) * rw then crp f wd X Y rw j else 0 := by
  unfold ovr
  rw [Nat.add_mul, Nat.one_mul, ← ho]
  by_cases a : o ≤ j ∧ j < o + rw
  · rw [if_pos a, if_pos (by omega)]
    unfold crp
    have hd : j / rw = k := by
      apply Nat.div_eq_of_lt_le
      · rw [← ho]; exact a.1
      · rw [Nat.succ_mul, ← ho]; exact a.2
    have hm : j % rw = j - o := by
      have := Nat.div_add_mod j rw
      rw [hd, Nat.mul_comm, ← ho] at this
      omega
    rw [hd, hm, ← ht]
  · rw [if_neg a]
    show (if j < o then crp f wd X Y rw j else 0) = _
    by_cases c : j < o
    · rw [if_pos c, if_pos (by omega)]
    · rw [if_neg c, if_neg (by omega)]

set_option maxHeartbeats 4000000 in
set_option maxRecDepth 1000000 in
theorem part_any (ao : Option Addr) (n c : Nat) (f : Nat → Nat) (wd ht X Y rw rh : Nat) (w : World) (hr : Rd w ao n f) (hc : n ≤ c) (hn : n = wd * ht) (h1 : 1 ≤ rw) (h2 : X + rw ≤ wd) (h3 : 1 ≤ rh) (h4 : Y + rh ≤ ht) (h5 : wd ≤ 4096) (h6 : ht ≤ 4096) :
    Calls Try.prog 52 #[.slice ao n c, .int .i64 (wd : Int), rcv (X : Int) (Y : Int) (rw : Int) (rh : Int)] w fun e w' => ∃ b, e = .returned (.slice (some ⟨b, 0, none⟩) (rw * rh) (rw * rh)) ∧ Row w' b (rw * rh) (crp f wd X Y rw) ∧ w.heap.size ≤ b ∧ Kept [] w w' := by
  have Hn := Hid.mk hn
  have hn2 : n ≤ 16777216 := by rw [hn]; exact Nat.le_trans (Nat.mul_le_mul h5 h6) (by decide)
  have hm1 : 1 ≤ rw * rh := Nat.mul_le_mul h1 h3
  have hm2 : rw * rh ≤ 16777216 := Nat.le_trans (Nat.mul_le_mul (show rw ≤ 4096 by omega) (show rh ≤ 4096 by omega)) (by decide)
  have hwr : IntKind.i64.wrap ((rw : Int) * (rh : Int)) = (rw : Int) * (rh : Int) := by
    have e : (rw : Int) * (rh : Int) = ((rw * rh : Nat) : Int) := by simp
    rw [e]
    exact wrap_i (by omega) (by omega)
  have eI : (rw : Int) * (rh : Int) = ((rw * rh : Nat) : Int) := by simp
  obtain ⟨M, eM⟩ : ∃ M : Nat, M = rw * rh := ⟨_, rfl⟩
  rw [← eM] at hm1 hm2 eI ⊢
  have EM := Hid.mk eM
  have EI := Hid.mk eI
  clear eM eI
  obtain ⟨g, off, rfl, hsr⟩ : ∃ g off, ao = some ⟨g, off, none⟩ ∧ ∀ i, i < n → w.cell? ⟨g, off + i, none⟩ = some (.int .u16 (f i : Int)) := by
    rcases hr with h | ⟨g, off, e, hc⟩
    · have : 1 ≤ wd * ht := Nat.mul_le_mul (show 1 ≤ wd by omega) (show 1 ≤ ht by omega)
      omega
    · exact ⟨g, off, e, hc⟩
  have Hsr := Hid.mk hsr
  clear hr hsr hn
  obtain ⟨mkR, hmk, hmw⟩ := make_row M ((rw : Int) * (rh : Int)) EI.out (by omega)
  have HMW := Hid.mk hmw
  clear hmw
  have m0 := HMW.out (w.alloc (.cells #[.int .i64 (X : Int), .int .i64 (Y : Int), .int .i64 (rw : Int), .int .i64 (rh : Int)] 51 (0, 0)))
  obtain ⟨w1, ew1⟩ : ∃ w1, w1 = mkR (w.alloc (.cells #[.int .i64 (X : Int), .int .i64 (Y : Int), .int .i64 (rw : Int), .int .i64 (rh : Int)] 51 (0, 0))) := ⟨_, rfl⟩
  rw [World.size_alloc, ← ew1] at m0
  have R1 := Hid.mk ((Rat.new w (X : Int) (Y : Int) (rw : Int) (rh : Int) 51).keep m0.2 (by simp))
  have HR0 := Hid.mk m0.1
  have HK0 := Hid.mk ((alloc_kept w _).trans m0.2)
  have hmk1 := hmk (w.alloc (.cells #[.int .i64 (X : Int), .int .i64 (Y : Int), .int .i64 (rw : Int), .int .i64 (rh : Int)] 51 (0, 0)))
  rw [World.size_alloc, ← ew1] at hmk1
  obtain ⟨q0, q1, q2, q3⟩ := R1.out
  clear hmk HMW m0 ew1
  go_enter Try.func52, Try.ntmps52
  go_wp2
  obtain ⟨b, eb⟩ : ∃ b, b = w.heap.size := ⟨_, rfl⟩
  rw [← eb] at HR0 R1 q0 q1 q2 q3 ⊢
  have HEB := Hid.mk eb
  clear eb hmk1
  go_loopw [18] (fun i wr => ∃ k : Nat, k ≤ rh ∧ i = .int .i64 (k : Int) ∧ Row wr (b + 1) M (fun i => if i < k * rw then crp f wd X Y rw i else 0) ∧ Kept [b + 1] w1 wr) (fun i _ => rh - (intOf i).toNat)
  case atStart => exact ⟨0, by omega, rfl, HR0.out.congr (fun j _ => by rw [if_neg (by omega)]), Kept.refl _ _⟩
  case round =>
    obtain ⟨k, hk, rfl, hrow, hkr⟩ := hrel
    have HRow := Hid.mk hrow
    have Hkr := Hid.mk hkr
    obtain ⟨p0, p1, p2, p3⟩ := R1.out.keep hkr (by simp)
    clear hrow hkr q0 q1 q2 q3
    by_cases hlt : k < rh
    · obtain ⟨t, et⟩ : ∃ t : Nat, t = (Y + k) * wd + X := ⟨_, rfl⟩
      have hb1 : (Y + k + 1) * wd ≤ ht * wd := Nat.mul_le_mul_right _ (by omega)
      have hb2 : (Y + k + 1) * wd = (Y + k) * wd + wd := by rw [Nat.add_mul, Nat.one_mul]
      have hb3 : ht * wd = n := by rw [Hn.out, Nat.mul_comm]
      have htn : t + rw ≤ n := by omega
      have hcast : ((Y : Int) + (k : Int)) * (wd : Int) = (((Y + k) * wd : Nat) : Int) := by simp
      have hbnd : 0 ≤ ((Y : Int) + (k : Int)) * (wd : Int) ∧ ((Y : Int) + (k : Int)) * (wd : Int) ≤ 16777216 := by rw [hcast]; omega
      have ET : Hid (((Y : Int) + (k : Int)) * (wd : Int) + (X : Int) = (t : Int)) := Hid.mk (by rw [hcast, et]; omega)
      have ET2 := Hid.mk et
      clear hcast hb1 hb2 hb3 et
      go_upto_region 5 with (fail)
      go_cut [9] (fun s wc => s = .int .i64 (t : Int) ∧ wc = wr)
      case first =>
        go_wp2
        all_goals go_meet
        all_goals exact ⟨by rw [ET.out], rfl⟩
      case rest =>
        obtain ⟨rfl, hwc⟩ := hcut
        obtain rfl := hwc.symm
        obtain ⟨o, eo⟩ : ∃ o : Nat, o = k * rw := ⟨_, rfl⟩
        have ho1 : (k + 1) * rw ≤ rh * rw := Nat.mul_le_mul_right _ (by omega)
        have ho2 : (k + 1) * rw = o + rw := by rw [Nat.add_mul, Nat.one_mul, eo]
        have ho3 : rh * rw = rw * rh := Nat.mul_comm _ _
        have hoM : o + rw ≤ M := by rw [EM.out]; omega
        have hw1 : IntKind.i64.wrap ((k : Int) * (rw : Int)) = (o : Int) := by
          have e : (k : Int) * (rw : Int) = ((o : Nat) : Int) := by rw [eo]; simp
          rw [e]; exact wrap_i (by omega) (by omega)
        have hw0 : IntKind.i64.wrap ((k : Int) + 1) = (k : Int) + 1 := wrap_i (by omega) (by omega)
        have hw2 : IntKind.i64.wrap (((k : Int) + 1) * (rw : Int)) = ((o + rw : Nat) : Int) := by
          have e : ((k : Int) + 1) * (rw : Int) = (((k + 1) * rw : Nat) : Int) := by simp
          rw [e, ho2]; exact wrap_i (by omega) (by omega)
        have i1 : (o : Int) ≤ ((o + rw : Nat) : Int) := by omega
        have i2 : ((o + rw : Nat) : Int) ≤ (M : Int) := by omega
        have i3 : (t : Int) ≤ (n : Int) := by omega
        have i4 : (n : Int) ≤ (c : Int) := by omega
        have i5 : (t : Int) < (c : Int) := by omega
        have i6 : (o : Int) < (M : Int) := by omega
        have i7 : t < c := by omega
        have j1 : t ≤ n := by omega
        have j2 : ¬ n < t := by omega
        have j3 : ¬ c < n := by omega
        have j4 : ¬ (n : Int) < (t : Int) := by omega
        have j5 : ¬ (c : Int) < (n : Int) := by omega
        have i8 : o < M := by omega
        have i9 : ¬ c ≤ t := by omega
        have hsrc : ∀ i, i < rw → wr.drew.cell? ⟨g, off + t + i, none⟩ = some (.int .u16 (f (t + i) : Int)) := fun i hi => by
          have := cell_keep (Hkr.out.trans ((Kept.refl _ _).drew)) (cell_keep HK0.out (Hsr.out (t + i) (by omega)) (by simp)) (by have := World.block_lt_of_cell? w _ (Hsr.out (t + i) (by omega)); have := HEB.out; simp; show g ≠ b + 1; simp at *; omega)
          rwa [Nat.add_assoc]
        obtain ⟨w2, hcp, hrow2, hk2⟩ := copy_mid wr.drew (b + 1) M o rw (M - o) g (off + t) (n - t) (c - t) _ (fun i => f (t + i)) (HRow.out.keep ((Kept.refl [] _).drew) (by simp)) hsrc (by omega) (by omega)
        have p22 := cell_keep hk2 (show wr.drew.cell? _ = _ from p2) (by simp)
        have HR2 := Hid.mk hrow2
        have HK2 := Hid.mk hk2
        have EO := Hid.mk eo
        clear hsrc hrow2 hk2 ho1 ho2 ho3
        clear eo hwr hbnd
        go_wp2
        go_region_held_law (fun w' => w'.cell? ⟨b, 2, none⟩ = some (.int .i64 (rw : Int))) (first | exact p2 | exact p22 | go_keep) (fail)
        all_goals go_wp2
        all_goals go_roundw
        all_goals first
          | (refine ⟨k + 1, by omega, by go_num, HR2.out.congr (fun j hj => ?_), Hkr.out.trans (HK2.out.undrew)⟩; exact part_step _ _ _ _ _ _ _ _ _ _ EO.out ET2.out hlt h1)
          | (simp [intOf]; omega)
    · obtain rfl : rh = k := by omega
      go_wp2
      go_ret
      exact ⟨b + 1, rfl, HRow.out.congr (fun j hj => by rw [if_pos (by rw [Nat.mul_comm, ← EM.out]; exact hj)]), by have := HEB.out; omega, HK0.out.step Hkr.out (fun x hx => by simp at hx; subst hx; exact .inr (by have := HEB.out; omega))⟩
end Go.Proofs.Ythihennifigchaa
