import Derived.Test.YtknkjhfemgiiaaaDoorTa
namespace Go.Proofs.YtknkjhfemgiiaaaDoor
open Go.RowKit Go.Lib

/-- A word as a value. -/
def wv (x : Wd) : Value := .agg #[.int .i64 x.kd, .int .i64 x.pl, .string x.sy]
theorem Wds.head {w : World} {a : Option Addr} {x : Wd} {t : List Wd} (h : Wds w a (x :: t)) : ∃ g o, a = some ⟨g, o, none⟩ ∧ w.cell? ⟨g, o, none⟩ = some (.int .i64 x.kd) ∧ w.cell? ⟨g, o + 1, none⟩ = some (.int .i64 x.pl) ∧ w.cell? ⟨g, o + 2, none⟩ = some (.string x.sy) ∧ Wds w (some ⟨g, o + 3, none⟩) t ∧ (∃ cur, w.heap[g]? = some (.cells cur 56 (0, 0))) := by
  rcases h with h | ⟨g, o, cur, h1, h2, h3⟩
  · cases h
  · have e0 := h3 0 (.int .i64 x.kd) (by simp [wcs, wdc])
    have e1 := h3 1 (.int .i64 x.pl) (by simp [wcs, wdc])
    have e2 := h3 2 (.string x.sy) (by simp [wcs, wdc])
    refine ⟨g, o, h1, by simpa [World.cell?, h2] using e0, by simp [World.cell?, h2, e1], by simp [World.cell?, h2, e2], ?_, cur, h2⟩
    refine .inr ⟨g, o + 3, cur, rfl, h2, fun j v hj => ?_⟩
    have := h3 (3 + j) v (by simp only [wcs, List.flatMap_cons]; rw [List.getElem?_append_right (by simp [wdc])]; simpa [wdc, wcs] using hj)
    rw [← this]; congr 1; omega
/-- The reader goes on behind a word. -/
theorem RdA.tail {w w1 : World} {q : Nat} {x : Wd} {t : List Wd} {en : Int} {er : Option (Int × Int)} {a : Option Addr} {c : Nat} {ev : Value} (h : RdA w q ⟨x :: t, en, er⟩ a c ev) (hk : Kept [] w w1) (g o : Nat) (hw : Wds w (some ⟨g, o + 3, none⟩) t) (a' : Option Addr) (ha' : a' = some ⟨g, o + 3, none⟩ ∨ t = []) :
    RdA (w1.setCell ⟨q, 0, none⟩ (.slice a' t.length (c - 1))) q ⟨t, en, er⟩ a' (c - 1) ev ∧ Kept [q] w (w1.setCell ⟨q, 0, none⟩ (.slice a' t.length (c - 1))) := by
  have h1 := h.keep hk
  have ks : Kept [q] w1 (w1.setCell ⟨q, 0, none⟩ (.slice a' t.length (c - 1))) := (Kept.refl _ _).setCell (.inl (by simp)) _
  have hl := h.lc
  have hm := h.cm
  simp at hl
  refine ⟨⟨?_, ?_, by simp; omega, by omega, h1.ev.kept ks h1.bx (by decide)⟩, (hk.mono (by simp)).trans ks⟩
  · rw [heap_setCell_at h1.bx]; rfl
  · rcases ha' with rfl | rfl
    · exact (hw.keep hk).kept ks h1.bx (by decide)
    · exact .inl rfl

set_option maxHeartbeats 4000000 in
set_option maxRecDepth 1000000 in
theorem next_none (q : Nat) (k : Int) (w : World) (en : Int) (er : Option (Int × Int)) (a : Option Addr) (c : Nat) (ev : Value) (h : RdA w q ⟨[], en, er⟩ a c ev) :
    Calls Tryd.prog 29 #[.pointer (some ⟨q, 0, none⟩), .int .i64 k] w fun e w' => e = .returned (wv ⟨0, 0, ⟨#[]⟩⟩) ∧ RP q w w' (rf ⟨[], en, er⟩ en 193) := by
  obtain ⟨w1, e1⟩ : ∃ w1, w.alloc (.cells #[.int .i64 0, .int .i64 0, .string ⟨#[]⟩] 56 (0, 0)) = w1 := ⟨_, rfl⟩
  have b1 := heap_alloc_new w (.cells #[.int .i64 0, .int .i64 0, .string ⟨#[]⟩] 56 (0, 0))
  have k1 : Kept [] w w1 := by rw [← e1]; exact alloc_kept _ _
  have hq := lt_of_block h.bx
  rw [e1] at b1
  have h1 := h.keep k1
  obtain ⟨c0, c1, c2⟩ := h1.cells
  have CR := Hid.mk (refuse_any q en 193 w1 ⟨[], en, er⟩ a c ev h1)
  have HB := Hid.mk b1
  have HK := Hid.mk k1
  clear h h1 b1 k1
  go_enter Tryd.func29, Tryd.ntmps29
  go_wp2_with (fail)
  refine CR.out.mono ?_
  rintro e w2 ⟨rfl, ev', h2, k2⟩
  have b2 := k2.heap HB.out (by simp; omega)
  have f0 := frozen_of_row w2 w.heap.size 0 _ _ b2
  have f1 := frozen_of_row w2 w.heap.size 1 _ _ b2
  have f2 := frozen_of_row w2 w.heap.size 2 _ _ b2
  have l0 : w2.cell? ⟨w.heap.size, 0, none⟩ = some (.int .i64 0) := by simp [World.cell?, b2]
  have l1 : w2.cell? ⟨w.heap.size, 1, none⟩ = some (.int .i64 0) := by simp [World.cell?, b2]
  have l2 : w2.cell? ⟨w.heap.size, 2, none⟩ = some (.string ⟨#[]⟩) := by simp [World.cell?, b2]
  have KS : Kept [w.heap.size] w2 (((w2.setCell ⟨w.heap.size, 0, none⟩ (.int .i64 0)).setCell ⟨w.heap.size, 1, none⟩ (.int .i64 0)).setCell ⟨w.heap.size, 2, none⟩ (.string ⟨#[]⟩)) := ((((Kept.refl _ _).setCell (.inl (by simp)) _).setCell (.inl (by simp)) _).setCell (.inl (by simp)) _)
  have K3 := ((HK.out.mono (l2 := [q]) (by simp)).trans k2).step KS (fun x hx => by simp at hx; omega)
  have hrf : (rf ⟨[], en, er⟩ en 193).ws = [] := by unfold rf; split <;> rfl
  have HF : Hid (RP q w _ (rf ⟨[], en, er⟩ en 193)) := Hid.mk ⟨a, c, ev', h2.fin KS b2 (by rw [hrf]; exact .inl rfl), K3⟩
  clear h2 k2 c0 c1 c2 KS K3 hrf
  go_wp2
  exact bodyPost_ret (v := wv ⟨0, 0, ⟨#[]⟩⟩) (by simp [results, Tryd.results29, go_sem, l0, l1, l2, wv]) rfl ⟨rfl, HF.out⟩

set_option maxHeartbeats 8000000 in
set_option maxRecDepth 1000000 in
theorem next_some (q : Nat) (k : Int) (w : World) (x : Wd) (t : List Wd) (en : Int) (er : Option (Int × Int)) (a : Option Addr) (c : Nat) (ev : Value) (h : RdA w q ⟨x :: t, en, er⟩ a c ev) (hc : c ≠ 1) :
    Calls Tryd.prog 29 #[.pointer (some ⟨q, 0, none⟩), .int .i64 k] w fun e w' => e = .returned (wv x) ∧ RP q w w' (if x.kd = k then ⟨t, en, er⟩ else rf ⟨t, en, er⟩ x.pl 193) := by
  obtain ⟨g, o, rfl, d0, d1, d2, hw, cur, hg⟩ := h.wd.head
  have hq := lt_of_block h.bx
  have hgl := lt_of_block hg
  have hcm := h.cm
  have hlc : t.length + 1 ≤ c := by simpa using h.lc
  obtain ⟨kd, pl, sy⟩ := x
  obtain ⟨w1, e1⟩ : ∃ w1, w.alloc (.cells #[.int .i64 0, .int .i64 0, .string ⟨#[]⟩] 56 (0, 0)) = w1 := ⟨_, rfl⟩
  have b1 := heap_alloc_new w (.cells #[.int .i64 0, .int .i64 0, .string ⟨#[]⟩] 56 (0, 0))
  have k1 : Kept [] w w1 := by rw [← e1]; exact alloc_kept _ _
  have z1 : w1.heap.size = w.heap.size + 1 := by rw [← e1]; simp
  rw [e1] at b1
  have h1 := h.keep k1
  obtain ⟨c0, c1, c2⟩ := h1.cells
  have fq := h1.fz 0
  have y0 := cell_keep k1 d0 (by simp)
  have y1 := cell_keep k1 d1 (by simp)
  have y2 := cell_keep k1 d2 (by simp)
  simp only at d0 d1 d2 y0 y1 y2
  obtain ⟨R2, K2⟩ := h.tail k1 g o hw (some ⟨g, o + 3, none⟩) (.inl rfl)
  obtain ⟨w2, e2⟩ : ∃ w2, w1.setCell ⟨q, 0, none⟩ (.slice (some ⟨g, o + 3, none⟩) t.length (c - 1)) = w2 := ⟨_, rfl⟩
  rw [e2] at R2 K2
  have z2 : w2.heap.size = w.heap.size + 1 := by rw [← e2, ← z1]; simp [World.setCell]
  obtain ⟨w3, e3⟩ : ∃ w3, w2.alloc (.cells #[.int .i64 kd, .int .i64 pl, .string sy] 56 (0, 0)) = w3 := ⟨_, rfl⟩
  have b3 := heap_alloc_new w2 (.cells #[.int .i64 kd, .int .i64 pl, .string sy] 56 (0, 0))
  have k3 : Kept [] w2 w3 := by rw [← e3]; exact alloc_kept _ _
  have z3 : w3.heap.size = w.heap.size + 2 := by rw [← e3]; simp [z2]
  rw [e3, z2] at b3
  have R3 := R2.keep k3
  have kq2 : Kept [q] w1 w2 := by rw [← e2]; exact (Kept.refl _ _).setCell (.inl (by simp)) _
  have b4 := (kq2.step k3 (by simp)).heap b1 (by simp; omega)
  have K3 := K2.step k3 (by simp)
  have x0 : w3.cell? ⟨w.heap.size + 1, 0, none⟩ = some (.int .i64 kd) := by simp [World.cell?, b3]
  have x1 : w3.cell? ⟨w.heap.size + 1, 1, none⟩ = some (.int .i64 pl) := by simp [World.cell?, b3]
  have x2 : w3.cell? ⟨w.heap.size + 1, 2, none⟩ = some (.string sy) := by simp [World.cell?, b3]
  have HH := Hid.mk h
  have HW : Hid (∀ u, Kept [q] w u → Wds u (some ⟨g, o + 3, none⟩) t) := Hid.mk (fun u hu => hw.kept hu h.bx (by decide))
  have HR := Hid.mk R3
  have H4 := Hid.mk (And.intro b3 (And.intro b4 K3))
  clear h h1 b1 k1 d0 d1 d2 hw hg R2 K2 R3 b3 b4 K3 k3 kq2
  go_enter Tryd.func29, Tryd.ntmps29
  go_upto_region 6 with (fail)
  clear c0 c1 c2 fq y0 y1 y2 hlc hcm e1 e2 e3
  have FIN : Hid (∀ u Y, RE q w3 u Y (some ⟨g, o + 3, none⟩) ((c - 1)) → Y.ws = t → (u.cell? ⟨w.heap.size + 1, 0, none⟩ = some (.int .i64 kd) ∧ u.cell? ⟨w.heap.size + 1, 1, none⟩ = some (.int .i64 pl) ∧ u.cell? ⟨w.heap.size + 1, 2, none⟩ = some (.string sy)) ∧
      (u.cell? ⟨w.heap.size, 0, none⟩ = some (.int .i64 0) ∧ u.cell? ⟨w.heap.size, 1, none⟩ = some (.int .i64 0) ∧ u.cell? ⟨w.heap.size, 2, none⟩ = some (.string ⟨#[]⟩)) ∧ (∀ i, u.frozen? ⟨w.heap.size, i, none⟩ = false) ∧
      RP q w (((u.setCell ⟨w.heap.size, 0, none⟩ (.int .i64 kd)).setCell ⟨w.heap.size, 1, none⟩ (.int .i64 pl)).setCell ⟨w.heap.size, 2, none⟩ (.string sy)) Y) := Hid.mk (fun u Y hR hY => by
    obtain ⟨ev', r, ku⟩ := hR
    have c3 := ku.heap H4.out.1 (by simp; omega)
    have c4 := ku.heap H4.out.2.1 (by simp; omega)
    have KS : Kept [w.heap.size] u (((u.setCell ⟨w.heap.size, 0, none⟩ (.int .i64 kd)).setCell ⟨w.heap.size, 1, none⟩ (.int .i64 pl)).setCell ⟨w.heap.size, 2, none⟩ (.string sy)) := ((((Kept.refl _ _).setCell (.inl (by simp)) _).setCell (.inl (by simp)) _).setCell (.inl (by simp)) _)
    have KA := (H4.out.2.2.trans ku).step KS (fun x hx => by simp at hx; omega)
    refine ⟨⟨by simp [World.cell?, c3], by simp [World.cell?, c3], by simp [World.cell?, c3]⟩, ⟨by simp [World.cell?, c4], by simp [World.cell?, c4], by simp [World.cell?, c4]⟩, fun i => frozen_of_row u _ i _ _ c4, _, _, ev', r.fin KS c4 (by rw [hY]; exact HW.out _ KA), KA⟩)
  by_cases hk : kd = k
  · have S9 := FIN.out w3 ⟨t, en, er⟩ ⟨_, HR.out, Kept.refl _ _⟩ rfl
    obtain ⟨-, ⟨l0, l1, l2⟩, fz, hP⟩ := S9
    have f0 := fz 0
    have f1 := fz 1
    have f2 := fz 2
    have HP := Hid.mk hP
    subst hk
    clear hP fz
    go_wp2
    exact bodyPost_ret (v := wv ⟨kd, pl, sy⟩) (by simp [results, Tryd.results29, go_sem, l0, l1, l2, wv]) rfl ⟨rfl, HP.out⟩
  · have CR := Hid.mk (refuse_any q pl 193 w3 _ _ _ _ HR.out)
    have hrf : (rf ⟨t, en, er⟩ pl 193).ws = t := by unfold rf; split <;> rfl
    go_wp2_with (fail)
    refine CR.out.mono ?_
    rintro e w4 ⟨rfl, h4⟩
    obtain ⟨⟨v0, v1, v2⟩, ⟨l0, l1, l2⟩, fz, hP⟩ := FIN.out w4 _ h4 hrf
    have f0 := fz 0
    have f1 := fz 1
    have f2 := fz 2
    have HP := Hid.mk hP
    clear hP fz x0 x1 x2 h4 hrf
    go_wp2
    exact bodyPost_ret (v := wv ⟨kd, pl, sy⟩) (by simp [results, Tryd.results29, go_sem, l0, l1, l2, wv]) rfl ⟨rfl, HP.out⟩
set_option maxHeartbeats 8000000 in
set_option maxRecDepth 1000000 in
theorem next_last (q : Nat) (k : Int) (w : World) (x : Wd) (t : List Wd) (en : Int) (er : Option (Int × Int)) (a : Option Addr) (c : Nat) (ev : Value) (h : RdA w q ⟨x :: t, en, er⟩ a c ev) (hc : c = 1) :
    Calls Tryd.prog 29 #[.pointer (some ⟨q, 0, none⟩), .int .i64 k] w fun e w' => e = .returned (wv x) ∧ RP q w w' (if x.kd = k then ⟨t, en, er⟩ else rf ⟨t, en, er⟩ x.pl 193) := by
  obtain ⟨g, o, rfl, d0, d1, d2, hw, cur, hg⟩ := h.wd.head
  have hq := lt_of_block h.bx
  have hgl := lt_of_block hg
  have hcm := h.cm
  have hlc : t.length + 1 ≤ c := by simpa using h.lc
  obtain ⟨kd, pl, sy⟩ := x
  subst hc
  obtain rfl : t = [] := List.length_eq_zero_iff.1 (by omega)
  obtain ⟨w1, e1⟩ : ∃ w1, w.alloc (.cells #[.int .i64 0, .int .i64 0, .string ⟨#[]⟩] 56 (0, 0)) = w1 := ⟨_, rfl⟩
  have b1 := heap_alloc_new w (.cells #[.int .i64 0, .int .i64 0, .string ⟨#[]⟩] 56 (0, 0))
  have k1 : Kept [] w w1 := by rw [← e1]; exact alloc_kept _ _
  have z1 : w1.heap.size = w.heap.size + 1 := by rw [← e1]; simp
  rw [e1] at b1
  have h1 := h.keep k1
  obtain ⟨c0, c1, c2⟩ := h1.cells
  have fq := h1.fz 0
  have y0 := cell_keep k1 d0 (by simp)
  have y1 := cell_keep k1 d1 (by simp)
  have y2 := cell_keep k1 d2 (by simp)
  simp only at d0 d1 d2 y0 y1 y2
  obtain ⟨R2, K2⟩ := h.tail k1 g o hw (some ⟨g, o, none⟩) (.inr rfl)
  obtain ⟨w2, e2⟩ : ∃ w2, w1.setCell ⟨q, 0, none⟩ (.slice (some ⟨g, o, none⟩) 0 0) = w2 := ⟨_, rfl⟩
  simp only [List.length_nil, Nat.sub_self, e2] at R2 K2
  have z2 : w2.heap.size = w.heap.size + 1 := by rw [← e2, ← z1]; simp [World.setCell]
  obtain ⟨w3, e3⟩ : ∃ w3, w2.alloc (.cells #[.int .i64 kd, .int .i64 pl, .string sy] 56 (0, 0)) = w3 := ⟨_, rfl⟩
  have b3 := heap_alloc_new w2 (.cells #[.int .i64 kd, .int .i64 pl, .string sy] 56 (0, 0))
  have k3 : Kept [] w2 w3 := by rw [← e3]; exact alloc_kept _ _
  have z3 : w3.heap.size = w.heap.size + 2 := by rw [← e3]; simp [z2]
  rw [e3, z2] at b3
  have R3 := R2.keep k3
  have kq2 : Kept [q] w1 w2 := by rw [← e2]; exact (Kept.refl _ _).setCell (.inl (by simp)) _
  have b4 := (kq2.step k3 (by simp)).heap b1 (by simp; omega)
  have K3 := K2.step k3 (by simp)
  have x0 : w3.cell? ⟨w.heap.size + 1, 0, none⟩ = some (.int .i64 kd) := by simp [World.cell?, b3]
  have x1 : w3.cell? ⟨w.heap.size + 1, 1, none⟩ = some (.int .i64 pl) := by simp [World.cell?, b3]
  have x2 : w3.cell? ⟨w.heap.size + 1, 2, none⟩ = some (.string sy) := by simp [World.cell?, b3]
  have HH := Hid.mk h
  have HW : Hid (∀ u, Kept [q] w u → Wds u (some ⟨g, o, none⟩) []) := Hid.mk (fun u hu => .inl rfl)
  have HR := Hid.mk R3
  have H4 := Hid.mk (And.intro b3 (And.intro b4 K3))
  clear h h1 b1 k1 d0 d1 d2 hw hg R2 K2 R3 b3 b4 K3 k3 kq2
  go_enter Tryd.func29, Tryd.ntmps29
  go_upto_region 6 with (fail)
  clear c0 c1 c2 fq y0 y1 y2 hlc hcm e1 e2 e3
  have FIN : Hid (∀ u Y, RE q w3 u Y (some ⟨g, o, none⟩) (0) → Y.ws = [] → (u.cell? ⟨w.heap.size + 1, 0, none⟩ = some (.int .i64 kd) ∧ u.cell? ⟨w.heap.size + 1, 1, none⟩ = some (.int .i64 pl) ∧ u.cell? ⟨w.heap.size + 1, 2, none⟩ = some (.string sy)) ∧
      (u.cell? ⟨w.heap.size, 0, none⟩ = some (.int .i64 0) ∧ u.cell? ⟨w.heap.size, 1, none⟩ = some (.int .i64 0) ∧ u.cell? ⟨w.heap.size, 2, none⟩ = some (.string ⟨#[]⟩)) ∧ (∀ i, u.frozen? ⟨w.heap.size, i, none⟩ = false) ∧
      RP q w (((u.setCell ⟨w.heap.size, 0, none⟩ (.int .i64 kd)).setCell ⟨w.heap.size, 1, none⟩ (.int .i64 pl)).setCell ⟨w.heap.size, 2, none⟩ (.string sy)) Y) := Hid.mk (fun u Y hR hY => by
    obtain ⟨ev', r, ku⟩ := hR
    have c3 := ku.heap H4.out.1 (by simp; omega)
    have c4 := ku.heap H4.out.2.1 (by simp; omega)
    have KS : Kept [w.heap.size] u (((u.setCell ⟨w.heap.size, 0, none⟩ (.int .i64 kd)).setCell ⟨w.heap.size, 1, none⟩ (.int .i64 pl)).setCell ⟨w.heap.size, 2, none⟩ (.string sy)) := ((((Kept.refl _ _).setCell (.inl (by simp)) _).setCell (.inl (by simp)) _).setCell (.inl (by simp)) _)
    have KA := (H4.out.2.2.trans ku).step KS (fun x hx => by simp at hx; omega)
    refine ⟨⟨by simp [World.cell?, c3], by simp [World.cell?, c3], by simp [World.cell?, c3]⟩, ⟨by simp [World.cell?, c4], by simp [World.cell?, c4], by simp [World.cell?, c4]⟩, fun i => frozen_of_row u _ i _ _ c4, _, _, ev', r.fin KS c4 (by rw [hY]; exact HW.out _ KA), KA⟩)
  by_cases hk : kd = k
  · have S9 := FIN.out w3 ⟨[], en, er⟩ ⟨_, HR.out, Kept.refl _ _⟩ rfl
    obtain ⟨-, ⟨l0, l1, l2⟩, fz, hP⟩ := S9
    have f0 := fz 0
    have f1 := fz 1
    have f2 := fz 2
    have HP := Hid.mk hP
    subst hk
    clear hP fz
    go_wp2
    exact bodyPost_ret (v := wv ⟨kd, pl, sy⟩) (by simp [results, Tryd.results29, go_sem, l0, l1, l2, wv]) rfl ⟨rfl, HP.out⟩
  · have CR := Hid.mk (refuse_any q pl 193 w3 _ _ _ _ HR.out)
    have hrf : (rf ⟨[], en, er⟩ pl 193).ws = [] := by unfold rf; split <;> rfl
    go_wp2_with (fail)
    refine CR.out.mono ?_
    rintro e w4 ⟨rfl, h4⟩
    obtain ⟨⟨v0, v1, v2⟩, ⟨l0, l1, l2⟩, fz, hP⟩ := FIN.out w4 _ h4 hrf
    have f0 := fz 0
    have f1 := fz 1
    have f2 := fz 2
    have HP := Hid.mk hP
    clear hP fz x0 x1 x2 h4 hrf
    go_wp2
    exact bodyPost_ret (v := wv ⟨kd, pl, sy⟩) (by simp [results, Tryd.results29, go_sem, l0, l1, l2, wv]) rfl ⟨rfl, HP.out⟩

/-- What next answers. -/
def NxP (q : Nat) (w : World) (X : Rr) (k : Int) (e : Ending) (w' : World) : Prop := e = .returned (wv (nx X k).1) ∧ RP q w w' (nx X k).2
theorem next_any (q : Nat) (k : Int) (w w0 : World) (X : Rr) (h : RP q w0 w X) : Calls Tryd.prog 29 #[.pointer (some ⟨q, 0, none⟩), .int .i64 k] w fun e w' => NxP q w0 X k e w' := by
  obtain ⟨a, c, ev, h, hk⟩ := h
  obtain ⟨ws, en, er⟩ := X
  have UP : ∀ w' Y, RP q w w' Y → RP q w0 w' Y := fun w' Y ⟨a, c, ev, h1, h2⟩ => ⟨a, c, ev, h1, hk.trans h2⟩
  cases ws with
  | nil => exact (next_none q k w en er a c ev h).mono fun e w' ⟨h1, h2⟩ => ⟨h1, UP _ _ h2⟩
  | cons x t =>
    by_cases hc : c = 1
    · exact (next_last q k w x t en er a c ev h hc).mono fun e w' ⟨h1, h2⟩ => ⟨h1, UP _ _ h2⟩
    · exact (next_some q k w x t en er a c ev h hc).mono fun e w' ⟨h1, h2⟩ => ⟨h1, UP _ _ h2⟩
theorem refuse_rp (q : Nat) (p E : Int) (w w0 : World) (X : Rr) (h : RP q w0 w X) : Calls Tryd.prog 30 #[.pointer (some ⟨q, 0, none⟩), .int .i64 p, .int .i64 E] w fun e w' => e = .returned (.tuple #[]) ∧ RP q w0 w' (rf X p E) := by
  obtain ⟨a, c, ev, h, hk⟩ := h
  exact (refuse_any q p E w X a c ev h).mono fun e w' ⟨h1, h2⟩ => ⟨h1, by obtain ⟨ev, h3, h4⟩ := h2; exact ⟨a, c, ev, h3, hk.trans h4⟩⟩
end Go.Proofs.YtknkjhfemgiiaaaDoor
