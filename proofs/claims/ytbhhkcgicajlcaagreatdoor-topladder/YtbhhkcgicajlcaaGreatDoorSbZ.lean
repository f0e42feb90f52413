import Derived.Test.YtbhhkcgicajlcaaGreatDoorSa
namespace Go.Proofs.YtbhhkcgicajlcaaGreatDoor
open Go.RowKit

theorem ne_ty {w : World} {a b t u : Nat} {x y : Array Value} {p q : Nat × Nat} (h1 : w.heap[a]? = some (.cells x t p)) (h2 : w.heap[b]? = some (.cells y u q)) (h : t ≠ u) : a ≠ b := by
  rintro rfl
  rw [h1] at h2
  simp at h2
  exact h h2.2.1

/-- The six cells of a walk. -/
abbrev wc (W : Nat) (D : Int) (P X G n : Nat) (t : Int) (ext : List Value) : List Value :=
  [.int .i64 (W : Int), .int .i64 D, .pointer (some ⟨P, 0, none⟩), .pointer (some ⟨X, 0, none⟩), .slice (some ⟨G, 0, none⟩) n n, .int .i64 t] ++ ext

/-- A walk in memory. -/
structure Wm (w : World) (B P X G ty : Nat) (T d D : Int) (W n : Nat) (ext : List Value) (s : Wk) : Prop where
  blk : w.heap[B]? = some (.cells (wc W D P X G n (s.t : Int) ext).toArray ty (0, 0))
  md : Md w P T d s.L
  co : CoderAt w X s.r
  row : ∃ cs : List Value, w.heap[G]? = some (.cells cs.toArray 77 (0, 0)) ∧ cs.length = n ∧ ∀ i, i < s.t → cs[i]? = some (.int .u16 (s.b i))
  ty : ty = 167 ∨ ty = 98764

theorem Wm.ne {w : World} {B P X G ty : Nat} {T d D : Int} {W n : Nat} {ext : List Value} {s : Wk} (h : Wm w B P X G ty T d D W n ext s) : B ≠ P ∧ B ≠ X ∧ B ≠ G ∧ P ≠ X ∧ P ≠ G ∧ X ≠ G := by
  obtain ⟨cs, hr, _⟩ := h.row
  obtain ⟨ps, hp, _⟩ := h.md.blk
  have hx := h.co.1
  have ht := h.ty
  exact ⟨ne_ty h.blk hp (by omega), ne_ty h.blk hx (by omega), ne_ty h.blk hr (by omega), ne_ty hp hx (by omega), ne_ty hp hr (by omega), ne_ty hx hr (by omega)⟩

theorem Wm.keep {w w' : World} {B P X G ty : Nat} {T d D : Int} {W n : Nat} {ext : List Value} {s : Wk} {ks : List Nat} (h : Wm w B P X G ty T d D W n ext s) (hk : Kept ks w w') (h0 : B ∉ ks ∧ P ∉ ks ∧ X ∉ ks ∧ G ∉ ks) : Wm w' B P X G ty T d D W n ext s := by
  obtain ⟨cs, hr, hl, hc⟩ := h.row
  exact ⟨hk.heap h.blk h0.1, h.md.keep hk h0.2.1, h.co.kept hk h0.2.2.1, ⟨cs, hk.heap hr h0.2.2.2, hl, hc⟩, h.ty⟩
theorem Wm.drewN {w : World} {B P X G ty : Nat} {T d D : Int} {W n : Nat} {ext : List Value} {s : Wk} (h : Wm w B P X G ty T d D W n ext s) (q : Nat) : Wm (w.drewN q) B P X G ty T d D W n ext s := h.keep ((Kept.refl [] w).drewN q) (by simp)

/-- The cells as facts. -/
structure Wf (w : World) (B P X G : Nat) (D : Int) (W n : Nat) (t : Int) : Prop where
  c0 : w.cell? ⟨B, 0, none⟩ = some (.int .i64 (W : Int))
  c1 : w.cell? ⟨B, 1, none⟩ = some (.int .i64 D)
  c2 : w.cell? ⟨B, 2, none⟩ = some (.pointer (some ⟨P, 0, none⟩))
  c3 : w.cell? ⟨B, 3, none⟩ = some (.pointer (some ⟨X, 0, none⟩))
  c4 : w.cell? ⟨B, 4, none⟩ = some (.slice (some ⟨G, 0, none⟩) n n)
  c5 : w.cell? ⟨B, 5, none⟩ = some (.int .i64 t)
  fz : ∀ i, w.frozen? ⟨B, i, none⟩ = false

theorem Wm.fact {w : World} {B P X G ty : Nat} {T d D : Int} {W n : Nat} {ext : List Value} {s : Wk} (h : Wm w B P X G ty T d D W n ext s) : Wf w B P X G D W n (s.t : Int) := by
  have hb := h.blk
  refine ⟨?_, ?_, ?_, ?_, ?_, ?_, ?_⟩ <;> simp [World.cell?, World.frozen?, hb]
theorem Wm.cel {w : World} {B P X G ty : Nat} {T d D : Int} {W n : Nat} {ext : List Value} {s : Wk} (h : Wm w B P X G ty T d D W n ext s) (i : Nat) (hi : i < s.t) : w.cell? ⟨G, i, none⟩ = some (.int .u16 (s.b i)) := by
  obtain ⟨cs, hr, hl, hc⟩ := h.row
  rw [cell_of_row _ _ _ _ _ _ hr]
  simpa using hc i hi
theorem Wm.any {w : World} {B P X G ty : Nat} {T d D : Int} {W n : Nat} {ext : List Value} {s : Wk} (h : Wm w B P X G ty T d D W n ext s) (i : Nat) (hi : i < n) : (∃ u, w.cell? ⟨G, i, none⟩ = some u) ∧ w.frozen? ⟨G, i, none⟩ = false := by
  obtain ⟨cs, hr, hl, hc⟩ := h.row
  exact ⟨row_cell_at hr (by omega), by simp [World.frozen?, hr]⟩

/-- One sample more. -/
theorem Wm.put {w : World} {B P X G ty : Nat} {T d D : Int} {W n : Nat} {ext : List Value} {s : Wk} (h : Wm w B P X G ty T d D W n ext s) (ht : s.t < n) (v : Int) (b' : Nat → Int) (hb : ∀ i, i < s.t → b' i = s.b i) (hv : b' s.t = v) :
    Wm ((w.setCell ⟨G, s.t, none⟩ (.int .u16 v)).setCell ⟨B, 5, none⟩ (.int .i64 ((s.t + 1 : Nat) : Int))) B P X G ty T d D W n ext ⟨s.L, s.r, b', s.t + 1⟩ := by
  obtain ⟨n1, n2, n3, n4, n5, n6⟩ := h.ne
  have k1 : Kept [G] w (w.setCell ⟨G, s.t, none⟩ (.int .u16 v)) := (Kept.refl _ _).setCell (by simp) _
  have k2 : Kept [B] (w.setCell ⟨G, s.t, none⟩ (.int .u16 v)) ((w.setCell ⟨G, s.t, none⟩ (.int .u16 v)).setCell ⟨B, 5, none⟩ (.int .i64 ((s.t + 1 : Nat) : Int))) := (Kept.refl _ _).setCell (by simp) _
  have k : Kept [B, G] w ((w.setCell ⟨G, s.t, none⟩ (.int .u16 v)).setCell ⟨B, 5, none⟩ (.int .i64 ((s.t + 1 : Nat) : Int))) := (k1.mono (l2 := [B, G]) (by simp)).step k2 (by simp)
  obtain ⟨cs, hr, hl, hc⟩ := h.row
  refine ⟨?_, h.md.keep k (by simp; omega), h.co.kept k (by simp; omega), ⟨cs.set s.t (.int .u16 v), ?_, by simpa using hl, ?_⟩, h.ty⟩
  · rw [heap_setCell_at (k1.heap h.blk (by simp; omega))]
    simp [wc]
  · refine k2.heap ?_ (by simp; omega)
    rw [heap_setCell_at hr]
    simp
  · intro i hi
    have hi : i < s.t + 1 := hi
    show _ = some (Value.int .u16 (b' i))
    rw [List.getElem?_set]
    by_cases e : s.t = i
    · subst e; rw [if_pos rfl, if_pos (by omega), hv]
    · rw [if_neg e, hb i (by omega)]; exact hc i (by omega)

theorem u16_in {v : Int} (h0 : 0 ≤ v) (h1 : v ≤ 65535) : IntKind.u16.wrap v = v := by
  simp only [IntKind.wrap, IntKind.bits, IntKind.signed]; simp; omega

set_option maxHeartbeats 4000000 in
set_option maxRecDepth 1000000 in
theorem fill_any (B P X G ty : Nat) (T d D : Int) (W n : Nat) (ext : List Value) (s : Wk) (m v : Int) (w : World) (h : Wm w B P X G ty T d D W n ext s) (m0 : 0 ≤ m) (hm : s.t + m.toNat ≤ n) (hn : n ≤ 4194304) (v0 : 0 ≤ v) (v1 : v ≤ 65535) :
    Calls Tryz.prog 135 #[.pointer (some ⟨B, 0, none⟩), .int .i64 m, .int .i64 v] w fun e w' => e = .returned (.tuple #[]) ∧ Wm w' B P X G ty T d D W n ext ⟨s.L, s.r, fil s.b s.t m.toNat v, s.t + m.toNat⟩ ∧ Kept [B, G] w w' := by
  have hv := u16_in v0 v1
  have HW := Hid.mk h
  clear h
  obtain ⟨M, rfl⟩ := Int.eq_ofNat_of_zero_le m0
  rw [Int.toNat_natCast] at hm ⊢
  have hm' : M ≤ 4194304 := by omega
  go_enter Tryz.func135, Tryz.ntmps135
  go_wp2
  go_loopw [7] (fun i wr => ∃ k : Nat, k ≤ M ∧ i = .int .i64 (k : Int) ∧ Wm wr B P X G ty T d D W n ext ⟨s.L, s.r, fil s.b s.t k v, s.t + k⟩ ∧ Kept [B, G] w wr) (fun i _ => M - (intOf i).toNat)
  case atStart => exact ⟨0, by omega, rfl, by have := HW.out; obtain ⟨a, b, c, ⟨cs, x, y, z⟩, e⟩ := this; exact ⟨a, b, c, ⟨cs, x, y, fun i hi => by rw [z i hi]; show _ = some (Value.int .u16 (fil _ _ _ _ i)); rw [fil_same _ _ _ _ _ (by simpa using hi)]⟩, e⟩, Kept.refl _ _⟩
  case round =>
    obtain ⟨k, hk, rfl, hw, hkk⟩ := hrel
    have F := hw.fact
    have HK := Hid.mk hkk
    have Hw := Hid.mk hw
    have hne := hw.ne
    by_cases hlt : k < M
    · obtain ⟨⟨u, hu⟩, hf⟩ := hw.any (s.t + k) (by omega)
      obtain ⟨-, -, -, -, c4, c5, fz⟩ := F
      have c5 : wr.cell? ⟨B, 5, none⟩ = some (.int .i64 ((s.t : Int) + k)) := c5
      have f5 := fz 5
      have hBG : ¬ B = G := by omega
      have hGB : ¬ G = B := by omega
      have ix : (s.t : Int) + k < n := by omega
      have ix0 : (0 : Int) ≤ (s.t : Int) + k := by omega
      have et : ((s.t : Int) + k).toNat = s.t + k := by omega
      have hu : wr.cell? ⟨G, ((s.t : Int) + k).toNat, none⟩ = some u := by rw [et]; exact hu
      have hf : wr.frozen? ⟨G, ((s.t : Int) + k).toNat, none⟩ = false := by rw [et]; exact hf
      have ET := Hid.mk et
      clear hw hkk fz hne et hm
      go_wp2
      go_region_law (fail)
      all_goals
        obtain ⟨w2, hw2, e5, g5, HW2⟩ : ∃ w2, (wr.setCell ⟨G, ((s.t : Int) + k).toNat, none⟩ (.int .u16 v)).drew = w2 ∧ w2.cell? ⟨B, 5, none⟩ = some (.int .i64 ((s.t : Int) + k)) ∧ w2.frozen? ⟨B, 5, none⟩ = false ∧ Hid (w2 = (wr.setCell ⟨G, s.t + k, none⟩ (.int .u16 v)).drew) := ⟨_, rfl, by
          show (World.setCell _ _ _).cell? _ = _
          rw [World.cell?_setCell_other _ _ _ _ (by simp <;> omega)]; exact c5, by simpa [go_sem] using f5, by rw [ET.out]; exact Hid.mk rfl⟩
        rw [hw2]
        clear hw2
        go_wp2
        go_roundw
        case rel =>
          have hp := Hw.out.put (by show s.t + k < n; omega) v (fil s.b s.t (k + 1) v) (fun i hi => by
            have hi : i < s.t + k := hi
            show fil _ _ _ _ i = fil _ _ _ _ i
            unfold fil
            by_cases hc : s.t ≤ i
            · rw [if_pos ⟨hc, by omega⟩, if_pos ⟨hc, hi⟩]
            · rw [if_neg (by omega), if_neg (by omega)]) (fil_in _ _ _ _ _ (by show s.t ≤ s.t + k; omega) (by show s.t + k < _; omega))
          have e : ((s.t : Int) + k + 1) = ((s.t + k + 1 : Nat) : Int) := by omega
          refine ⟨k + 1, by omega, by go_num, ?_, ?_⟩
          · rw [HW2.out, e]
            exact hp.keep (ks := []) ((Kept.refl [] _).drewN 1) (by simp)
          · rw [HW2.out]
            exact ((HK.out.setCell (p := ⟨G, s.t + k, none⟩) (by simp) _).drew).setCell (p := ⟨B, 5, none⟩) (by simp) _
        case measure => simp [intOf]; omega
    · obtain rfl : M = k := by omega
      go_wp2
      go_end0
      exact ⟨rfl, Hw.out, HK.out⟩
end Go.Proofs.YtbhhkcgicajlcaaGreatDoor

namespace Go.Proofs.YtbhhkcgicajlcaaGreatDoor
open Go.RowKit

/-- What a depth's greatest sample is. -/
def Dp (D T : Int) : Prop := (D = 10 ∧ T = 1023) ∨ (D = 12 ∧ T = 4095)
theorem Dp.mid {D T : Int} (h : Dp D T) : wrap64 (2 ^ (D.toNat - 1)) = (T + 1) / 2 ∧ 0 ≤ D ∧ D ≤ 12 ∧ 0 ≤ D - 1 := by
  rcases h with ⟨rfl, rfl⟩ | ⟨rfl, rfl⟩
  · exact ⟨by rw [show (Int.toNat 10 - 1) = 9 from rfl]; unfold wrap64; omega, by decide, by decide, by decide⟩
  · exact ⟨by rw [show (Int.toNat 12 - 1) = 11 from rfl]; unfold wrap64; omega, by decide, by decide, by decide⟩

theorem results_tmp4' {fn : Func} {t u v x : Tmp} (h : fn.results = #[.tmp t, .tmp u, .tmp v, .tmp x]) (tmps : Array Value) (P : Program) (w : World) :
    (results fn tmps).run P w = .ok (.tuple #[tmps.getD t undef, tmps.getD u undef, tmps.getD v undef, tmps.getD x undef]) w := by
  simp [results, h]

set_option maxHeartbeats 4000000 in
set_option maxRecDepth 1000000 in
theorem left_first (B P X G ty : Nat) (T d D : Int) (W n : Nat) (ext : List Value) (s : Wk) (w : World) (h : Wm w B P X G ty T d D W n ext s) (hD : Dp D T) (hn : n ≤ 4194304) (ht : s.t < n) (hW : s.t < W) (hb : ∀ i, i < s.t → 0 ≤ s.b i ∧ s.b i ≤ 4095) :
    Calls Tryz.prog 169 #[.pointer (some ⟨B, 0, none⟩)] w fun e w' => e = .returned (.int .i64 (nA T W s.b s.t)) ∧ ∃ m, w' = w.drewN m := by
  obtain ⟨c0, c1, c2, c3, c4, c5, fz⟩ := h.fact
  obtain ⟨hm, d0, d1, d2⟩ := hD.mid
  unfold nA
  rw [if_pos hW]
  by_cases h0 : s.t = 0
  · rw [if_pos h0]
    rw [h0] at c5
    have c5 : w.cell? ⟨B, 5, none⟩ = some (.int .i64 0) := c5
    obtain ⟨R, hR⟩ : ∃ R, (T + 1) / 2 = R := ⟨_, rfl⟩
    rw [hR] at hm ⊢
    clear h hn ht hW hb hD fz hR h0
    go_enter Tryz.func169, Tryz.ntmps169
    go_wp2
    go_ret
    exact ⟨ret_int hm, 0, rfl⟩
  · rw [if_neg h0]
    have hc := h.cel (s.t - 1) (by omega)
    have hb := hb (s.t - 1) (by omega)
    generalize s.b (s.t - 1) = v at *
    obtain ⟨t, ht'⟩ : ∃ t, s.t = t + 1 := ⟨s.t - 1, by omega⟩
    rw [ht'] at c5 hc
    have c5 : w.cell? ⟨B, 5, none⟩ = some (.int .i64 ((t : Int) + 1)) := c5
    have hc : w.cell? ⟨G, t, none⟩ = some (.int .u16 v) := hc
    have ix : (t : Int) < n := by omega
    have hv : IntKind.i64.wrap v = v := wrap_i (by omega) (by omega)
    clear h hW hD fz h0 hm
    go_enter Tryz.func169, Tryz.ntmps169
    go_wp2
    go_quiet (fail)
    go_wp2
    go_ret
    exact ⟨rfl, _, rfl⟩

set_option maxHeartbeats 4000000 in
set_option maxRecDepth 1000000 in
theorem room_any (B P X G ty : Nat) (T d D : Int) (W n : Nat) (ext : List Value) (s : Wk) (w : World) (h : Wm w B P X G ty T d D W n ext s) (hW : 1 ≤ W) (hW2 : W ≤ 4096) :
    Calls Tryz.prog 134 #[.pointer (some ⟨B, 0, none⟩)] w fun e w' => e = .returned (.int .i64 ((rom W s.t : Nat) : Int)) ∧ ∃ m, w' = w.drewN m := by
  obtain ⟨c0, c1, c2, c3, c4, c5, fz⟩ := h.fact
  have h1 := Nat.mod_lt s.t (show 0 < W by omega)
  obtain ⟨x, hx⟩ : ∃ x, s.t % W = x := ⟨_, rfl⟩
  have hR : (rom W s.t : Int) = (W : Int) - x := by unfold rom; omega
  rw [hR]
  have hm : (s.t : Int) % (W : Int) = (x : Int) := by rw [← hx]; simp
  have hz : ¬ (W : Int) = 0 := by omega
  have z1 : (0 : Int) ≤ (s.t : Int) := by omega
  have z2 : (0 : Int) < (W : Int) := by omega
  have hw : wrap64 ((W : Int) - x) = (W : Int) - x := w64_in (by omega) (by omega)
  clear h fz hR hx
  go_enter Tryz.func134, Tryz.ntmps134
  go_wp2
  go_quiet (fail)
  go_wp2
  go_ret
  exact ⟨rfl, _, rfl⟩

set_option maxHeartbeats 4000000 in
set_option maxRecDepth 1000000 in
theorem neigh_any (B P X G ty : Nat) (T d D : Int) (W n : Nat) (ext : List Value) (s : Wk) (w : World) (h : Wm w B P X G ty T d D W n ext s) (hD : Dp D T) (hn : n ≤ 4194304) (ht : s.t < n) (hW : 1 ≤ W) (hW2 : W ≤ 4096) (hb : ∀ i, i < s.t → 0 ≤ s.b i ∧ s.b i ≤ 4095) :
    Calls Tryz.prog 150 #[.pointer (some ⟨B, 0, none⟩)] w fun e w' => e = .returned (.tuple #[.int .i64 (nA T W s.b s.t), .int .i64 (nB T W s.b s.t), .int .i64 (nC T W s.b s.t), .int .i64 (nE T W s.b s.t)]) ∧ ∃ m, w' = w.drewN m := by
  obtain ⟨c0, c1, c2, c3, c4, c5, fz⟩ := h.fact
  have h1 := Nat.mod_lt s.t (show 0 < W by omega)
  by_cases hc : s.t < W
  · have C := Hid.mk (fun q => left_first B P X G ty T d D W n ext s (w.drewN q) (h.drewN q) hD hn ht hc hb)
    have eB : nB T W s.b s.t = nA T W s.b s.t := if_pos hc
    have eC : nC T W s.b s.t = nA T W s.b s.t := if_pos hc
    have eE : nE T W s.b s.t = nA T W s.b s.t := if_pos hc
    rw [eB, eC, eE]
    generalize nA T W s.b s.t = a at *
    have hc' : (s.t : Int) < (W : Int) := by omega
    clear h hb eB eC eE fz
    go_enter Tryz.func150, Tryz.ntmps150
    go_wp2
    go_quiet (fail)
    go_wp2_with (go_at_call 169; refine (C.out _).mono ?_; rintro e w' ⟨rfl, m, rfl⟩)
    (try simp only [Exit.inBlock, Exit.then]); refine bodyPost_ret (results_tmp4' rfl _ _ _) rfl ?_
    exact ⟨rfl, _, rfl⟩
  · have hc' : ¬ (s.t : Int) < (W : Int) := by omega
    obtain ⟨U, hU⟩ : ∃ U, s.t = U + W := ⟨s.t - W, by omega⟩
    have hx1 : s.t % W = U % W := by rw [hU]; simp
    have hU1 : (s.t : Int) - (W : Int) = (U : Int) := by omega
    obtain ⟨x, hx⟩ : ∃ x, s.t % W = x := ⟨_, rfl⟩
    have hm : (s.t : Int) % (W : Int) = (x : Int) := by rw [← hx]; simp
    have hz : ¬ (W : Int) = 0 := by omega
    have z1 : (0 : Int) ≤ (s.t : Int) := by omega
    have z2 : (0 : Int) < (W : Int) := by omega
    have hb0 := h.cel U (by omega)
    have eB : nB T W s.b s.t = s.b U := by unfold nB; rw [if_neg hc, show s.t - W = U by omega]
    have v0 := hb U (by omega)
    have w0 : IntKind.i64.wrap (s.b U) = s.b U := wrap_i (by omega) (by omega)
    have ixU : (U : Int) < n := by omega
    have hWx : wrap64 ((W : Int) - 1) = (W : Int) - 1 := w64_in (by omega) (by omega)
    rw [eB]
    by_cases hx0 : 0 < x
    · have hx0' : (0 : Int) < (x : Int) := by omega
      have hUp : 0 < U := by
        rcases Nat.eq_zero_or_pos U with h | h
        · rw [h] at hx1; simp at hx1; omega
        · exact h
      obtain ⟨t1, ht1⟩ : ∃ t1, s.t = t1 + 1 := ⟨s.t - 1, by omega⟩
      obtain ⟨U1, hU2⟩ : ∃ U1, U = U1 + 1 := ⟨U - 1, by omega⟩
      have g1 : (s.t : Int) - 1 = (t1 : Int) := by omega
      have g2 : (U : Int) - 1 = (U1 : Int) := by omega
      have hb1 := h.cel t1 (by omega)
      have hb2 := h.cel U1 (by omega)
      have v1 := hb t1 (by omega)
      have v2 := hb U1 (by omega)
      have w1 : IntKind.i64.wrap (s.b t1) = s.b t1 := wrap_i (by omega) (by omega)
      have w2 : IntKind.i64.wrap (s.b U1) = s.b U1 := wrap_i (by omega) (by omega)
      have ix1 : (t1 : Int) < n := by omega
      have ix2 : (U1 : Int) < n := by omega
      have eA : nA T W s.b s.t = s.b t1 := by unfold nA; rw [if_neg hc, if_pos (by omega), show s.t - 1 = t1 by omega]
      have eC : nC T W s.b s.t = s.b U1 := by unfold nC; rw [if_neg hc, if_pos (by omega), show s.t - W - 1 = U1 by omega]
      rw [eA, eC]
      by_cases hr : x + 1 < W
      · have hr' : (x : Int) < (W : Int) - 1 := by omega
        have hb3 := h.cel (U + 1) (by omega)
        have v3 := hb (U + 1) (by omega)
        have w3 : IntKind.i64.wrap (s.b (U + 1)) = s.b (U + 1) := wrap_i (by omega) (by omega)
        have ix3 : (U : Int) + 1 < n := by omega
        have eE : nE T W s.b s.t = s.b (U + 1) := by unfold nE; rw [if_neg hc, if_pos (by omega), show s.t - W + 1 = U + 1 by omega]
        rw [eE]
        generalize s.b (U + 1) = y3 at *
        generalize s.b U1 = y2 at *
        generalize s.b t1 = y1 at *
        generalize s.b U = y0 at *
        clear h hb eA eB eC eE fz hx hx1 hU hU2 ht1 h1
        go_enter Tryz.func150, Tryz.ntmps150
        go_wp2
        go_quiet (fail)
        go_wp2
        go_quiet (fail)
        go_wp2
        go_quiet (fail)
        go_wp2
        (try simp only [Exit.inBlock, Exit.then]); refine bodyPost_ret (results_tmp4' rfl _ _ _) rfl ?_
        exact ⟨rfl, _, rfl⟩
      · have hr' : ¬ (x : Int) < (W : Int) - 1 := by omega
        have eE : nE T W s.b s.t = s.b U := by unfold nE; rw [if_neg hc, if_neg (by omega), show s.t - W = U by omega]
        rw [eE]
        generalize s.b U1 = y2 at *
        generalize s.b t1 = y1 at *
        generalize s.b U = y0 at *
        clear h hb eA eB eC eE fz hx hx1 hU hU2 ht1 h1
        go_enter Tryz.func150, Tryz.ntmps150
        go_wp2
        go_quiet (fail)
        go_wp2
        go_quiet (fail)
        go_wp2
        go_quiet (fail)
        go_wp2
        (try simp only [Exit.inBlock, Exit.then]); refine bodyPost_ret (results_tmp4' rfl _ _ _) rfl ?_
        exact ⟨rfl, _, rfl⟩
    · have hx0' : ¬ (0 : Int) < (x : Int) := by omega
      have eA : nA T W s.b s.t = s.b U := by unfold nA; rw [if_neg hc, if_neg (by omega), show s.t - W = U by omega]
      have eC : nC T W s.b s.t = s.b U := by unfold nC; rw [if_neg hc, if_neg (by omega), show s.t - W = U by omega]
      rw [eA, eC]
      by_cases hr : x + 1 < W
      · have hr' : (x : Int) < (W : Int) - 1 := by omega
        have hb3 := h.cel (U + 1) (by omega)
        have v3 := hb (U + 1) (by omega)
        have w3 : IntKind.i64.wrap (s.b (U + 1)) = s.b (U + 1) := wrap_i (by omega) (by omega)
        have ix3 : (U : Int) + 1 < n := by omega
        have eE : nE T W s.b s.t = s.b (U + 1) := by unfold nE; rw [if_neg hc, if_pos (by omega), show s.t - W + 1 = U + 1 by omega]
        rw [eE]
        generalize s.b (U + 1) = y3 at *
        generalize s.b U = y0 at *
        clear h hb eA eB eC eE fz hx hx1 hU h1
        go_enter Tryz.func150, Tryz.ntmps150
        go_wp2
        go_quiet (fail)
        go_wp2
        go_quiet (fail)
        go_wp2
        (try simp only [Exit.inBlock, Exit.then]); refine bodyPost_ret (results_tmp4' rfl _ _ _) rfl ?_
        exact ⟨rfl, _, rfl⟩
      · have hr' : ¬ (x : Int) < (W : Int) - 1 := by omega
        have eE : nE T W s.b s.t = s.b U := by unfold nE; rw [if_neg hc, if_neg (by omega), show s.t - W = U by omega]
        rw [eE]
        generalize s.b U = y0 at *
        clear h hb eA eB eC eE fz hx hx1 hU h1
        go_enter Tryz.func150, Tryz.ntmps150
        go_wp2
        go_quiet (fail)
        go_wp2
        go_quiet (fail)
        go_wp2
        (try simp only [Exit.inBlock, Exit.then]); refine bodyPost_ret (results_tmp4' rfl _ _ _) rfl ?_
        exact ⟨rfl, _, rfl⟩
end Go.Proofs.YtbhhkcgicajlcaaGreatDoor
