import Derived.Test.YtiganmmacmhndaaGreatDooruB
import Derived.Test.YtiganmmacmhndaaGreatDoorqJZ
import Derived.Test.YtiganmmacmhndaaGreatDoorHfZ
namespace Go.Proofs.YtiganmmacmhndaaGreatDoor.Pc
open Go.RowKit

/-- What decoding planes comes to: the first error, or none. -/
def DecS (T D : Int) (r : Nat → Int) (bw bh : Nat → Nat) (L : List (List Nat)) (m : Nat) (E : Int) : Prop :=
  (E = 0 ∧ ∀ i, i < m → ∃ s, RdRes T (r i) D (bw i) (bw i * bh i) (L.getD i []) 0 s) ∨
  (E ≠ 0 ∧ ∃ j, j < m ∧ (∀ i, i < j → ∃ s, RdRes T (r i) D (bw i) (bw i * bh i) (L.getD i []) 0 s) ∧ ∃ s, RdRes T (r j) D (bw j) (bw j * bh j) (L.getD j []) E s)
/-- Blocks of which k stand in the block g (three cells each). -/
def BlkC (w : World) (g k : Nat) (T D : Int) (r : Nat → Int) (bw bh : Nat → Nat) (L : List (List Nat)) (cs : List Value) : Prop :=
  ∀ i, i < k → ∃ G s, cs[i * 3]? = some (.int .i64 (bw i : Int)) ∧ cs[i * 3 + 1]? = some (.int .i64 (bh i : Int)) ∧ cs[i * 3 + 2]? = some (.slice (some ⟨G, 0, none⟩) (bw i * bh i) (bw i * bh i)) ∧ Smp w G 0 (bw i * bh i) s.b ∧ s.t = bw i * bh i ∧ s.In T ∧ RdRes T (r i) D (bw i) (bw i * bh i) (L.getD i []) 0 s ∧ g < G
theorem BlkC.kept {w w' : World} {g k x : Nat} {T D : Int} {r : Nat → Int} {bw bh : Nat → Nat} {L : List (List Nat)} {cs : List Value} (h : BlkC w g k T D r bw bh L cs) (hk : Kept [x] w w') (hx : x ≤ g) : BlkC w' g k T D r bw bh L cs := fun i hi => by
  obtain ⟨G, s, h1, h2, h3, h4, h5, h6, h7, h8⟩ := h i hi
  exact ⟨G, s, h1, h2, h3, h4.keep hk (by simp; omega), h5, h6, h7, h8⟩
theorem BlkC.keep {w w' : World} {g k : Nat} {T D : Int} {r : Nat → Int} {bw bh : Nat → Nat} {L : List (List Nat)} {cs : List Value} (h : BlkC w g k T D r bw bh L cs) (hk : Kept [] w w') : BlkC w' g k T D r bw bh L cs := fun i hi => by
  obtain ⟨G, s, h1, h2, h3, h4, h5, h6, h7, h8⟩ := h i hi
  exact ⟨G, s, h1, h2, h3, h4.keep hk (by simp), h5, h6, h7, h8⟩
theorem BlkC.put {w : World} {g k : Nat} {T D : Int} {r : Nat → Int} {bw bh : Nat → Nat} {L : List (List Nat)} {cs : List Value} (h : BlkC w g k T D r bw bh L cs) {n G : Nat} {s : Wk} (hc : k * 3 + 2 < cs.length) (hn : bw k * bh k = n) (h4 : Smp w G 0 n s.b) (h5 : s.t = n) (h6 : s.In T) (h7 : RdRes T (r k) D (bw k) n (L.getD k []) 0 s) (h8 : g < G) :
    BlkC w g (k + 1) T D r bw bh L (((cs.set (k * 3) (.int .i64 (bw k : Int))).set (k * 3 + 1) (.int .i64 (bh k : Int))).set (k * 3 + 2) (.slice (some ⟨G, 0, none⟩) n n)) := fun i hi => by
  subst hn
  by_cases e : i = k
  · subst e
    refine ⟨G, s, ?_, ?_, ?_, h4, h5, h6, h7, h8⟩
    · rw [List.getElem?_set_ne (by omega), List.getElem?_set_ne (by omega), List.getElem?_set_self (by omega)]
    · rw [List.getElem?_set_ne (by omega), List.getElem?_set_self (by simp; omega)]
    · rw [List.getElem?_set_self (by simp; omega)]
  · obtain ⟨G', s', a1, a2, a3, a4⟩ := h i (by omega)
    refine ⟨G', s', ?_, ?_, ?_, a4⟩
    · rw [List.getElem?_set_ne (by omega), List.getElem?_set_ne (by omega), List.getElem?_set_ne (by omega)]; exact a1
    · rw [List.getElem?_set_ne (by omega), List.getElem?_set_ne (by omega), List.getElem?_set_ne (by omega)]; exact a2
    · rw [List.getElem?_set_ne (by omega), List.getElem?_set_ne (by omega), List.getElem?_set_ne (by omega)]; exact a3
theorem mc_cell {w : World} {g : Nat} {L : List (List Nat)} (h : Py.MC w (some ⟨g, 0, none⟩) L) {i : Nat} (hi : i < L.length) : ∃ bo cap, w.cell? ⟨g, i, none⟩ = some (.slice bo (L.getD i []).length cap) ∧ (L.getD i []).length ≤ cap ∧ Reads w bo (L.getD i []) := by
  rcases h with h | ⟨g', off, e, hc⟩
  · subst h; simp at hi
  · cases e
    obtain ⟨bo, cap, h1, h2, h3⟩ := hc i hi
    rw [Nat.zero_add] at h1
    exact ⟨bo, cap, h1, h2, h3⟩
theorem spT_byts {n B : Nat} : ∀ {l : List Nat} {L : List (List Nat)}, Byts l → l.length ≤ B → spT n l = some L → ∀ i, i < n → Byts (L.getD i []) ∧ (L.getD i []).length ≤ B := by
  induction n with
  | zero => intro l L _ _ _ i hi; omega
  | succ n ih =>
    intro l L hb hl h i hi
    rw [spT_succ] at h
    split at h
    · cases h
    · split at h
      · cases h
      · cases e : spT n (l.drop (3 + nb l 0 3)) with
        | none => rw [e] at h; cases h
        | some t =>
          rw [e] at h
          simp at h
          subst h
          cases i with
          | zero => exact ⟨fun b hb2 => hb b (List.mem_of_mem_drop (List.mem_of_mem_take hb2)), by simp; omega⟩
          | succ i =>
            have := ih (fun b hb2 => hb b (List.mem_of_mem_drop hb2)) (by simp; omega) e i (by omega)
            simpa using this
theorem rgt_parts {W H D : Int} {A : Bool} {sw sh : Int} {r : Nat → Int} {N p ln : Int} (h : rgt W H D A sw sh r N p ln = true) : ∃ T, Dp D T ∧ Tl.Shp W H D A ∧ ((16 ≤ sw ∧ sw ≤ 4096) ∧ sw % 2 = 0 ∧ (16 ≤ sh ∧ sh ≤ 4096)) ∧ N = Tl.cl W sw * Tl.cl H sh ∧ ∀ q, q < 4 → 0 ≤ r q ∧ r q ≤ 63 := by
  unfold rgt at h
  simp only [Bool.and_eq_true, decide_eq_true_eq] at h
  obtain ⟨⟨⟨⟨⟨h1, h2⟩, h3⟩, h4⟩, h5⟩, h6⟩ := h
  obtain ⟨a, b⟩ := nwE_zero h1
  have hq : ∀ q, q < 4 → 0 ≤ r q ∧ r q ≤ 63 := fun q hq => rmb_tol h2 hq
  rcases a.2.2.1 with hd | hd
  · exact ⟨1023, .inl ⟨hd, rfl⟩, a, b, h3, hq⟩
  · exact ⟨4095, .inr ⟨hd, rfl⟩, a, b, h3, hq⟩
theorem Tryz.infoBk : (Tryz.prog.info? 53).map (fun i => (i.zero, i.size, i.bytes)) = some (some (.agg #[.int .i64 0, .int .i64 0, .slice none 0 0]), 3, 40) := by kernel_rfl
/-- Blocks that are made. -/
theorem make_blks (n : Nat) (hn : n ≤ 1000) (w : World) : ∃ w' cs, Sem.run Tryz.prog (Instr.makeSlice 42 (.int .i64 (n : Int)) (.int .i64 (n : Int))) w = .ok (.slice (some ⟨w.heap.size, 0, none⟩) n n) w' ∧ w'.heap[w.heap.size]? = some (.cells (cs : List Value).toArray 53 (0, 0)) ∧ cs.length = n * 3 ∧ Kept [] w w' := by
  obtain ⟨j0, gi, gz0, gz1, gz2⟩ := info_parts Tryz.infoBk
  obtain ⟨w', hrun, r1, r2⟩ := run_make_full (P := Tryz.prog) w 0 42 53 j0 (.agg #[.int .i64 0, .int .i64 0, .slice none 0 0]) 3 Tryz.underlying42 gi gz0 gz1 .i64 .i64 n (by rw [gz2]; omega) (by unfold maxLen; omega) (by omega)
  rcases r1.2 with ⟨h, _⟩ | ⟨g, cap, cur, h1, h2, h3, h4, h5, h6, h7⟩
  · cases h
  · cases h1
    exact ⟨w', cur.toList, hrun, by simpa using h3, by simpa using h6, (Kept.of_grown r2).mono (by simp)⟩
/-- What Blocks answers. -/
def BlksPost (w : World) (W H D : Int) (A : Bool) (sw sh : Int) (r : Nat → Int) (N p ln k : Int) (l : List Nat) (e : Ending) (w' : World) : Prop :=
  Kept [] w w' ∧
  ((rgt W H D A sw sh r N p ln = false ∧ e = .returned (.tuple #[.slice none 0 0, .int .i64 123])) ∨
   (rgt W H D A sw sh r N p ln = true ∧ ¬ (0 ≤ k ∧ k < N) ∧ e = .returned (.tuple #[.slice none 0 0, .int .i64 82])) ∨
   (rgt W H D A sw sh r N p ln = true ∧ (0 ≤ k ∧ k < N) ∧ spT (Tl.np A) l = none ∧ e = .returned (.tuple #[.slice none 0 0, .int .i64 125])) ∨
   (rgt W H D A sw sh r N p ln = true ∧ (0 ≤ k ∧ k < N) ∧ ∃ L T, spT (Tl.np A) l = some L ∧ Dp D T ∧
     ∃ E, DecS T D r (fun q => (pw W sw (Tl.cl W sw) (q : Int) k).toNat) (fun _ => (ph H sh (Tl.cl W sw) k).toNat) L (Tl.np A) E ∧
       ((E ≠ 0 ∧ e = .returned (.tuple #[.slice none 0 0, .int .i64 E])) ∨
        (E = 0 ∧ ∃ g cs, e = .returned (.tuple #[.slice (some ⟨g, 0, none⟩) (Tl.np A) (Tl.np A), .int .i64 0]) ∧ w.heap.size ≤ g ∧ w'.heap[g]? = some (.cells (cs : List Value).toArray 53 (0, 0)) ∧ cs.length = Tl.np A * 3 ∧
          BlkC w' g (Tl.np A) T D r (fun q => (pw W sw (Tl.cl W sw) (q : Int) k).toNat) (fun _ => (ph H sh (Tl.cl W sw) k).toNat) L cs))))

/-- Decode, as the walk wants it. -/
theorem dec_any (W H n : Nat) (ao : Option Addr) (cap m : Nat) (l : List Nat) (D T d : Int) (w : World) (hr : Reads w ao l) (hby : Byts l) (hm : l.length = m) (hl : m ≤ 281474976710656) (hT : Tab w) (hz : szd (W : Int) (H : Int) = true) (hn : n = W * H) (hD : Dp D T) (d0 : 0 ≤ d) (d1 : d ≤ 63) :
    Calls Tryz.prog 33 #[.slice ao m cap, .int .i64 (W : Int), .int .i64 (H : Int), .int .i64 D, .int .i64 d] w fun e w' => ∃ E s v0 v1 go n', e = .returned (.tuple #[.agg #[.int .i64 v0, .int .i64 v1, .slice go n' n'], .int .i64 E]) ∧ Kept [] w w' ∧ RdRes T d D W n l E s ∧ (E = 0 → v0 = (W : Int) ∧ v1 = (H : Int) ∧ n' = n ∧ ∃ G, go = some ⟨G, 0, none⟩ ∧ w.heap.size ≤ G ∧ Smp w' G 0 n s.b ∧ s.t = n ∧ s.In T) := by
  refine (Decode_all W H n ao cap m l D T d w hr hby hm hl hT hz hn hD d0 d1).mono ?_
  rintro e w' ⟨E, s, h1, h2, ⟨h3, rfl⟩ | ⟨h3, G, rfl, h4, h5, h6, h7⟩⟩
  · exact ⟨E, s, 0, 0, none, 0, rfl, h2, h1, fun h => absurd h h3⟩
  · subst h3
    exact ⟨0, s, W, H, _, n, rfl, h2, h1, fun _ => ⟨rfl, rfl, rfl, G, rfl, h4, h5, h6, h7⟩⟩

set_option maxHeartbeats 16000000 in
set_option maxRecDepth 1000000 in
theorem blocks_any (W H D : Int) (A : Bool) (sw sh : Int) (r : Nat → Int) (N p ln k : Int) (ao : Option Addr) (m cap : Nat) (l : List Nat) (w : World) (hT : Tab w) (hr : Reads w ao l) (hby : Byts l) (hm : l.length = m) (hmc : m ≤ cap) (hcap : cap ≤ 140737488355328) (s0 : -9223372036854775808 ≤ sw) (s1 : sw ≤ 9223372036854775807) :
    Calls Tryz.prog 15 #[hvv W H D A sw sh r N p ln, .int .i64 k, .slice ao m cap] w fun e w' => BlksPost w W H D A sw sh r N p ln k l e w' := by
  obtain ⟨r0, er0⟩ : ∃ x, r 0 = x := ⟨_, rfl⟩
  obtain ⟨r1, er1⟩ : ∃ x, r 1 = x := ⟨_, rfl⟩
  obtain ⟨r2, er2⟩ : ∃ x, r 2 = x := ⟨_, rfl⟩
  obtain ⟨r3, er3⟩ : ∃ x, r 3 = x := ⟨_, rfl⟩
  have C0 := fun u => pright_any W H D A sw sh r N p ln u s0 s1
  have EV : hvv W H D A sw sh r N p ln = .agg #[.int .i64 W, .int .i64 H, .int .i64 D, .bool A, .int .i64 sw, .int .i64 sh, .int .i64 r0, .int .i64 r1, .int .i64 r2, .int .i64 r3, .int .i64 N, .int .i64 p, .int .i64 ln] := by show Value.agg _ = _; rw [er0, er1, er2, er3]
  rw [EV] at C0 ⊢
  clear EV
  have C1 := Hid.mk C0
  clear C0
  obtain ⟨B, eB⟩ : ∃ B, w.heap.size = B := ⟨_, rfl⟩
  obtain ⟨w1, e1⟩ : ∃ w1, w.alloc (.cells #[.int .i64 W, .int .i64 H, .int .i64 D, .bool A, .int .i64 sw, .int .i64 sh, .int .i64 r0, .int .i64 r1, .int .i64 r2, .int .i64 r3, .int .i64 N, .int .i64 p, .int .i64 ln] 28 (0, 0)) = w1 := ⟨_, rfl⟩
  have K1 : Hid (Kept [] w w1) := Hid.mk (by rw [← e1]; exact (Kept.refl [] w).alloc _)
  have HB1 := Hid.mk (show w1.heap[B]? = some (.cells #[.int .i64 W, .int .i64 H, .int .i64 D, .bool A, .int .i64 sw, .int .i64 sh, .int .i64 r0, .int .i64 r1, .int .i64 r2, .int .i64 r3, .int .i64 N, .int .i64 p, .int .i64 ln] 28 (0, 0)) by rw [← e1, ← eB]; exact heap_alloc_new _ _)
  obtain ⟨h0, h1, h2, h3, h4, h5, h6, h7, h8, h9, h10, h11, h12⟩ := cel13 HB1.out
  have ER := Hid.mk (And.intro er0 (And.intro er1 (And.intro er2 er3)))
  have HX := Hid.mk (And.intro hr (And.intro hby (And.intro hm (And.intro hmc (And.intro hcap hT)))))
  have HBB : Hid (w.heap.size = B) := Hid.mk eB
  clear er0 er1 er2 er3 hr hby hm hmc hcap hT s0 s1
  obtain ⟨R, eR⟩ : ∃ R, rgt W H D A sw sh r N p ln = R := ⟨_, rfl⟩
  rw [eR] at C1
  have HR := Hid.mk eR
  go_enter Tryz.func15, Tryz.ntmps15
  go_wp2_with (fail)
  clear e1 eB eR
  refine (C1.out _).mono ?_
  rintro e w2 ⟨rfl, k2⟩
  have K2 := Hid.mk (K1.out.trans k2)
  have HB2 := Hid.mk (k2.heap HB1.out (by simp))
  clear k2 C1 h0 h1 h2 h3 h4 h5 h6 h7 h8 h9 h10 h11 h12
  cases R
  · go_wp2
    refine bodyPost_ret (v := .tuple #[.slice none 0 0, .int .i64 123]) (by simp [results, Tryz.results15, go_sem]) rfl ⟨K2.out, .inl ⟨HR.out, rfl⟩⟩
  · obtain ⟨h0, h1, h2, h3, h4, h5, h6, h7, h8, h9, h10, h11, h12⟩ := cel13 HB2.out
    by_cases hk0 : k < 0
    · go_wp2
      refine bodyPost_ret (v := .tuple #[.slice none 0 0, .int .i64 82]) (by simp [results, Tryz.results15, go_sem]) rfl ⟨K2.out, .inr (.inl ⟨HR.out, by omega, rfl⟩)⟩
    · by_cases hkN : N ≤ k
      · go_wp2
        refine bodyPost_ret (v := .tuple #[.slice none 0 0, .int .i64 82]) (by simp [results, Tryz.results15, go_sem]) rfl ⟨K2.out, .inr (.inl ⟨HR.out, by omega, rfl⟩)⟩
      · have HK : Hid (0 ≤ k ∧ k < N) := Hid.mk (by omega)
        have C2 := Hid.mk (fun u => pplanes_any W H D A u)
        have HNP := Tl.np_hi A
        have C3 := Hid.mk (fun u (hu : Kept [] w u) => split_any ao m cap (Tl.np A) l u (HX.out.1.keep hu) HX.out.2.1 HX.out.2.2.1 HX.out.2.2.2.1 (by have := HX.out.2.2.2.2.1; omega) (by omega))
        obtain ⟨M, eM⟩ : ∃ M, Tl.np A = M := ⟨_, rfl⟩
        have HM := Hid.mk eM
        rw [eM] at C2 C3 HNP
        clear eM
        go_wp2_with (fail)
        refine (C2.out _).mono ?_
        rintro e w3 ⟨rfl, k3⟩
        have K3 := Hid.mk (K2.out.trans k3)
        have HB3 := Hid.mk (k3.heap HB2.out (by simp))
        clear k3 C2 h0 h1 h2 h3 h4 h5 h6 h7 h8 h9 h10 h11 h12
        go_wp2_with (fail)
        refine (C3.out _ K3.out).mono ?_
        rintro e w4 (⟨hsp, ⟨vo, vn, vc, rfl⟩, k4⟩ | ⟨L, gt, hsp, rfl, hgt, hmc4, k4⟩)
        · have K4 := Hid.mk (K3.out.trans k4)
          have HSP : Hid (spT (Tl.np A) l = none) := Hid.mk (by rw [HM.out]; exact hsp)
          clear k4 hsp
          go_wp2
          refine bodyPost_ret (v := .tuple #[.slice none 0 0, .int .i64 125]) (by simp [results, Tryz.results15, go_sem]) rfl ⟨K4.out, .inr (.inr (.inl ⟨HR.out, HK.out, HSP.out, rfl⟩))⟩
        · have K4 := Hid.mk (K3.out.trans k4)
          have HB4 := Hid.mk (k4.heap HB3.out (by simp))
          have HSP : Hid (spT (Tl.np A) l = some L) := Hid.mk (by rw [HM.out]; exact hsp)
          have HLL : Hid (L.length = M) := Hid.mk (spT_len hsp)
          have HMC := Hid.mk hmc4
          have HLB : Hid (∀ i, i < M → Byts (L.getD i []) ∧ (L.getD i []).length ≤ 140737488355328) := Hid.mk (fun i hi => spT_byts HX.out.2.1 (by have h1 := HX.out.2.2.1; have h2 := HX.out.2.2.2.1; have h3 := HX.out.2.2.2.2.1; omega) hsp i hi)
          clear k4 hsp hgt hmc4
          obtain ⟨h0, h1, h2, h3, h4, h5, h6, h7, h8, h9, h10, h11, h12⟩ := cel13 HB4.out
          obtain ⟨T, HD, hg1, hg2, hg3, hg4⟩ : ∃ T, Dp D T ∧ Tl.Shp W H D A ∧ ((16 ≤ sw ∧ sw ≤ 4096) ∧ sw % 2 = 0 ∧ (16 ≤ sh ∧ sh ≤ 4096)) ∧ N = Tl.cl W sw * Tl.cl H sh ∧ ∀ q, q < 4 → 0 ≤ r q ∧ r q ≤ 63 := rgt_parts HR.out
          have HDp := Hid.mk HD
          have C4 := Hid.mk (fun u => Tl.tnew_ok W H D sw sh A u hg1 hg2.1.1 hg2.1.2 hg2.2.1 hg2.2.2.1 hg2.2.2.2)
          have G := Tl.Gd.of hg1.1.1 hg1.1.2 hg1.2.1.1 hg1.2.1.2 hg2.1.1 hg2.1.2 hg2.2.1 hg2.2.2.1 hg2.2.2.2
          have C5 := Hid.mk (fun P (q : Nat) (hq : q < M) u (hu : Tl.Gr u P W H D A sw sh (Tl.cl W sw) (Tl.cl H sh)) => Tl.tpart_ok P W H D sw sh (Tl.cl W sw) (Tl.cl H sh) k (q : Int) A u hu G hg1 HK.out.1 (by have h9 := HK.out.2; rw [hg3] at h9; exact h9) ⟨by omega, by rw [HM.out]; omega⟩)
          have HSZ : Hid (∀ q, q < M → ((pw W sw (Tl.cl W sw) (q : Int) k).toNat : Int) = pw W sw (Tl.cl W sw) (q : Int) k ∧ ((ph H sh (Tl.cl W sw) k).toNat : Int) = ph H sh (Tl.cl W sw) k ∧ szd (pw W sw (Tl.cl W sw) (q : Int) k) (ph H sh (Tl.cl W sw) k) = true) := Hid.mk (fun q hq => by
            have k1 : k < Tl.cl W sw * Tl.cl H sh := by have h9 := HK.out.2; rw [hg3] at h9; exact h9
            have e0 : k = ((k.toNat : Nat) : Int) := by have := HK.out.1; omega
            have hw := pw_in G (q : Int) k
            have hh := ph_in G HK.out.1 k1
            have hz := part_sz hg1 G (k := k.toNat) (q := q) (by omega) (by rw [HM.out]; exact hq)
            rw [← e0] at hz
            exact ⟨by omega, by omega, by unfold szd; exact decide_eq_true ⟨hw.1, hw.2, hh.1, hh.2, hz⟩⟩)
          have HRr := Hid.mk hg4
          clear HD hg1 hg2 hg3 hg4 G
          go_wp2_with (fail)
          refine (C4.out _).mono ?_
          rintro e w5 ⟨P, rfl, k5, hP, hG5⟩
          have K5 := Hid.mk (K4.out.trans k5)
          have HB5 := Hid.mk (k5.heap HB4.out (by simp))
          have HG5 := Hid.mk hG5
          have HMC5 := Hid.mk (HMC.out.keep k5)
          clear k5 hP hG5 h0 h1 h2 h3 h4 h5 h6 h7 h8 h9 h10 h11 h12 C4
          obtain ⟨w6, cs6, m6, b6, l6, k6⟩ := make_blks M (by omega) w5
          obtain ⟨g, eg⟩ : ∃ g, w5.heap.size = g := ⟨_, rfl⟩
          rw [eg] at m6 b6
          have HB6 := Hid.mk (k6.heap HB5.out (by simp))
          have HG6 := Hid.mk (HG5.out.keep k6 (by simp))
          have HMC6 := Hid.mk (HMC5.out.keep k6)
          have K6 := Hid.mk (K5.out.trans k6)
          have HGS : Hid (w.heap.size ≤ g ∧ B < g) := Hid.mk (by
            have h1 := lt_of_block HB5.out
            have h2 := K5.out.size
            omega)
          have CS6 := Hid.mk (And.intro b6 l6)
          have K56 := Hid.mk k6
          have HG56 : Hid (w5.heap.size = g) := Hid.mk eg
          clear b6 l6 k6
          go_wp2
          clear m6 eg
          go_loopw [55] (fun i wr => ∃ (q : Nat) (cs : List Value), q ≤ M ∧ i = .int .i64 (q : Int) ∧ Hid (wr.heap[g]? = some (.cells cs.toArray 53 (0, 0)) ∧ cs.length = M * 3 ∧ BlkC wr g q T D r (fun q => (pw W sw (Tl.cl W sw) (q : Int) k).toNat) (fun _ => (ph H sh (Tl.cl W sw) k).toNat) L cs ∧ Kept [] w5 wr)) (fun i _ => M - (intOf i).toNat)
          case atStart => exact ⟨0, cs6, Nat.zero_le _, rfl, Hid.mk ⟨CS6.out.1, CS6.out.2, fun i hi => by omega, K56.out⟩⟩
          case round =>
            obtain ⟨q, cs, hq, rfl, HI⟩ := hrel
            obtain ⟨wo, rfl⟩ : ∃ wo, wo = wr := ⟨_, rfl⟩
            by_cases hlt : q < M
            · have iq : (q : Int) < (M : Int) := by omega
              obtain ⟨tto, tc, ht1, ht2, ht3⟩ := mc_cell HMC5.out (i := q) (by rw [HLL.out]; exact hlt)
              obtain ⟨tl, etl⟩ : ∃ x, (L.getD q []).length = x := ⟨_, rfl⟩
              have HTL := Hid.mk etl
              have HLq := HLB.out q hlt
              rw [etl] at ht1 ht2 HLq
              have HTX := Hid.mk (And.intro ht2 (And.intro ht3 HLq))
              have ht1 := Tl.cell_keep HI.out.2.2.2 ht1 (by simp)
              have C5q := Hid.mk (C5.out P q hlt wo (HG5.out.keep HI.out.2.2.2 (by simp)))
              obtain ⟨z1, z2, z3⟩ := HSZ.out q hlt
              have e3 : ∀ p k : Int, Tl.bW p (min sw (W - Tl.sX (Tl.cl W sw) sw k)) = pw W sw (Tl.cl W sw) p k := fun _ _ => rfl
              have e4 : ∀ k : Int, min sh (H - Tl.sY (Tl.cl W sw) sh k) = ph H sh (Tl.cl W sw) k := fun _ => rfl
              rw [e3, e4, ← z1, ← z2] at C5q
              rw [← z1, ← z2] at z3
              obtain ⟨x, ex⟩ : ∃ x, Tl.bX (q : Int) (Tl.sX (Tl.cl W sw) sw k) = x := ⟨_, rfl⟩
              obtain ⟨y, ey⟩ : ∃ y, Tl.sY (Tl.cl W sw) sh k = y := ⟨_, rfl⟩
              have HPW : Hid ((pw W sw (Tl.cl W sw) (q : Int) k).toNat = (fun q : Nat => (pw W sw (Tl.cl W sw) (q : Int) k).toNat) q ∧ (ph H sh (Tl.cl W sw) k).toNat = (fun _ : Nat => (ph H sh (Tl.cl W sw) k).toNat) q) := Hid.mk ⟨rfl, rfl⟩
              obtain ⟨bw, ebw⟩ : ∃ x, (pw W sw (Tl.cl W sw) (q : Int) k).toNat = x := ⟨_, rfl⟩
              obtain ⟨bh, ebh⟩ : ∃ x, (ph H sh (Tl.cl W sw) k).toNat = x := ⟨_, rfl⟩
              rw [ex, ey, ebw, ebh] at C5q
              rw [ebw, ebh] at z3
              have HBW := Hid.mk (And.intro ebw ebh)
              obtain ⟨n, en⟩ : ∃ n, n = bw * bh := ⟨_, rfl⟩
              have HN := Hid.mk en
              obtain ⟨d, ed⟩ : ∃ d, r q = d := ⟨_, rfl⟩
              have hd := HRr.out q (by omega)
              rw [ed] at hd
              have HED := Hid.mk ed
              have CD := Hid.mk (fun u (hu : Kept [] wo u) => dec_any bw bh n tto tc tl (L.getD q []) D T d u (HTX.out.2.1.keep (HI.out.2.2.2.trans hu)) HTX.out.2.2.1 HTL.out (by have := HTX.out.2.2.2; omega) (HX.out.2.2.2.2.2.kept ((K5.out.trans HI.out.2.2.2).trans hu) (by simp)) z3 en HDp.out hd.1 hd.2)
              have CELL : Hid (∀ u, Kept [] wo u → u.cell? ⟨B, 2, none⟩ = some (.int .i64 D) ∧ u.cell? ⟨B, 6 + q, none⟩ = some (.int .i64 d)) := Hid.mk (fun u hu => by
                have hh := (HI.out.2.2.2.trans hu).heap HB5.out (by simp)
                refine ⟨cellAt (i := 2) hh rfl, ?_⟩
                obtain ⟨a0, a1, a2, a3⟩ := ER.out
                have hq4 : q = 0 ∨ q = 1 ∨ q = 2 ∨ q = 3 := by omega
                rcases hq4 with rfl | rfl | rfl | rfl
                · rw [← ed, a0]; exact cellAt (i := 6) hh rfl
                · rw [← ed, a1]; exact cellAt (i := 7) hh rfl
                · rw [← ed, a2]; exact cellAt (i := 8) hh rfl
                · rw [← ed, a3]; exact cellAt (i := 9) hh rfl)
              have iq4 : (q : Int) < 4 := by omega
              have HQM := Hid.mk hlt
              clear e3 e4 ex ey ebw ebh z1 z2 z3 hd ed en ht2 ht3 HLq etl hlt hq
              go_wp2_with (fail)
              refine C5q.out.mono ?_
              rintro e w7 ⟨rfl, k7⟩
              obtain ⟨w8, e8⟩ : ∃ w8, w7.alloc (.cells #[.int .i64 x, .int .i64 y, .int .i64 (bw : Int), .int .i64 (bh : Int)] 47 (0, 0)) = w8 := ⟨_, rfl⟩
              obtain ⟨Q1, eQ1⟩ : ∃ Q, w7.heap.size = Q := ⟨_, rfl⟩
              have K8 : Hid (Kept [] wo w8) := Hid.mk (by rw [← e8]; exact k7.alloc _)
              have HQ1 := Hid.mk (show w8.heap[Q1]? = some (.cells #[.int .i64 x, .int .i64 y, .int .i64 (bw : Int), .int .i64 (bh : Int)] 47 (0, 0)) by rw [← e8, ← eQ1]; exact heap_alloc_new _ _)
              clear k7 C5q
              go_wp2_with (fail)
              clear e8 eQ1 ht1
              refine wp_region_held_drew (S := fun u => Kept [] w8 u) (by kernel_rfl) (Kept.refl [] w8).drew (fun hH0 => ?_)
              refine wpAnyH_take (i := 0) (oi := _) (v := ?_) rfl (by kernel_rfl) (by kernel_rfl) (by kernel_rfl) (fun _ _ _ h => h) (Or.inl ⟨by rfl, ?y0z⟩) (by assumption) ?r0z
              case y0z => (intro u hSw; have hSu : Kept [] w8 u := hSw; obtain ⟨la0, la1, la2, la3⟩ := cel4 (hSu.heap HQ1.out (by simp)); obtain ⟨lD, lr⟩ := CELL.out u (K8.out.trans hSu); go_simp; try with_reducible rfl)
              refine wpAnyH_take (i := 1) (oi := _) (v := ?_) rfl (by kernel_rfl) (by kernel_rfl) (by kernel_rfl) (fun _ _ _ h => h) (Or.inl ⟨by rfl, ?y1z⟩) (by assumption) ?r1z
              case y1z => (intro u hSw; have hSu : Kept [] w8 u := hSw; obtain ⟨la0, la1, la2, la3⟩ := cel4 (hSu.heap HQ1.out (by simp)); obtain ⟨lD, lr⟩ := CELL.out u (K8.out.trans hSu); go_simp; try with_reducible rfl)
              refine wpAnyH_take (i := 2) (oi := _) (v := ?_) rfl (by kernel_rfl) (by kernel_rfl) (by kernel_rfl) (fun _ _ _ h => h) (Or.inl ⟨by rfl, ?y2z⟩) (by assumption) ?r2z
              case y2z => (intro u hSw; have hSu : Kept [] w8 u := hSw; obtain ⟨la0, la1, la2, la3⟩ := cel4 (hSu.heap HQ1.out (by simp)); obtain ⟨lD, lr⟩ := CELL.out u (K8.out.trans hSu); go_simp; try with_reducible rfl)
              refine wpAnyH_take (i := 3) (oi := _) (v := ?_) rfl (by kernel_rfl) (by kernel_rfl) (by kernel_rfl) (fun _ _ _ h => h) (Or.inl ⟨by rfl, ?y3z⟩) (by assumption) ?r3z
              case y3z => (intro u hSw; have hSu : Kept [] w8 u := hSw; obtain ⟨la0, la1, la2, la3⟩ := cel4 (hSu.heap HQ1.out (by simp)); obtain ⟨lD, lr⟩ := CELL.out u (K8.out.trans hSu); go_simp; try with_reducible rfl)
              refine wpAnyH_take (i := 4) (oi := _) (v := ?_) rfl (by kernel_rfl) (by kernel_rfl) (by kernel_rfl) (fun _ _ _ h => h) (Or.inl ⟨by rfl, ?y4z⟩) (by assumption) ?r4z
              case y4z => (intro u hSw; have hSu : Kept [] w8 u := hSw; obtain ⟨la0, la1, la2, la3⟩ := cel4 (hSu.heap HQ1.out (by simp)); obtain ⟨lD, lr⟩ := CELL.out u (K8.out.trans hSu); go_simp; try with_reducible rfl)
              refine wpAnyH_take (i := 5) (oi := _) (v := ?_) rfl (by kernel_rfl) (by kernel_rfl) (by kernel_rfl) (fun _ _ _ h => h) (Or.inl ⟨by rfl, ?y5z⟩) (by assumption) ?r5z
              case y5z => (intro u hSw; have hSu : Kept [] w8 u := hSw; obtain ⟨la0, la1, la2, la3⟩ := cel4 (hSu.heap HQ1.out (by simp)); obtain ⟨lD, lr⟩ := CELL.out u (K8.out.trans hSu); go_simp; try with_reducible rfl)
              refine wpAnyH_take (i := 6) (oi := _) (v := ?_) rfl (by kernel_rfl) (by kernel_rfl) (by kernel_rfl) (fun _ _ _ h => h) (Or.inl ⟨by rfl, ?y6z⟩) (by assumption) ?r6z
              case y6z => (intro u hSw; have hSu : Kept [] w8 u := hSw; obtain ⟨la0, la1, la2, la3⟩ := cel4 (hSu.heap HQ1.out (by simp)); obtain ⟨lD, lr⟩ := CELL.out u (K8.out.trans hSu); go_simp; try with_reducible rfl)
              refine wpAnyH_take (i := 7) (oi := _) (v := ?_) rfl (by kernel_rfl) (by kernel_rfl) (by kernel_rfl) (fun _ _ _ h => h) (Or.inl ⟨by rfl, ?y7z⟩) (by assumption) ?r7z
              case y7z => (intro u hSw; have hSu : Kept [] w8 u := hSw; obtain ⟨la0, la1, la2, la3⟩ := cel4 (hSu.heap HQ1.out (by simp)); obtain ⟨lD, lr⟩ := CELL.out u (K8.out.trans hSu); go_simp; try with_reducible rfl)
              refine wpAnyH_take (i := 8) (oi := _) (v := ?_) rfl (by kernel_rfl) (by kernel_rfl) (by kernel_rfl) (fun _ _ _ h => h) (Or.inl ⟨by rfl, ?y8z⟩) (by assumption) ?r8z
              case y8z => (intro u hSw; have hSu : Kept [] w8 u := hSw; obtain ⟨la0, la1, la2, la3⟩ := cel4 (hSu.heap HQ1.out (by simp)); obtain ⟨lD, lr⟩ := CELL.out u (K8.out.trans hSu); go_simp; try with_reducible rfl)
              refine wpAnyH_take (i := 9) (oi := _) (v := ?_) rfl (by kernel_rfl) (by kernel_rfl) (by kernel_rfl) (fun _ _ _ h => h) (Or.inl ⟨by rfl, ?y9z⟩) (by assumption) ?r9z
              case y9z => (intro u hSw; have hSu : Kept [] w8 u := hSw; obtain ⟨la0, la1, la2, la3⟩ := cel4 (hSu.heap HQ1.out (by simp)); obtain ⟨lD, lr⟩ := CELL.out u (K8.out.trans hSu); go_simp; try with_reducible rfl)
              refine wpAnyH_take (i := 10) (oi := _) (v := ?_) rfl (by kernel_rfl) (by kernel_rfl) (by kernel_rfl) (fun _ _ _ h => h) (Or.inl ⟨by rfl, ?y10z⟩) (by assumption) ?r10z
              case y10z => (intro u hSw; have hSu : Kept [] w8 u := hSw; obtain ⟨la0, la1, la2, la3⟩ := cel4 (hSu.heap HQ1.out (by simp)); obtain ⟨lD, lr⟩ := CELL.out u (K8.out.trans hSu); go_simp; try with_reducible rfl)
              refine wpAnyH_take (i := 11) (oi := _) (v := ?_) rfl (by kernel_rfl) (by kernel_rfl) (by kernel_rfl) (fun _ _ _ h => h) (Or.inl ⟨by rfl, ?y11z⟩) (by assumption) ?r11z
              case y11z => (intro u hSw; have hSu : Kept [] w8 u := hSw; obtain ⟨la0, la1, la2, la3⟩ := cel4 (hSu.heap HQ1.out (by simp)); obtain ⟨lD, lr⟩ := CELL.out u (K8.out.trans hSu); go_simp; try with_reducible rfl)
              refine wpAnyH_ready (rs := [12, 16]) (by kernel_rfl) (by simp) ?_
              refine AllReadyH.cons rfl (fun K hK => ?_) (AllReadyH.cons rfl (fun K hK => ?_) AllReadyH.nil)
              · go_simp
                go_at_call 33
                refine (CD.out _ (K8.out.trans hH0)).mono ?_
                rintro e w9 ⟨E, s, v0, v1, go, n', rfl, k9, hres, hok⟩
                have K9 : Hid (Kept [] w8 w9) := Hid.mk (hH0.trans k9)
                refine hK.out _ _ K9.out (fun hH1 => ?_)
                clear hK K
                refine wpAnyH_take (i := 13) (oi := _) (v := ?_) rfl (by kernel_rfl) (by kernel_rfl) (by kernel_rfl) (fun _ _ _ h => h) (Or.inl ⟨by rfl, ?y13a⟩) (by assumption) ?r13a
                case y13a => (intro u hSw; have hSu : Kept [] w8 u := hSw; go_simp; try with_reducible rfl)
                refine wpAnyH_take (i := 14) (oi := _) (v := ?_) rfl (by kernel_rfl) (by kernel_rfl) (by kernel_rfl) (fun _ _ _ h => h) (Or.inl ⟨by rfl, ?y14a⟩) (by assumption) ?r14a
                case y14a => (intro u hSw; have hSu : Kept [] w8 u := hSw; go_simp; try with_reducible rfl)
                refine wpAnyH_take (i := 15) (oi := _) (v := ?_) rfl (by kernel_rfl) (by kernel_rfl) (by kernel_rfl) (fun _ _ _ h => h) (Or.inl ⟨by rfl, ?y15a⟩) (by assumption) ?r15a
                case y15a => (intro u hSw; have hSu : Kept [] w8 u := hSw; go_simp; try with_reducible rfl)
                refine wpAnyH_ready (rs := [16]) (by kernel_rfl) (by simp) ?_
                refine AllReadyH.cons rfl (fun K hK => ?_) AllReadyH.nil
                obtain ⟨w10, e10⟩ : ∃ x, World.alloc w9 (.cells #[.int .i64 0, .int .i64 0, .slice none 0 0] 53 (0, 0)) = x := ⟨_, rfl⟩
                have K10 : Hid (Kept [] w8 w10) := Hid.mk (by rw [← e10]; exact K9.out.alloc _)
                obtain ⟨Q, eQ⟩ : ∃ x, (w9).heap.size = x := ⟨_, rfl⟩
                have HQ0 := Hid.mk (show w10.heap[Q]? = some (.cells #[.int .i64 0, .int .i64 0, .slice none 0 0] 53 (0, 0)) by rw [← e10, ← eQ]; exact heap_alloc_new _ _)
                have HZ8 : Hid (w8.heap.size ≤ Q) := Hid.mk (by have h9 := (K9.out).size; omega)
                have HQ := Hid.mk HQ0.out
                go_simp
                try rw [e10]
                refine hK.out _ _ K10.out (fun hH2 => ?_)
                clear hK K
                refine wpAnyH_ready (rs := [17]) (by kernel_rfl) (by simp) ?_
                refine AllReadyH.cons rfl (fun K hK => ?_) AllReadyH.nil
                obtain ⟨x0, x1, x2, xf⟩ := cells_three HQ.out
                have f0 := xf 0
                have f1 := xf 1
                have f2 := xf 2
                have s4 := setAll_row [.int .i64 v0, .int .i64 v1, .slice go n' n'] 0 w10 [] [.int .i64 0, .int .i64 0, .slice none 0 0] HQ.out rfl rfl
                simp only [setAll] at s4
                obtain ⟨w11, e11⟩ : ∃ x, ((w10.setCell ⟨Q, 0, none⟩ (.int .i64 v0)).setCell ⟨Q, 0 + 1, none⟩ (.int .i64 v1)).setCell ⟨Q, 0 + 1 + 1, none⟩ (.slice go n' n') = x := ⟨_, rfl⟩
                rw [e11] at s4
                have K11 : Hid (Kept [] w8 w11) := Hid.mk (K10.out.step s4.2 (fun z hz => by simp at hz; subst hz; exact .inr HZ8.out))
                have HQF := Hid.mk s4.1
                have HOK : Hid (RdRes T d D bw n (L.getD q []) E s ∧ (E = 0 → v0 = (bw : Int) ∧ v1 = (bh : Int) ∧ n' = n ∧ ∃ G, go = some ⟨G, 0, none⟩ ∧ w8.heap.size ≤ G ∧ Smp w11 G 0 n s.b ∧ s.t = n ∧ s.In T)) := Hid.mk ⟨hres, fun h => by
                  obtain ⟨a1, a2, a3, G, a4, a5, a6, a7⟩ := hok h
                  refine ⟨a1, a2, a3, G, a4, Nat.le_trans hH0.size a5, ?_, a7⟩
                  have hk10 : Kept [] w9 w10 := by rw [← e10]; exact (Kept.refl [] w9).alloc _
                  by_cases hn0 : n = 0
                  · intro i hi; omega
                  · have hGQ : G < Q := by rw [← eQ]; exact World.block_lt_of_cell? w9 _ (a6 0 (by omega))
                    exact (a6.keep hk10 (by simp)).keep s4.2 (by simp; omega)⟩
                go_simp
                try rw [e11]
                refine hK.out _ _ K11.out (fun hH3 => ?_)
                clear hK K
                refine wpAnyH_take (i := 18) (oi := _) (v := ?_) rfl (by kernel_rfl) (by kernel_rfl) (by kernel_rfl) (fun _ _ _ h => h) (Or.inl ⟨by rfl, ?y18b⟩) (by assumption) ?r18b
                case y18b => (intro u hSw; have hSu : Kept [] w8 u := hSw; go_simp; try with_reducible rfl)
                refine wpAnyH_done (by kernel_rfl) ?_ _
                clear x0 x1 x2 xf f0 f1 f2 e11 s4 e10 eQ hres hok k9 hH0 hH1 hH2 hH3 HQ HQ0
                by_cases hE : E = 0
                · subst hE
                  obtain ⟨rfl, rfl, rfl, G, rfl, hG1, hG2, hG3, hG4⟩ := HOK.out.2 rfl
                  obtain ⟨q0, q1, q2, qf⟩ := cells_three HQF.out
                  clear qf
                  have hgh := (K8.out.trans K11.out).heap HI.out.1 (by simp)
                  have hcl : q * 3 + 2 < cs.length := by rw [HI.out.2.1]; have := HQM.out; omega
                  have y0 := cellAt (i := q * 3) hgh (by rw [List.getElem?_toArray]; exact List.getElem?_eq_getElem (by omega))
                  have y1 := cellAt (i := q * 3 + 1) hgh (by rw [List.getElem?_toArray]; exact List.getElem?_eq_getElem (by omega))
                  have y2 := cellAt (i := q * 3 + 2) hgh (by rw [List.getElem?_toArray]; exact List.getElem?_eq_getElem (by omega))
                  have g0 := row_fz hgh (q * 3)
                  have g1 := row_fz hgh (q * 3 + 1)
                  have g2 := row_fz hgh (q * 3 + 2)
                  generalize cs[q * 3] = t0 at y0
                  generalize cs[q * 3 + 1] = t1 at y1
                  generalize cs[q * 3 + 2] = t2 at y2
                  have NXT : Hid ((((w11.setCell ⟨g, q * 3, none⟩ (.int .i64 (bw : Int))).setCell ⟨g, q * 3 + 1, none⟩ (.int .i64 (bh : Int))).setCell ⟨g, q * 3 + 2, none⟩ (.slice (some ⟨G, 0, none⟩) n' n')).heap[g]? = some (.cells (((cs.set (q * 3) (.int .i64 (bw : Int))).set (q * 3 + 1) (.int .i64 (bh : Int))).set (q * 3 + 2) (.slice (some ⟨G, 0, none⟩) n' n')).toArray 53 (0, 0)) ∧ Kept [g] w11 (((w11.setCell ⟨g, q * 3, none⟩ (.int .i64 (bw : Int))).setCell ⟨g, q * 3 + 1, none⟩ (.int .i64 (bh : Int))).setCell ⟨g, q * 3 + 2, none⟩ (.slice (some ⟨G, 0, none⟩) n' n'))) := Hid.mk ⟨by
                    have a1 := heap_setCell_at (i := q * 3) (u := .int .i64 (bw : Int)) hgh
                    have a2 := heap_setCell_at (i := q * 3 + 1) (u := .int .i64 (bh : Int)) a1
                    have a3 := heap_setCell_at (i := q * 3 + 2) (u := .slice (some ⟨G, 0, none⟩) n' n') a2
                    rw [a3, List.setIfInBounds_toArray, List.setIfInBounds_toArray, List.setIfInBounds_toArray], (((Kept.refl [g] w11).setCell (p := ⟨g, q * 3, none⟩) (.inl (by simp)) _).setCell (p := ⟨g, q * 3 + 1, none⟩) (.inl (by simp)) _).setCell (p := ⟨g, q * 3 + 2, none⟩) (.inl (by simp)) _⟩
                  have HGG : Hid (g < G) := Hid.mk (Nat.lt_of_lt_of_le (Nat.lt_of_lt_of_le (lt_of_block HI.out.1) K8.out.size) hG1)
                  have HSM := Hid.mk (And.intro hG2 (And.intro hG3 (And.intro hG4 (And.intro HOK.out.1 hcl))))
                  clear hgh hcl hG1 hG2 hG3 hG4 HOK HQF
                  have FIN : Hid (BlkC (((w11.setCell ⟨g, q * 3, none⟩ (.int .i64 (bw : Int))).setCell ⟨g, q * 3 + 1, none⟩ (.int .i64 (bh : Int))).setCell ⟨g, q * 3 + 2, none⟩ (.slice (some ⟨G, 0, none⟩) n' n')) g (q + 1) T D r (fun q => (pw W sw (Tl.cl W sw) (q : Int) k).toNat) (fun _ => (ph H sh (Tl.cl W sw) k).toNat) L (((cs.set (q * 3) (.int .i64 (bw : Int))).set (q * 3 + 1) (.int .i64 (bh : Int))).set (q * 3 + 2) (.slice (some ⟨G, 0, none⟩) n' n'))) := Hid.mk (by
                    obtain ⟨a1, a2, a3, a4, a5⟩ := HSM.out
                    have PUT := BlkC.put (HI.out.2.2.1.keep (K8.out.trans K11.out)) (n := n') (G := G) (s := s) a5 (by show (pw W sw (Tl.cl W sw) (q : Int) k).toNat * (ph H sh (Tl.cl W sw) k).toNat = n'; rw [HBW.out.1, HBW.out.2]; exact HN.out.symm) a1 a2 a3 (by show RdRes T (r q) D (pw W sw (Tl.cl W sw) (q : Int) k).toNat n' _ 0 s; rw [HED.out, HBW.out.1]; exact a4) HGG.out
                    refine BlkC.kept ?_ NXT.out.2 (Nat.le_refl _)
                    rw [← HBW.out.1, ← HBW.out.2]
                    exact PUT)
                  have KFN := Hid.mk ((HI.out.2.2.2.trans (K8.out.trans K11.out)).step NXT.out.2 (fun z hz => by simp at hz; subst hz; exact .inr (by have := HG56.out; omega)))
                  go_wp2
                  go_roundw
                  case rel => exact ⟨q + 1, _, by have := HQM.out; omega, by go_num, Hid.mk ⟨NXT.out.1, by simp [HI.out.2.1], FIN.out, KFN.out⟩⟩
                  case measure => (have := HQM.out; simp [intOf]; omega)
                · have hx' : (E != 0) = true := by simp; exact hE
                  have hx2 : (E == 0) = false := by simp; exact hE
                  have KFN := Hid.mk (K5.out.trans (HI.out.2.2.2.trans (K8.out.trans K11.out)))
                  have DS : Hid (DecS T D r (fun q => (pw W sw (Tl.cl W sw) (q : Int) k).toNat) (fun _ => (ph H sh (Tl.cl W sw) k).toNat) L (Tl.np A) E) := Hid.mk (.inr ⟨hE, q, by rw [HM.out]; exact HQM.out, fun i hi => by
                    obtain ⟨_, s', _, _, _, _, _, _, h7, _⟩ := HI.out.2.2.1 i hi
                    exact ⟨s', h7⟩, s, by
                    show RdRes T (r q) D (pw W sw (Tl.cl W sw) (q : Int) k).toNat ((pw W sw (Tl.cl W sw) (q : Int) k).toNat * (ph H sh (Tl.cl W sw) k).toNat) _ E s
                    rw [HED.out, HBW.out.1, HBW.out.2, ← HN.out]
                    exact HOK.out.1⟩)
                  have HE := Hid.mk hE
                  clear HOK HQF hE
                  go_wp2
                  refine bodyPost_ret (v := .tuple #[.slice none 0 0, .int .i64 E]) (by simp [results, Tryz.results15, go_sem]) rfl ⟨KFN.out, .inr (.inr (.inr ⟨HR.out, HK.out, L, T, HSP.out, HDp.out, E, DS.out, .inl ⟨HE.out, rfl⟩⟩))⟩
              · obtain ⟨w10, e10⟩ : ∃ x, World.alloc w8.drew (.cells #[.int .i64 0, .int .i64 0, .slice none 0 0] 53 (0, 0)) = x := ⟨_, rfl⟩
                have K10 : Hid (Kept [] w8 w10) := Hid.mk (by rw [← e10]; exact hH0.alloc _)
                obtain ⟨Q, eQ⟩ : ∃ x, (w8.drew).heap.size = x := ⟨_, rfl⟩
                have HQ0 := Hid.mk (show w10.heap[Q]? = some (.cells #[.int .i64 0, .int .i64 0, .slice none 0 0] 53 (0, 0)) by rw [← e10, ← eQ]; exact heap_alloc_new _ _)
                have HZ8 : Hid (w8.heap.size ≤ Q) := Hid.mk (by have h9 := (hH0).size; omega)
                have HQ1b := Hid.mk HQ0.out
                go_simp
                try rw [e10]
                refine hK.out _ _ K10.out (fun hH1 => ?_)
                clear hK K
                refine wpAnyH_ready (rs := [12]) (by kernel_rfl) (by simp) ?_
                refine AllReadyH.cons rfl (fun K hK => ?_) AllReadyH.nil
                go_simp
                go_at_call 33
                refine (CD.out _ (K8.out.trans hH1)).mono ?_
                rintro e w9 ⟨E, s, v0, v1, go, n', rfl, k9, hres, hok⟩
                have K9 : Hid (Kept [] w8 w9) := Hid.mk (hH1.trans k9)
                have HQ := Hid.mk (k9.heap HQ1b.out (by simp))
                refine hK.out _ _ K9.out (fun hH2 => ?_)
                clear hK K
                refine wpAnyH_take (i := 13) (oi := _) (v := ?_) rfl (by kernel_rfl) (by kernel_rfl) (by kernel_rfl) (fun _ _ _ h => h) (Or.inl ⟨by rfl, ?y13c⟩) (by assumption) ?r13c
                case y13c => (intro u hSw; have hSu : Kept [] w8 u := hSw; go_simp; try with_reducible rfl)
                refine wpAnyH_take (i := 14) (oi := _) (v := ?_) rfl (by kernel_rfl) (by kernel_rfl) (by kernel_rfl) (fun _ _ _ h => h) (Or.inl ⟨by rfl, ?y14c⟩) (by assumption) ?r14c
                case y14c => (intro u hSw; have hSu : Kept [] w8 u := hSw; go_simp; try with_reducible rfl)
                refine wpAnyH_take (i := 15) (oi := _) (v := ?_) rfl (by kernel_rfl) (by kernel_rfl) (by kernel_rfl) (fun _ _ _ h => h) (Or.inl ⟨by rfl, ?y15c⟩) (by assumption) ?r15c
                case y15c => (intro u hSw; have hSu : Kept [] w8 u := hSw; go_simp; try with_reducible rfl)
                refine wpAnyH_ready (rs := [17]) (by kernel_rfl) (by simp) ?_
                refine AllReadyH.cons rfl (fun K hK => ?_) AllReadyH.nil
                obtain ⟨x0, x1, x2, xf⟩ := cells_three HQ.out
                have f0 := xf 0
                have f1 := xf 1
                have f2 := xf 2
                have s4 := setAll_row [.int .i64 v0, .int .i64 v1, .slice go n' n'] 0 w9 [] [.int .i64 0, .int .i64 0, .slice none 0 0] HQ.out rfl rfl
                simp only [setAll] at s4
                obtain ⟨w11, e11⟩ : ∃ x, ((w9.setCell ⟨Q, 0, none⟩ (.int .i64 v0)).setCell ⟨Q, 0 + 1, none⟩ (.int .i64 v1)).setCell ⟨Q, 0 + 1 + 1, none⟩ (.slice go n' n') = x := ⟨_, rfl⟩
                rw [e11] at s4
                have K11 : Hid (Kept [] w8 w11) := Hid.mk (K9.out.step s4.2 (fun z hz => by simp at hz; subst hz; exact .inr HZ8.out))
                have HQF := Hid.mk s4.1
                have HOK : Hid (RdRes T d D bw n (L.getD q []) E s ∧ (E = 0 → v0 = (bw : Int) ∧ v1 = (bh : Int) ∧ n' = n ∧ ∃ G, go = some ⟨G, 0, none⟩ ∧ w8.heap.size ≤ G ∧ Smp w11 G 0 n s.b ∧ s.t = n ∧ s.In T)) := Hid.mk ⟨hres, fun h => by
                  obtain ⟨a1, a2, a3, G, a4, a5, a6, a7⟩ := hok h
                  have hGQ : Q < G := Nat.lt_of_lt_of_le (lt_of_block HQ1b.out) a5
                  exact ⟨a1, a2, a3, G, a4, Nat.le_trans hH1.size a5, a6.keep s4.2 (by simp; omega), a7⟩⟩
                go_simp
                try rw [e11]
                refine hK.out _ _ K11.out (fun hH3 => ?_)
                clear hK K
                refine wpAnyH_take (i := 18) (oi := _) (v := ?_) rfl (by kernel_rfl) (by kernel_rfl) (by kernel_rfl) (fun _ _ _ h => h) (Or.inl ⟨by rfl, ?y18d⟩) (by assumption) ?r18d
                case y18d => (intro u hSw; have hSu : Kept [] w8 u := hSw; go_simp; try with_reducible rfl)
                refine wpAnyH_done (by kernel_rfl) ?_ _
                clear x0 x1 x2 xf f0 f1 f2 e11 s4 e10 eQ hres hok k9 hH0 hH1 hH2 hH3 HQ HQ0 HQ1b
                by_cases hE : E = 0
                · subst hE
                  obtain ⟨rfl, rfl, rfl, G, rfl, hG1, hG2, hG3, hG4⟩ := HOK.out.2 rfl
                  obtain ⟨q0, q1, q2, qf⟩ := cells_three HQF.out
                  clear qf
                  have hgh := (K8.out.trans K11.out).heap HI.out.1 (by simp)
                  have hcl : q * 3 + 2 < cs.length := by rw [HI.out.2.1]; have := HQM.out; omega
                  have y0 := cellAt (i := q * 3) hgh (by rw [List.getElem?_toArray]; exact List.getElem?_eq_getElem (by omega))
                  have y1 := cellAt (i := q * 3 + 1) hgh (by rw [List.getElem?_toArray]; exact List.getElem?_eq_getElem (by omega))
                  have y2 := cellAt (i := q * 3 + 2) hgh (by rw [List.getElem?_toArray]; exact List.getElem?_eq_getElem (by omega))
                  have g0 := row_fz hgh (q * 3)
                  have g1 := row_fz hgh (q * 3 + 1)
                  have g2 := row_fz hgh (q * 3 + 2)
                  generalize cs[q * 3] = t0 at y0
                  generalize cs[q * 3 + 1] = t1 at y1
                  generalize cs[q * 3 + 2] = t2 at y2
                  have NXT : Hid ((((w11.setCell ⟨g, q * 3, none⟩ (.int .i64 (bw : Int))).setCell ⟨g, q * 3 + 1, none⟩ (.int .i64 (bh : Int))).setCell ⟨g, q * 3 + 2, none⟩ (.slice (some ⟨G, 0, none⟩) n' n')).heap[g]? = some (.cells (((cs.set (q * 3) (.int .i64 (bw : Int))).set (q * 3 + 1) (.int .i64 (bh : Int))).set (q * 3 + 2) (.slice (some ⟨G, 0, none⟩) n' n')).toArray 53 (0, 0)) ∧ Kept [g] w11 (((w11.setCell ⟨g, q * 3, none⟩ (.int .i64 (bw : Int))).setCell ⟨g, q * 3 + 1, none⟩ (.int .i64 (bh : Int))).setCell ⟨g, q * 3 + 2, none⟩ (.slice (some ⟨G, 0, none⟩) n' n'))) := Hid.mk ⟨by
                    have a1 := heap_setCell_at (i := q * 3) (u := .int .i64 (bw : Int)) hgh
                    have a2 := heap_setCell_at (i := q * 3 + 1) (u := .int .i64 (bh : Int)) a1
                    have a3 := heap_setCell_at (i := q * 3 + 2) (u := .slice (some ⟨G, 0, none⟩) n' n') a2
                    rw [a3, List.setIfInBounds_toArray, List.setIfInBounds_toArray, List.setIfInBounds_toArray], (((Kept.refl [g] w11).setCell (p := ⟨g, q * 3, none⟩) (.inl (by simp)) _).setCell (p := ⟨g, q * 3 + 1, none⟩) (.inl (by simp)) _).setCell (p := ⟨g, q * 3 + 2, none⟩) (.inl (by simp)) _⟩
                  have HGG : Hid (g < G) := Hid.mk (Nat.lt_of_lt_of_le (Nat.lt_of_lt_of_le (lt_of_block HI.out.1) K8.out.size) hG1)
                  have HSM := Hid.mk (And.intro hG2 (And.intro hG3 (And.intro hG4 (And.intro HOK.out.1 hcl))))
                  clear hgh hcl hG1 hG2 hG3 hG4 HOK HQF
                  have FIN : Hid (BlkC (((w11.setCell ⟨g, q * 3, none⟩ (.int .i64 (bw : Int))).setCell ⟨g, q * 3 + 1, none⟩ (.int .i64 (bh : Int))).setCell ⟨g, q * 3 + 2, none⟩ (.slice (some ⟨G, 0, none⟩) n' n')) g (q + 1) T D r (fun q => (pw W sw (Tl.cl W sw) (q : Int) k).toNat) (fun _ => (ph H sh (Tl.cl W sw) k).toNat) L (((cs.set (q * 3) (.int .i64 (bw : Int))).set (q * 3 + 1) (.int .i64 (bh : Int))).set (q * 3 + 2) (.slice (some ⟨G, 0, none⟩) n' n'))) := Hid.mk (by
                    obtain ⟨a1, a2, a3, a4, a5⟩ := HSM.out
                    have PUT := BlkC.put (HI.out.2.2.1.keep (K8.out.trans K11.out)) (n := n') (G := G) (s := s) a5 (by show (pw W sw (Tl.cl W sw) (q : Int) k).toNat * (ph H sh (Tl.cl W sw) k).toNat = n'; rw [HBW.out.1, HBW.out.2]; exact HN.out.symm) a1 a2 a3 (by show RdRes T (r q) D (pw W sw (Tl.cl W sw) (q : Int) k).toNat n' _ 0 s; rw [HED.out, HBW.out.1]; exact a4) HGG.out
                    refine BlkC.kept ?_ NXT.out.2 (Nat.le_refl _)
                    rw [← HBW.out.1, ← HBW.out.2]
                    exact PUT)
                  have KFN := Hid.mk ((HI.out.2.2.2.trans (K8.out.trans K11.out)).step NXT.out.2 (fun z hz => by simp at hz; subst hz; exact .inr (by have := HG56.out; omega)))
                  go_wp2
                  go_roundw
                  case rel => exact ⟨q + 1, _, by have := HQM.out; omega, by go_num, Hid.mk ⟨NXT.out.1, by simp [HI.out.2.1], FIN.out, KFN.out⟩⟩
                  case measure => (have := HQM.out; simp [intOf]; omega)
                · have hx' : (E != 0) = true := by simp; exact hE
                  have hx2 : (E == 0) = false := by simp; exact hE
                  have KFN := Hid.mk (K5.out.trans (HI.out.2.2.2.trans (K8.out.trans K11.out)))
                  have DS : Hid (DecS T D r (fun q => (pw W sw (Tl.cl W sw) (q : Int) k).toNat) (fun _ => (ph H sh (Tl.cl W sw) k).toNat) L (Tl.np A) E) := Hid.mk (.inr ⟨hE, q, by rw [HM.out]; exact HQM.out, fun i hi => by
                    obtain ⟨_, s', _, _, _, _, _, _, h7, _⟩ := HI.out.2.2.1 i hi
                    exact ⟨s', h7⟩, s, by
                    show RdRes T (r q) D (pw W sw (Tl.cl W sw) (q : Int) k).toNat ((pw W sw (Tl.cl W sw) (q : Int) k).toNat * (ph H sh (Tl.cl W sw) k).toNat) _ E s
                    rw [HED.out, HBW.out.1, HBW.out.2, ← HN.out]
                    exact HOK.out.1⟩)
                  have HE := Hid.mk hE
                  clear HOK HQF hE
                  go_wp2
                  refine bodyPost_ret (v := .tuple #[.slice none 0 0, .int .i64 E]) (by simp [results, Tryz.results15, go_sem]) rfl ⟨KFN.out, .inr (.inr (.inr ⟨HR.out, HK.out, L, T, HSP.out, HDp.out, E, DS.out, .inl ⟨HE.out, rfl⟩⟩))⟩
            · obtain rfl : M = q := by omega
              have KFN := Hid.mk (K5.out.trans HI.out.2.2.2)
              have HF := Hid.mk (And.intro HI.out.1 (And.intro HI.out.2.1 HI.out.2.2.1))
              clear hlt hq HI
              go_wp2
              refine bodyPost_ret (v := .tuple #[.slice (some ⟨g, 0, none⟩) M M, .int .i64 0]) (by simp [results, Tryz.results15, go_sem]) rfl ⟨KFN.out, .inr (.inr (.inr ⟨HR.out, HK.out, L, T, HSP.out, HDp.out, 0, .inl ⟨rfl, fun i hi => ?_⟩, .inr ⟨rfl, g, cs, by rw [HM.out], HGS.out.1, HF.out.1, by rw [HM.out]; exact HF.out.2.1, by rw [HM.out]; exact HF.out.2.2⟩⟩))⟩
              obtain ⟨_, s', _, _, _, _, _, _, h7, _⟩ := HF.out.2.2 i (by rw [← HM.out]; exact hi)
              exact ⟨s', h7⟩
end Go.Proofs.YtiganmmacmhndaaGreatDoor.Pc
