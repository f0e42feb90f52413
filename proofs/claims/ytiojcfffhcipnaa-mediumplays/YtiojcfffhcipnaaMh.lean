import Derived.Test.YtiojcfffhcipnaaMg
namespace Go.Proofs.Ytiojcfffhcipnaa
open Go.RowKit
open Go.MuLone

theorem own_lt {w : World} {B e size : Nat} {v : Value} {n : Nat} {xs : List Value} (h : w.ownsRow B e size v n xs) : ∀ x ∈ v.ownBlock.toList, x < w.heap.size := by
  intro x hx
  rcases h.2 with ⟨h, _⟩ | ⟨g, cap, cur, h1, hg, h2, _⟩
  · rw [h] at hx; simp [Value.ownBlock] at hx
  · rw [h1] at hx; simp [Value.ownBlock] at hx; subst hx; exact (Array.getElem?_eq_some_iff.1 h2).1
theorem own_base {w : World} {B B' e size : Nat} {v : Value} {n : Nat} {xs : List Value} (h : w.ownsRow B e size v n xs) (hb : B' ≤ B) : w.ownsRow B' e size v n xs := by
  refine ⟨h.1, ?_⟩
  rcases h.2 with h | ⟨g, cap, cur, h1, hg, h2⟩
  · exact .inl h
  · exact .inr ⟨g, cap, cur, h1, by omega, h2⟩

theorem setCell_two {w : World} {S : Nat} {a b x y : Value} (h : w.heap[S]? = some (.cells #[a, b] 63 (0, 0))) : ((w.setCell ⟨S, 0, none⟩ x).setCell ⟨S, 1, none⟩ y).heap[S]? = some (.cells #[x, y] 63 (0, 0)) := by
  rw [heap_setCell_at (heap_setCell_at h)]
  simp

/-- A part of a row, cloned. -/
theorem clone_cut (w : World) (bo : Option Addr) (m c : Nat) (b : List Nat) (hrow : w.ownsRow 0 5 1 (.slice bo m c) m (b.map byt)) (q r z : Nat) (hz : q + r = z) (hqr : z ≤ m) (hm : m ≤ 268435456) :
    ∃ ao cq, (∀ u, Sem.run Try.prog (Instr.slice 29 (.slice bo m c) (some (.int .i64 (q : Int))) (some (.int .i64 (z : Int))) none) u = .ok (.slice ao r cq) u) ∧
      (∀ u, Kept [] w u → Calls Try.prog 50 #[.slice ao r cq] u fun e w' => ∃ b9 c9, e = .returned (.slice b9 r c9) ∧ w'.ownsRow u.heap.size 5 1 (.slice b9 r c9) r (((b.drop q).take r).map byt) ∧ Kept [] u w') := by
  obtain ⟨bo', c', e9, n1, hmc, -, -⟩ := row_form2 hrow
  cases e9
  have hbl : b.length = m := by have := hrow.1; simpa using this
  refine ⟨if c = q then bo else bo.map (fun x => x.add q), c - q, fun u => ?_, fun u hu => ?_⟩
  · have := slice_lh bo m c q z (by omega) (by omega) u
    rw [show z - q = r by omega] at this
    exact this
  · refine bclone_any _ r _ _ u ((reads_cut (reads_row hrow) q r c (by omega) (by omega)).keep hu) (by simp; omega) (fun h => ?_) (by omega)
    by_cases hcq : c = q
    · omega
    · rw [if_neg hcq] at h
      have : bo = none := by cases bo <;> simp at h ⊢
      have := n1 this
      omega

set_option maxHeartbeats 16000000 in
set_option maxRecDepth 100000 in
theorem rw_ok (w : World) (P : Nat) (V L : Value) (s : Md) (pa pl a n : Int) (h : Med w P V L s 0) (ok : s.b.length ≤ 268435456) (okg : s.g.length ≤ 8796093022207) (hd : s.dead = false) (a1 : a ≤ 9223372036854775807) (p0 : 0 ≤ pa) (p1 : pa ≤ 268435456) (p2 : 0 ≤ pl) (p3 : pl ≤ 268435456) (hin : (inB a n pl && inB (pa + a) n (s.b.length : Int)) = true) :
    Calls Try.prog 54 #[.pointer (some ⟨P, 0, none⟩), .agg #[.int .i64 pa, .int .i64 pl], .int .i64 a, .int .i64 n] w fun e w' => ∃ bo c L', e = .returned (.tuple #[.slice bo n.toNat c, .int .i64 0]) ∧ w'.ownsRow w.heap.size 5 1 (.slice bo n.toNat c) n.toNat (((s.b.drop (pa + a).toNat).take n.toNat).map byt) ∧ Med w' P V L' { s with g := s.g ++ [(pa + a, n)] } 0 ∧ Kept (P :: L.ownBlock.toList) w w' ∧ Lies w L L' := by
  obtain ⟨b, g, d, lf, kp⟩ := s
  simp only at hd ok okg hin ⊢
  subst hd
  have HM := Hid.mk h
  clear h
  obtain ⟨m, em⟩ : ∃ m, b.length = m := ⟨_, rfl⟩
  rw [em] at ok hin
  have CA := Hid.mk (fun u => lies_any a n pl u a1 p2 (by omega))
  have hi : inB a n pl = true := by revert hin; cases inB a n pl <;> simp
  have hj : inB (pa + a) n (m : Int) = true := by revert hin; rw [hi]; simp
  have hi' := hi
  simp only [inB, decide_eq_true_eq] at hi'
  have hj' := hj
  simp only [inB, decide_eq_true_eq] at hj'
  have CB := Hid.mk (fun u => lies_any (pa + a) n (m : Int) u (by omega) (by omega) (by omega))
  rw [hi] at CA
  rw [hj] at CB
  obtain ⟨q, eq⟩ : ∃ q : Nat, pa + a = (q : Int) := ⟨(pa + a).toNat, by omega⟩
  obtain ⟨r, rfl⟩ : ∃ r : Nat, n = (r : Int) := ⟨n.toNat, by omega⟩
  have v1 : wrap64 (pa + a) = (q : Int) := by rw [eq]; unfold wrap64; omega
  have v2 : IntKind.i64.wrap (pa + a) = (q : Int) := by rw [eq]; unfold IntKind.wrap; simp [IntKind.bits, IntKind.signed]; omega
  rw [eq] at CB ⊢
  simp only [Int.toNat_natCast]
  have HQ : Hid (q + r ≤ m ∧ m ≤ 268435456 ∧ g.length ≤ 8796093022207) := Hid.mk (by omega)
  clear hin hi hi' hj hj' a1 p0 p1 p2 p3 ok eq okg
  go_enter_defers Try.func54, Try.ntmps54
  go_wp2_with (fail)
  obtain ⟨w0, ew0, k0, hb0⟩ := alloc_new w (.cells #[.int .i64 pa, .int .i64 pl] 63 (0, 0))
  rw [ew0]
  clear ew0
  obtain ⟨Q, eQ⟩ : ∃ Q, Q = w.heap.size := ⟨_, rfl⟩
  rw [← eQ] at hb0 ⊢
  have HEQ := Hid.mk eQ
  clear eQ
  refine (mlock (HM.out.keep k0)).mono ?_
  rintro e w1 ⟨rfl, h1, k1⟩
  have H1 := Hid.mk h1
  have hb1 := k1.heap hb0 (fun hm => by simp at hm; subst hm; have := (HM.out.keep k0).box; rw [hb0] at this; simp at this)
  obtain ⟨d0, d1⟩ := cells2 hb1
  have HB1 := Hid.mk hb1
  have K1 := Hid.mk ((k0.mono (by simp) : Kept [P] w w0).trans k1)
  have c4 := h1.c4
  obtain ⟨bo, c, eV, hbc, hmc, -, -⟩ := row_form2 h1.row
  simp only [em] at eV hmc
  subst eV
  have HC := Hid.mk (And.intro hmc hbc)
  have c2 := h1.c2
  clear h1 k1 k0 hb0 hb1 hmc hbc
  go_wp2_with (fail)
  go_quiet ((first | (go_at_call_of 55 pl; exact Calls.quiet_of_same (CA.out _)) | (go_at_call 55; exact Calls.quiet_of_same (CB.out _))))
  obtain ⟨w2, ew2, k2⟩ : ∃ w2, w1.drewN nq = w2 ∧ Kept [] w1 w2 := ⟨_, rfl, (Kept.refl _ _).drewN _⟩
  rw [ew2]
  have H2 := Hid.mk (H1.out.keep k2)
  have K2 := Hid.mk (K1.out.step k2 (by simp))
  have hb2 := k2.heap HB1.out (by simp)
  obtain ⟨d0', d1'⟩ := cells2 hb2
  clear ew2 k2 d0 d1 c2 c4 hb2
  go_wp2_with (fail)
  obtain ⟨w3, ew3, k3, hb3⟩ := alloc_new w2 (.cells #[.int .i64 (q : Int), .int .i64 (r : Int)] 63 (0, 0))
  rw [ew3]
  obtain ⟨S, eS⟩ : ∃ S, S = w2.heap.size := ⟨_, rfl⟩
  rw [← eS] at hb3 ⊢
  have HES := Hid.mk eS
  clear ew3 eS d0' d1' v1 v2 CA CB
  have h3 := H2.out.keep k3
  have K3 := Hid.mk (K2.out.step k3 (by simp))
  obtain ⟨lo, lc, eL, hlc, -, -, -⟩ := row_form2 h3.log
  simp only at eL
  subst eL
  obtain ⟨G, eG⟩ : ∃ G, g.length = G := ⟨_, rfl⟩
  have hd3 := h3
  have t0 := hd3.c3
  simp only [eG] at t0
  obtain ⟨y0, y1⟩ := cells2 hb3
  obtain ⟨w4, ew4, k4, hb4⟩ : ∃ w4, (w3.alloc (.cells #[.int .i64 (q : Int), .int .i64 (r : Int)] 63 (0, 0))).drew = w4 ∧ Kept [] w3 w4 ∧ w4.heap[w3.heap.size]? = some (.cells #[.int .i64 (q : Int), .int .i64 (r : Int)] 63 (0, 0)) := ⟨_, rfl, ((Kept.refl _ _).alloc _).drew, heap_alloc_new _ _⟩
  have h4 := h3.keep k4
  have rds : RdS w4 (some ⟨w3.heap.size, 0, none⟩) [((q : Int), (r : Int))] := .inr ⟨_, 0, rfl, fun j u hj => by
    obtain ⟨z0, z1⟩ := cells2 hb4
    rw [spc_one] at hj
    match j, hj with
    | 0, hj => simp at hj; subst hj; exact z0
    | 1, hj => simp at hj; subst hj; exact z1
    | j + 2, hj => simp at hj⟩
  obtain ⟨v', u', hrun, ho, hk, hL⟩ := app_sp w4 30 _ _ _ h4.log (some ⟨w3.heap.size, 0, none⟩) 1 1 _ rds rfl (by have := HQ.out; simp only; omega) (by simp)
  obtain ⟨lz, cz, ez, -, -, -, -⟩ := row_form2 ho
  subst ez
  obtain ⟨m5, k5⟩ := h4.slog (L' := .slice lz _ cz) (g ++ [((q : Int), (r : Int))]) hk (by rw [spc_append]; simpa using ho)
  have hb5 := hk.heap h4.box (own_ty h4.box (by decide) h4.log)
  have cu : u'.cell? ⟨P, 3, none⟩ = some (.slice lo G lc) := by simp [World.cell?, hb5, eG]
  have fu : u'.frozen? ⟨P, 3, none⟩ = false := by simp [World.frozen?, hb5]
  have t4 := h4.c3
  simp only [eG] at t4 m5 k5 hL hrun
  have K5 := Hid.mk (((K3.out).at (List.mem_cons_self (a := P) (l := (Value.slice lo G lc).ownBlock.toList))).step ((k4.mono (by simp)).step k5 (fun x hx => .inl hx)) (fun x hx => .inl hx))
  have HLL := Hid.mk (hL.of_kept (k3.trans k4))
  have HL2 := Hid.mk K2.out.size
  have S5 := Hid.mk (Nat.le_trans (Nat.le_trans K3.out.size (Nat.le_trans k4.size hk.size)) (by simp [World.setCell] : u'.heap.size ≤ (u'.setCell ⟨P, 3, none⟩ (.slice lz (G + 1) cz)).heap.size))
  have nP : S ≠ P := fun e => by subst e; have := h3.box; rw [hb3] at this; simp at this
  have hb6 : (u'.setCell ⟨P, 3, none⟩ (.slice lz (G + 1) cz)).heap[S]? = some (.cells #[.int .i64 (q : Int), .int .i64 (r : Int)] 63 (0, 0)) := by
    rw [Below.heap_setCell _ _ _ _ (by exact nP)]
    refine hk.heap (k4.heap hb3 (by simp)) (fun hm => ?_)
    have := own_lt H2.out.log S hm
    have := HES.out
    omega
  have M5 := Hid.mk m5
  rw [← ew4] at hrun t4
  have t5 : (w3.alloc (.cells #[.int .i64 (q : Int), .int .i64 (r : Int)] 63 (0, 0))).cell? ⟨P, 3, none⟩ = some (.slice lo G lc) := t4
  clear t4 m5 k5 hb5 hk hL ho h4 hd3 h3 k3 k4 hb3 hb4 rds ew4
  refine wp_region_noPanic ?_
  go_region_law (refine step_app rfl _ _ 30 rfl _ _ _ _ rfl rfl hrun ?_)
  all_goals focus
    refine NoPanic.normal ?_
    obtain ⟨w6, ew6⟩ : ∃ w6, u'.setCell ⟨P, 3, none⟩ (.slice lz (G + 1) cz) = w6 := ⟨_, rfl⟩
    rw [ew6] at M5 K5 S5 hb6 ⊢
    obtain ⟨z, ez⟩ : ∃ z, q + r = z := ⟨_, rfl⟩
    obtain ⟨ao, cq, SL, CC⟩ := clone_cut w6 bo m c b (by have := M5.out.row; simp only [em] at this; exact this) q r z ez (by have := HQ.out; omega) (by have := HQ.out; omega)
    have HCC := Hid.mk CC
    have v4 : IntKind.i64.wrap ((q : Int) + (r : Int)) = (z : Int) := by rw [show (q : Int) + (r : Int) = (z : Int) by omega]; have := HQ.out; unfold IntKind.wrap; simp [IntKind.bits, IntKind.signed]; omega
    have v3 : wrap64 ((q : Int) + (r : Int)) = (z : Int) := by rw [show (q : Int) + (r : Int) = (z : Int) by omega]; have := HQ.out; unfold wrap64; omega
    have x2 := M5.out.c2
    obtain ⟨x0, -⟩ := cells2 hb6
    have HB6 := Hid.mk hb6
    clear CC ez hb6 ew6 t0 y0 y1 cu fu hrun t5 hlc
    go_wp2_with (fail)
    go_region_held3 (fun u => u.cell? ⟨P, 2, none⟩ = some (.slice bo m c) ∧ u.cell? ⟨S, 0, none⟩ = some (.int .i64 (q : Int))) (first | exact ⟨x2, x0⟩ | exact ⟨x9, x8⟩ | go_keep) (first | (go_at_call 50; refine (HCC.out _ ((Kept.refl _ _).drew)).mono ?_; rintro e w7 ⟨b9, c9, rfl, o7, k7⟩; have O7 := Hid.mk o7; have K7 := Hid.mk k7; have x9 := (M5.out.drew.keep k7).c2; have x8 := (cells2 ((k7.heap (HB6.out : w6.drew.heap[S]? = _) (by simp)))).1; clear o7 k7))
    have M7 := Hid.mk (M5.out.drew.keep K7.out)
    clear x9 x8 x2 x0
    go_wp2
    refine leaves_cons (f := 52) (args := #[.pointer (some ⟨P, 0, none⟩)]) (by simp) (by simp [go_sem]) ?_
    refine (munlock M7.out).mono ?_
    rintro e u9 w8 ⟨rfl, rfl, h8, k8⟩
    subst eG
    refine ⟨_, results_tmp2 rfl _ _ _, b9, c9, _, rfl, ?_, h8, ((K5.out.drew).step K7.out (by simp)).step k8 (fun x hx => by simp at hx; subst hx; simp), HLL.out.of_kept K2.out⟩
    have := k8.row O7.out (fun g hg => by have := own_ty M7.out.box (by decide) (own_zero O7.out); simp [hg] at this ⊢; exact fun e => this e.symm)
    exact own_base this S5.out
end Go.Proofs.Ytiojcfffhcipnaa
