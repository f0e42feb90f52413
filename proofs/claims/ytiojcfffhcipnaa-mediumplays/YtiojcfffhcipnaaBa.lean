import Derived.Test.YtiojcfffhcipnaaSx
namespace Go.Proofs.Ytiojcfffhcipnaa
open Go.RowKit

/-- A value put behind a row of such. -/
theorem app1 (w : World) (t e by_ : Nat) (z : Value) (hu : Try.prog.underlying t = some (.slice e)) (hinf : (Try.prog.info? e).map (fun i => (i.zero, i.size, i.bytes)) = some (some z, 1, by_)) (hz : z.cells.size = 1) (v : Value) (n : Nat) (xs : List Value) (ho : w.ownsRow 0 e 1 v n xs) (y : Value) (hy : y.oneCell' = true) (hn : n ≤ 100000000000000) (hb : (n + 1) * by_ ≤ 140737488355328) :
    ∃ bo c w', Sem.run Try.prog (Builtin.append_ #[t, t] t #[v, .slice (some ⟨w.heap.size, 0, none⟩) 1 1]) (w.alloc (.cells #[y] e)) = .ok (.slice bo (n + 1) c) w' ∧ w'.ownsRow 0 e 1 (.slice bo (n + 1) c) (n + 1) (xs ++ [y]) ∧ Kept v.ownBlock.toList w w' ∧ Lies w v (.slice bo (n + 1) c) := by
  obtain ⟨i0, hi, hz0, hz1, hz2⟩ := info_parts hinf
  have k0 : Kept [] w (w.alloc (.cells #[y] e)) := (Kept.refl [] w).alloc _
  obtain ⟨v', u', hrun, h2, h3, _, h5⟩ := run_append_own_at (P := Try.prog) (w.alloc (.cells #[y] e)) 0 t t e i0 z 1 by_ hu hi hz0 hz1 hz2 hz (by decide) v n xs (k0.row ho (by simp)) ⟨w.heap.size, 0, none⟩ 1 1 [y] rfl (fun j u hj => by
    have hb : (w.alloc (.cells #[y] e)).heap[w.heap.size]? = some (.cells #[y] e) := heap_alloc_new _ _
    match j, hj with
    | 0, hj => simp at hj; subst hj; rw [addN]; unfold World.cell?; rw [hb]; rfl
    | j + 1, hj => simp at hj) (fun u hu => by simp at hu; subst hu; exact hy) (by unfold maxLen; omega) hb (Nat.zero_le _)
  obtain ⟨bo, c, ev, -, -, -, -⟩ := row_form2 h2
  subst ev
  refine ⟨bo, c, u', hrun, h2, (k0.mono (by simp)).trans (Kept.of_grown h3), ?_⟩
  rcases h5 with h | h
  · exact .inl h
  · exact .inr ⟨_, h, by rw [World.size_alloc]; omega⟩

theorem Try.info29 : (Try.prog.info? 29).map (fun i => (i.zero, i.size, i.bytes)) = some (some (.slice none 0 0), 1, 24) := by kernel_rfl
theorem Try.info30 : (Try.prog.info? 30).map (fun i => (i.zero, i.size, i.bytes)) = some (some (.slice none 0 0), 1, 24) := by kernel_rfl

/-- The Book's box. -/
def Bx (w : World) (A : Nat) (l s o t k u ks us : Value) : Prop := w.heap[A]? = some (.cells #[l, s, o, t, k, u, ks, us] 32 (0, 0))
section
variable {w w' : World} {A : Nat} {l s o t k u ks us : Value}
theorem Bx.kept {xs : List Nat} (h : Bx w A l s o t k u ks us) (hk : Kept xs w w') (hn : A ∉ xs) : Bx w' A l s o t k u ks us := hk.heap h hn
theorem Bx.cells (h : Bx w A l s o t k u ks us) : w.cell? ⟨A, 0, none⟩ = some l ∧ w.cell? ⟨A, 1, none⟩ = some s ∧ w.cell? ⟨A, 2, none⟩ = some o ∧ w.cell? ⟨A, 3, none⟩ = some t ∧ w.cell? ⟨A, 4, none⟩ = some k ∧ w.cell? ⟨A, 5, none⟩ = some u ∧ w.cell? ⟨A, 6, none⟩ = some ks ∧ w.cell? ⟨A, 7, none⟩ = some us := by
  unfold Bx at h
  refine ⟨?_, ?_, ?_, ?_, ?_, ?_, ?_, ?_⟩ <;> simp [World.cell?, h]
theorem Bx.fz (h : Bx w A l s o t k u ks us) (i : Nat) : w.frozen? ⟨A, i, none⟩ = false := by unfold Bx at h; simp [World.frozen?, h]
theorem Bx.so (h : Bx w A l s o t k u ks us) (v : Value) : Bx (w.setCell ⟨A, 2, none⟩ v) A l s v t k u ks us := by unfold Bx at *; rw [heap_setCell_at h]; simp
theorem Bx.st (h : Bx w A l s o t k u ks us) (v : Value) : Bx (w.setCell ⟨A, 3, none⟩ v) A l s o v k u ks us := by unfold Bx at *; rw [heap_setCell_at h]; simp
theorem Bx.sk (h : Bx w A l s o t k u ks us) (v : Value) : Bx (w.setCell ⟨A, 4, none⟩ v) A l s o t v u ks us := by unfold Bx at *; rw [heap_setCell_at h]; simp
theorem Bx.su (h : Bx w A l s o t k u ks us) (v : Value) : Bx (w.setCell ⟨A, 5, none⟩ v) A l s o t k v ks us := by unfold Bx at *; rw [heap_setCell_at h]; simp
theorem Bx.sks (h : Bx w A l s o t k u ks us) (v : Value) : Bx (w.setCell ⟨A, 6, none⟩ v) A l s o t k u v us := by unfold Bx at *; rw [heap_setCell_at h]; simp
theorem Bx.sus (h : Bx w A l s o t k u ks us) (v : Value) : Bx (w.setCell ⟨A, 7, none⟩ v) A l s o t k u ks v := by unfold Bx at *; rw [heap_setCell_at h]; simp
end
theorem setA_kept (w : World) (A i : Nat) (v : Value) : Kept [A] w (w.setCell ⟨A, i, none⟩ v) := (Kept.refl _ _).setCell (.inl (by simp)) _

set_option maxHeartbeats 4000000 in
theorem take_any (w : World) (A : Nat) (l s o t k u ks us : Value) (n : Nat) (xs : List Value) (x : Option Addr) (m c : Nat) (h : Bx w A l s o t k u ks us) (ho : w.ownsRow 0 29 1 o n xs) (hn : n ≤ 1000) :
    Calls Try.prog 43 #[.pointer (some ⟨A, 0, none⟩), .slice x m c] w fun e w' => ∃ o', e = .returned (.tuple #[]) ∧ Bx w' A l s o' t k u ks us ∧ w'.ownsRow 0 29 1 o' (n + 1) (xs ++ [.slice x m c]) ∧ Kept (A :: o.ownBlock.toList) w w' ∧ Lies w o o' := by
  obtain ⟨bo, cc, w1, hrun, h1, k1, l1⟩ := app1 w 27 29 24 _ Try.underlying27 Try.info29 rfl o n xs ho (.slice x m c) rfl (by omega) (by omega)
  have hA : A ∉ o.ownBlock.toList := own_ty h (by decide) ho
  have hb1 := h.kept k1 hA
  have hcA := (h.kept ((Kept.refl [] w).alloc (.cells #[.slice x m c] 29)) (by simp)).cells.2.2.1
  have c1 := hb1.cells.2.2.1
  have f1 := hb1.fz 2
  have c0 := h.cells.2.2.1
  obtain ⟨vo, vc, eo, -, -, -, -⟩ := row_form2 ho
  subst eo
  have FN : Hid (Bx (w1.setCell ⟨A, 2, none⟩ (.slice bo (n + 1) cc)) A l s (.slice bo (n + 1) cc) t k u ks us ∧ (w1.setCell ⟨A, 2, none⟩ (.slice bo (n + 1) cc)).ownsRow 0 29 1 (.slice bo (n + 1) cc) (n + 1) (xs ++ [.slice x m c]) ∧ Kept (A :: (Value.slice vo n vc).ownBlock.toList) w (w1.setCell ⟨A, 2, none⟩ (.slice bo (n + 1) cc)) ∧ Lies w (.slice vo n vc) (.slice bo (n + 1) cc)) := Hid.mk ⟨hb1.so _, (setA_kept _ _ _ _).row h1 (fun g hg hm => by have := own_ty hb1 (by decide) h1; simp at hm; subst hm; simp [hg] at this), (k1.mono (fun x hx => .inl (List.mem_cons_of_mem _ hx))).step (setA_kept _ _ _ _) (fun x hx => by simp at hx; subst hx; simp), l1⟩
  clear h ho h1 k1 l1 hA hb1
  go_enter Try.func43, Try.ntmps43
  go_wp2_with (at_builtin; refine wpList_app_eq' rfl _ _ 27 rfl _ _ _ _ rfl rfl hrun ?_)
  go_end0
  first | exact ⟨_, rfl, FN.out⟩ | exact ⟨rfl, _, FN.out⟩

set_option maxHeartbeats 4000000 in
theorem tells_any (w : World) (A : Nat) (l s o t k u ks us : Value) (n : Nat) (xs : List Value) (x : Option Addr) (m c : Nat) (h : Bx w A l s o t k u ks us) (ho : w.ownsRow 0 30 1 t n xs) (hn : n ≤ 1000) :
    Calls Try.prog 45 #[.pointer (some ⟨A, 0, none⟩), .slice x m c] w fun e w' => ∃ t', e = .returned (.tuple #[]) ∧ Bx w' A l s o t' k u ks us ∧ w'.ownsRow 0 30 1 t' (n + 1) (xs ++ [.slice x m c]) ∧ Kept (A :: t.ownBlock.toList) w w' ∧ Lies w t t' := by
  obtain ⟨bo, cc, w1, hrun, h1, k1, l1⟩ := app1 w 28 30 24 _ Try.underlying28 Try.info30 rfl t n xs ho (.slice x m c) rfl (by omega) (by omega)
  have hA : A ∉ t.ownBlock.toList := own_ty h (by decide) ho
  have hb1 := h.kept k1 hA
  have hcA := (h.kept ((Kept.refl [] w).alloc (.cells #[.slice x m c] 30)) (by simp)).cells.2.2.2.1
  have c1 := hb1.cells.2.2.2.1
  have f1 := hb1.fz 3
  have c0 := h.cells.2.2.2.1
  obtain ⟨vo, vc, eo, -, -, -, -⟩ := row_form2 ho
  subst eo
  have FN : Hid (Bx (w1.setCell ⟨A, 3, none⟩ (.slice bo (n + 1) cc)) A l s o (.slice bo (n + 1) cc) k u ks us ∧ (w1.setCell ⟨A, 3, none⟩ (.slice bo (n + 1) cc)).ownsRow 0 30 1 (.slice bo (n + 1) cc) (n + 1) (xs ++ [.slice x m c]) ∧ Kept (A :: (Value.slice vo n vc).ownBlock.toList) w (w1.setCell ⟨A, 3, none⟩ (.slice bo (n + 1) cc)) ∧ Lies w (.slice vo n vc) (.slice bo (n + 1) cc)) := Hid.mk ⟨hb1.st _, (setA_kept _ _ _ _).row h1 (fun g hg hm => by have := own_ty hb1 (by decide) h1; simp at hm; subst hm; simp [hg] at this), (k1.mono (fun x hx => .inl (List.mem_cons_of_mem _ hx))).step (setA_kept _ _ _ _) (fun x hx => by simp at hx; subst hx; simp), l1⟩
  clear h ho h1 k1 l1 hA hb1
  go_enter Try.func45, Try.ntmps45
  go_wp2_with (at_builtin; refine wpList_app_eq' rfl _ _ 28 rfl _ _ _ _ rfl rfl hrun ?_)
  go_end0
  first | exact ⟨_, rfl, FN.out⟩ | exact ⟨rfl, _, FN.out⟩

set_option maxHeartbeats 8000000 in
theorem held_any (w : World) (A : Nat) (l s o t ks us : Value) (n : Nat) (xs : List Value) (ko uo : Option Addr) (kn kc uc : Nat) (K : List Nat) (x y : Value) (h : Bx w A l s o t (.slice ko kn kc) (.slice uo kn uc) ks us) (ho : w.ownsRow 0 29 1 o n xs) (hn : n ≤ 1000) (hk : Reads w ko K) (hu : Reads w uo K) (hK : K.length = kn) (hx : ∃ a b c, x = .slice a b c) (hy : ∃ a b c, y = .slice a b c) :
    Calls Try.prog 41 #[.pointer (some ⟨A, 0, none⟩), x, y] w fun e w' => ∃ o', e = .returned (.bool true) ∧ Bx w' A l s o' t x y ks us ∧ w'.ownsRow 0 29 1 o' (n + 1) (xs ++ [.slice ko kn kc]) ∧ Kept (A :: o.ownBlock.toList) w w' ∧ Lies w o o' := by
  obtain ⟨xa, xb, xc, rfl⟩ := hx
  obtain ⟨ya, yb, yc, rfl⟩ := hy
  obtain ⟨-, -, -, -, c4, c5, -, -⟩ := h.cells
  have g1 : ∀ q, Sem.run Try.prog (convert 29 9 (.slice ko kn kc)) (w.drewN q) = .ok (.string (bstr K)) (w.drewN q) := fun q => by
    have := reads_str (hk.keep ((Kept.refl _ _).drewN q)) kc; rw [hK] at this; exact this
  have g2 : ∀ q, Sem.run Try.prog (convert 29 9 (.slice uo kn uc)) (w.drewN q) = .ok (.string (bstr K)) (w.drewN q) := fun q => by
    have := reads_str (hu.keep ((Kept.refl _ _).drewN q)) uc; rw [hK] at this; exact this
  have HH := Hid.mk (And.intro h ho)
  clear h ho hk hu
  go_enter Try.func41, Try.ntmps41
  go_wp2_with (fail)
  go_quiet (fail)
  obtain ⟨w2, ew2, k2⟩ : ∃ w2, w.drewN nq = w2 ∧ Kept [] w w2 := ⟨_, rfl, (Kept.refl _ _).drewN _⟩
  rw [ew2]
  have HB := Hid.mk (HH.out.1.kept k2 (by simp))
  have HO := Hid.mk (k2.row HH.out.2 (by simp))
  have K2 := Hid.mk k2
  clear ew2 k2 g1 g2 c4 c5
  obtain ⟨-, -, -, -, c4, -, -, -⟩ := HB.out.cells
  go_wp2_with (fail)
  refine (take_any w2 A l s o t _ _ ks us n xs ko kn kc HB.out HO.out hn).mono ?_
  rintro e w3 ⟨o', rfl, h3, o3, k3, l3⟩
  obtain ⟨-, -, -, -, d4, d5, -, -⟩ := h3.cells
  have f4 := h3.fz 4
  have h4 := h3.sk (.slice xa xb xc)
  have h5 := h4.su (.slice ya yb yc)
  have f5 := h4.fz 5
  have d5' := h4.cells.2.2.2.2.2.1
  have hA : A ∉ o'.ownBlock.toList := own_ty h3 (by decide) o3
  have FN := Hid.mk (And.intro h5 (And.intro (((setA_kept w3 A 4 (.slice xa xb xc)).trans (setA_kept _ A 5 (.slice ya yb yc))).row o3 (fun g hg hm => hA (by simp at hm; subst hm; simp [hg]))) (And.intro ((K2.out.mono (by simp) : Kept (A :: o.ownBlock.toList) w w2).step (k3.step ((setA_kept w3 A 4 (.slice xa xb xc)).trans (setA_kept _ A 5 (.slice ya yb yc))) (fun x hx => by simp at hx; subst hx; simp)) (fun x hx => .inl hx)) (l3.of_kept K2.out))))
  clear h3 o3 k3 l3 h4 h5 hA c4
  go_wp2
  go_ret
  first | exact ⟨rfl, o', FN.out⟩ | exact ⟨o', rfl, FN.out⟩

set_option maxHeartbeats 8000000 in
theorem heldS_any (w : World) (A : Nat) (l s o t k u : Value) (n : Nat) (xs : List Value) (ko uo : Option Addr) (kn kc uc : Nat) (K : List (Int × Int)) (x y : Value) (h : Bx w A l s o t k u (.slice ko kn kc) (.slice uo kn uc)) (ho : w.ownsRow 0 30 1 t n xs) (hn : n ≤ 1000) (hk : w.ownsRow 0 63 2 (.slice ko kn kc) kn (spc K)) (hu : w.ownsRow 0 63 2 (.slice uo kn uc) kn (spc K)) (hK : K.length = kn) (hKn : kn ≤ 9000000000000) (hx : ∃ a b c, x = .slice a b c) (hy : ∃ a b c, y = .slice a b c) :
    Calls Try.prog 46 #[.pointer (some ⟨A, 0, none⟩), x, y] w fun e w' => ∃ t', e = .returned (.bool true) ∧ Bx w' A l s o t' k u x y ∧ w'.ownsRow 0 30 1 t' (n + 1) (xs ++ [.slice ko kn kc]) ∧ Kept (A :: t.ownBlock.toList) w w' ∧ Lies w t t' := by
  obtain ⟨xa, xb, xc, rfl⟩ := hx
  obtain ⟨ya, yb, yc, rfl⟩ := hy
  obtain ⟨-, -, -, -, -, -, c6, c7⟩ := h.cells
  have HH := Hid.mk (And.intro h ho)
  have CS := Hid.mk (sameSpans_any ko uo kn kc uc 0 0 K w.drew (((Kept.refl [] w).drew).row hk (by simp)) (((Kept.refl [] w).drew).row hu (by simp)) hK hKn)
  clear h ho hk hu
  go_enter Try.func46, Try.ntmps46
  go_wp2_with (fail)
  go_region_held_law (fun v => v.cell? ⟨A, 6, none⟩ = some (.slice ko kn kc) ∧ v.cell? ⟨A, 7, none⟩ = some (.slice uo kn uc)) (first | exact ⟨c6, c7⟩ | exact ⟨y6, y7⟩ | go_keep) (first | (go_at_call 24; refine CS.out.mono ?_; rintro e w2 ⟨rfl, k2'⟩; have k2 : Kept [] w w2 := k2'.undrew; obtain ⟨-, -, -, -, -, -, y6, y7⟩ := (HH.out.1.kept k2 (by simp)).cells; have K2 := Hid.mk k2; clear k2 k2'))
  have HB := Hid.mk (HH.out.1.kept K2.out (by simp))
  have HO := Hid.mk (K2.out.row HH.out.2 (by simp))
  clear y7
  go_wp2_with (fail)
  refine (tells_any w2 A l s o t k u _ _ n xs ko kn kc HB.out HO.out hn).mono ?_
  rintro e w3 ⟨t', rfl, h3, o3, k3, l3⟩
  obtain ⟨-, -, -, -, -, -, d6, d7⟩ := h3.cells
  have f6 := h3.fz 6
  have h4 := h3.sks (.slice xa xb xc)
  have h5 := h4.sus (.slice ya yb yc)
  have f7 := h4.fz 7
  have d7' := h4.cells.2.2.2.2.2.2.2
  have hA : A ∉ t'.ownBlock.toList := own_ty h3 (by decide) o3
  have FN := Hid.mk (And.intro h5 (And.intro (((setA_kept w3 A 6 (.slice xa xb xc)).trans (setA_kept _ A 7 (.slice ya yb yc))).row o3 (fun g hg hm => hA (by simp at hm; subst hm; simp [hg]))) (And.intro ((K2.out.mono (by simp) : Kept (A :: t.ownBlock.toList) w w2).step (k3.step ((setA_kept w3 A 6 (.slice xa xb xc)).trans (setA_kept _ A 7 (.slice ya yb yc))) (fun x hx => by simp at hx; subst hx; simp)) (fun x hx => .inl hx)) (l3.of_kept K2.out))))
  clear h3 o3 k3 l3 h4 h5 hA y6
  go_wp2
  go_ret
  first | exact ⟨rfl, t', FN.out⟩ | exact ⟨t', rfl, FN.out⟩
end Go.Proofs.Ytiojcfffhcipnaa
