import Derived.Test.YtplpjpijmnglfaaP8
namespace Go.Proofs.Ytplpjpijmnglfaa
open Go.RowKit

/-- Lists of kind κ of which those ahead of i read so, and of list i the first m. -/
def Ph (κ : Nat) (k : IntKind) (e : TypeId) (fb : Nat → Int) (s : Wo) (i m : Nat) : Prop := ∀ j, j < s.c κ → ∃ ao n f, s.V κ j = .slice ao n n ∧ s.X κ j = zlf k e ao n f ∧ n ≤ 1073741824 ∧ (j < i → ∀ x, x < n → f x = fb j) ∧ (j = i → ∀ x, x < m → x < n → f x = fb j)
theorem Ph.start {κ : Nat} {k : IntKind} {e : TypeId} {s : Wo} (h : ∀ i, i < s.c κ → Li κ k e s i) (fb : Nat → Int) : Ph κ k e fb s 0 0 := by
  intro j hj
  obtain ⟨ao, n, h1, h2, h3⟩ := h j hj
  exact ⟨ao, n, _, h1, h2, h3, fun h => by omega, fun _ x hx => by omega⟩
theorem Ph.next {κ : Nat} {k : IntKind} {e : TypeId} {fb : Nat → Int} {s : Wo} {i m : Nat} (h : Ph κ k e fb s i m) {ao : Option Addr} {n : Nat} (hV : s.V κ i = .slice ao n n) (hm : n ≤ m) : Ph κ k e fb s (i + 1) 0 := by
  intro j hj
  obtain ⟨ao', n', f, h1, h2, h3, h4, h5⟩ := h j hj
  refine ⟨ao', n', f, h1, h2, h3, fun hji x hx => ?_, fun _ x hx => by omega⟩
  by_cases e : j = i
  · subst e
    rw [h1] at hV
    simp at hV
    exact h5 rfl x (by omega) hx
  · exact h4 (by omega) x hx
theorem zlf_al {k : IntKind} {e : TypeId} {ao : Option Addr} {n : Nat} {f : Nat → Int} {w : World} {x : Int} (h : (zlf k e ao n f).P w) (hf : ∀ i, i < n → f i = x) : Al k w ao n x := by
  rcases h with ⟨_, h⟩ | ⟨G, rfl, h⟩
  · exact .inl h
  · refine .inr ⟨G, 0, rfl, fun i hi => ?_⟩
    rw [Nat.zero_add, cell_of_row _ _ _ _ _ _ h]
    simp [ints, hi, hf i hi]
/-- One cell is written. -/
theorem At.fill {W w : World} {A : Nat} {s : Wo} {κ : Nat} {k : IntKind} {e : TypeId} {fb : Nat → Int} {i m : Nat} (h : At W w A s) (hκ : κ < 5) (hP : Ph κ k e fb s i m) (hi : i < s.c κ) {G n : Nat} (hV : s.V κ i = .slice (some ⟨G, 0, none⟩) n n) (hm : m < n) :
    ∃ s', At W (w.setCell ⟨G, m, none⟩ (.int k (fb i))) A s' ∧ Ph κ k e fb s' i (m + 1) ∧ s'.c = s.c ∧ s'.r = s.r ∧ s'.V = s.V ∧ s'.S = s.S ∧ (∀ κ' j, κ' ≠ κ → s'.X κ' j = s.X κ' j) := by
  obtain ⟨ao', n', f, h1, h2, h3, h4, h5⟩ := hP i hi
  rw [hV] at h1
  simp at h1
  obtain ⟨rfl, rfl⟩ := h1
  have hT := h.thing κ i hκ hi
  rw [h2] at hT
  rcases hT with ⟨hT, _⟩ | ⟨G', hG, hT⟩
  · simp at hT
  · simp at hG
    subst hG
    refine ⟨s.one κ i (zlf k e (some ⟨G, 0, none⟩) n (fun x => if x = m then fb i else f x)), h.one κ i hκ hi _ ((Kept.refl [G] w).setCell (p := ⟨G, m, none⟩) (.inl (by simp)) _) (by rw [h2]; exact fun x hx => .inl hx) (.inr ⟨G, rfl, ?_⟩) (by rw [h2]; exact fun x hx => .inl hx), fun j hj => ?_, rfl, rfl, rfl, rfl, fun κ' j hne => upd2_far _ _ _ _ _ _ (fun e => hne e.1)⟩
    · rw [heap_setCell_at hT]
      congr 2
      apply Array.ext'
      simp only [Array.toList_setIfInBounds]
      apply List.ext_getElem?
      intro x
      rw [List.getElem?_set]
      by_cases e1 : m = x
      · subst e1
        simp [ints, hm]
      · have e1' : x ≠ m := fun h => e1 h.symm
        by_cases hx : x < n
        · simp [ints, e1, e1', hx]
        · simp [ints, e1, hx]
    · by_cases e1 : j = i
      · subst e1
        refine ⟨some ⟨G, 0, none⟩, n, _, hV, upd2_at _ _ _ _, h3, fun h => by omega, fun _ x hx hxn => ?_⟩
        by_cases e2 : x = m
        · simp [e2]
        · simp only [e2, if_false]
          exact h5 rfl x (by omega) hxn
      · obtain ⟨ao', n', f', q1, q2, q3, q4, q5⟩ := hP j hj
        exact ⟨ao', n', f', q1, (upd2_far _ _ _ _ _ _ (fun e => e1 e.2)).trans q2, q3, q4, fun h => absurd h e1⟩

def fb3 (j : Nat) : Int := 1 + (j : Int) % 250
def fb4 (j : Nat) : Int := IntKind.u16.wrap (1000 + (j : Int))

theorem fb3_wrap (k : Nat) : IntKind.u8.wrap (1 + (k : Int) % 250) = fb3 k := by
  unfold fb3
  simp only [IntKind.wrap, IntKind.bits, IntKind.signed]; simp; omega
theorem ph_congr {κ : Nat} {k : IntKind} {e : TypeId} {fb : Nat → Int} {s s' : Wo} {i m : Nat} (h : Ph κ k e fb s i m) (h1 : s'.c = s.c) (h2 : s'.V = s.V) (h3 : ∀ j, s'.X κ j = s.X κ j) : Ph κ k e fb s' i m := by
  intro j hj
  rw [h1] at hj
  obtain ⟨ao, n, f, q1, q2, q3⟩ := h j hj
  exact ⟨ao, n, f, by rw [h2]; exact q1, by rw [h3]; exact q2, q3⟩
/-- The cell that is to be written is there. -/
theorem At.spot {W w : World} {A : Nat} {s : Wo} (κ : Nat) {k : IntKind} {e : TypeId} {fb : Nat → Int} {i m : Nat} (h : At W w A s) (hκ : κ < 5) (hP : Ph κ k e fb s i m) (hi : i < s.c κ) {ao : Option Addr} {n : Nat} (hV : s.V κ i = .slice ao n n) (x : Nat) (hx : x < n) :
    ∃ G, ao = some ⟨G, 0, none⟩ ∧ (∃ u, w.cell? ⟨G, x, none⟩ = some u) ∧ w.frozen? ⟨G, x, none⟩ = false := by
  obtain ⟨ao', n', f, h1, h2, h3, h4, h5⟩ := hP i hi
  rw [hV] at h1
  simp at h1
  obtain ⟨rfl, rfl⟩ := h1
  have hT := h.thing κ i hκ hi
  rw [h2] at hT
  rcases hT with ⟨_, hT⟩ | ⟨G', hG, hT⟩
  · omega
  · subst hG
    refine ⟨G', rfl, row_cell_at hT (by simp [ints]; exact hx), by simp [World.frozen?, hT]⟩

theorem ph_lists {W w : World} {A : Nat} {s : Wo} {κ : Nat} {k : IntKind} {e : TypeId} {fb : Nat → Int} {i m : Nat} (h : At W w A s) (hκ : κ < 5) (hP : Ph κ k e fb s i m) (j : Nat) (hj : j < s.c κ) (hi : j < i) :
    ∃ ao n, s.V κ j = .slice ao n n ∧ n ≤ 1073741824 ∧ (ao = none → n = 0) ∧ Al k w ao n (fb j) := by
  obtain ⟨ao, n, f, h1, h2, h3, h4, h5⟩ := hP j hj
  have hT := h.thing κ j hκ hj
  rw [h2] at hT
  refine ⟨ao, n, h1, h3, fun h => ?_, zlf_al hT (fun x hx => h4 hi x hx)⟩
  rcases hT with ⟨_, hT⟩ | ⟨G', hG, hT⟩
  · exact hT
  · rw [hG] at h; simp at h
/-- A list of lists that grows, each of which reads so; all in memory from N on. -/
def Mo (kd : IntKind) (e elt : TypeId) (fb : Nat → Int) (N : Nat) (w : World) (v : Value) (k : Nat) (lv : Nat → Value) : Prop :=
  w.ownsRow N elt 1 v k (vals lv k) ∧ ∀ j, j < k → ∃ n, n ≤ 1073741844 ∧ w.ownsRow N e 1 (lv j) n (List.replicate n (.int kd (fb j)))
theorem Mo.start (kd : IntKind) (e elt : TypeId) (fb : Nat → Int) (N : Nat) (w : World) (lv : Nat → Value) : Mo kd e elt fb N w (.slice none 0 0) 0 lv :=
  ⟨World.ownsRow_nil _ _ _ _, fun j hj => by omega⟩
theorem Mo.keep {kd : IntKind} {e elt : TypeId} {fb : Nat → Int} {N : Nat} {w w' : World} {v : Value} {k : Nat} {lv : Nat → Value} (h : Mo kd e elt fb N w v k lv) (hk : Kept [] w w') : Mo kd e elt fb N w' v k lv :=
  ⟨hk.row h.1 (by simp), fun j hj => by obtain ⟨n, h1, h2⟩ := h.2 j hj; exact ⟨n, h1, hk.row h2 (by simp)⟩⟩
theorem own_base {w : World} {B B' e n : Nat} {v : Value} {xs : List Value} (h : w.ownsRow B e 1 v n xs) (hB : B' ≤ B) : w.ownsRow B' e 1 v n xs := by
  refine ⟨h.1, ?_⟩
  rcases h.2 with h1 | ⟨g, cap, cur, h1, h2, h3⟩
  · exact .inl h1
  · exact .inr ⟨g, cap, cur, h1, by omega, h3⟩
theorem own_ne {w : World} {B B' e e' n n' : Nat} {V V' : Value} {xs xs' : List Value} (h : w.ownsRow B e 1 V n xs) (h' : w.ownsRow B' e' 1 V' n' xs') (hne : e ≠ e') : ∀ g, V'.ownBlock = some g → g ∉ V.ownBlock.toList := by
  intro g hg hm
  rw [mem_own] at hm
  rcases h.2 with ⟨rfl, _⟩ | ⟨g1, c1, cur1, rfl, _, hg1, _⟩
  · simp [Value.ownBlock] at hm
  · rcases h'.2 with ⟨rfl, _⟩ | ⟨g2, c2, cur2, rfl, _, hg2, _⟩
    · simp [Value.ownBlock] at hg
    · simp [Value.ownBlock] at hm hg
      subst hm; subst hg
      rw [hg1] at hg2
      simp at hg2
      exact hne hg2.2
theorem Mo.next {kd : IntKind} {e elt : TypeId} {fb : Nat → Int} {N : Nat} {w w' : World} {v v' : Value} {k : Nat} {lv : Nat → Value} {l : Value} {n : Nat} (h : Mo kd e elt fb N w v k lv) (hl : w.ownsRow N e 1 l n (List.replicate n (.int kd (fb k)))) (hn : n ≤ 1073741844) (hne : elt ≠ e)
    (ho : w'.ownsRow N elt 1 v' (k + 1) (vals lv k ++ [l])) (hk : Kept v.ownBlock.toList w w') : Mo kd e elt fb N w' v' (k + 1) (fun j => if j = k then l else lv j) := by
  refine ⟨?_, fun j hj => ?_⟩
  · have : vals lv k ++ [l] = vals (fun j => if j = k then l else lv j) (k + 1) := by
      unfold vals
      rw [List.range_succ, List.map_append, List.map_singleton, if_pos rfl]
      congr 1
      apply List.map_congr_left
      intro j hj
      have := List.mem_range.1 hj
      rw [if_neg (by omega)]
    rw [← this]
    exact ho
  · by_cases e1 : j = k
    · subst e1
      exact ⟨n, hn, by simp only [if_true]; exact hk.row hl (own_ne h.1 hl hne)⟩
    · obtain ⟨n', q1, q2⟩ := h.2 j (by omega)
      exact ⟨n', q1, by simp only [e1, if_false]; exact hk.row q2 (own_ne h.1 q2 hne)⟩
theorem own_al {k : IntKind} {w : World} {B e : Nat} {ao : Option Addr} {n cap : Nat} {x : Int} (h : w.ownsRow B e 1 (.slice ao n cap) n (List.replicate n (.int k x))) : Al k w ao n x := by
  rcases h.2 with ⟨_, h1⟩ | ⟨g, c1, cur, h1, _⟩
  · exact .inl h1
  · simp at h1
    obtain ⟨rfl, rfl⟩ := h1
    refine .inr ⟨g, 0, rfl, fun i hi => ?_⟩
    rw [Nat.zero_add, h.cellAt i (by omega)]
    simp [hi]
theorem own_cell {w : World} {B e : Nat} {ao : Option Addr} {n cap : Nat} {lv : Nat → Value} (h : w.ownsRow B e 1 (.slice ao n cap) n (vals lv n)) (k : Nat) (hk : k < n) : ∃ g, ao = some ⟨g, 0, none⟩ ∧ w.cell? ⟨g, k, none⟩ = some (lv k) := by
  rcases h.2 with ⟨_, h1⟩ | ⟨g, c1, cur, h1, _⟩
  · omega
  · simp at h1
    obtain ⟨rfl, rfl⟩ := h1
    exact ⟨g, rfl, by rw [h.cellAt k (by omega), vals_at _ _ _ hk]⟩
theorem al_keep {k : IntKind} {w w' : World} {ao : Option Addr} {n : Nat} {x : Int} (h : Al k w ao n x) (hk : Kept [] w w') : Al k w' ao n x := by
  rcases h with h | ⟨G, off, h1, h2⟩
  · exact .inl h
  · exact .inr ⟨G, off, h1, fun i hi => cell_keep hk (h2 i hi) (by simp)⟩
theorem Al.alloc {k : IntKind} {w : World} {ao : Option Addr} {n : Nat} {x : Int} (h : Al k w ao n x) (o : Obj) : Al k (w.alloc o) ao n x := al_keep h (alloc_kept _ _)
theorem al_olds {k : IntKind} {w : World} {ao : Option Addr} {n : Nat} {x : Int} (h : Al k w ao n x) : ∀ b, ao = some b → ∀ j u, (List.replicate n (Value.int k x))[j]? = some u → w.cell? (b.add j) = some u := by
  intro b hb j u hu
  rw [List.getElem?_replicate] at hu
  split at hu
  · rename_i hj
    simp at hu
    subst hu
    rcases h with h | ⟨G, off, h1, h2⟩
    · omega
    · rw [hb] at h1
      simp at h1
      subst h1
      have hadd : (⟨G, off, none⟩ : Addr).add j = ⟨G, off + j, none⟩ := by unfold Addr.add; split <;> simp_all
      rw [hadd]
      exact h2 j hj
  · simp at hu

set_option maxHeartbeats 16000000 in
set_option maxRecDepth 100000 in
theorem ends_any (W w : World) (A : Nat) (s : Wo) (b : Nat) (h : At W w A s) (hw : Wk s b) (hb : b ≤ 5864062014800) :
    Calls Try.prog 10 #[.pointer (some ⟨A, 0, none⟩)] w fun e w' => e = .returned (.bool true) ∧ Kept [] W w' := by
  have HH := Hid.mk h
  have HW := Hid.mk hw
  have hc3 := hw.le3
  have hc4 := hw.le4
  clear h hw
  go_enter Try.func10, Try.ntmps10
  go_wp2
  -- all lists of bytes are noughts
  have c3 := HH.out.cells.1 3 (by omega)
  obtain ⟨ao3, cp3, e3⟩ := HH.out.form 3 (by omega)
  rw [e3, HW.out.r] at c3
  have HE3 := Hid.mk e3
  have c4 := HH.out.cells.1 4 (by omega)
  obtain ⟨ao4, cp4, e4⟩ := HH.out.form 4 (by omega)
  rw [e4, HW.out.r] at c4
  have HE4 := Hid.mk e4
  clear e3 e4
  go_loop [3] (fun i => ∃ (k : Nat), k ≤ s.c 3 ∧ i = .int .i64 (k : Int)) (fun i => s.c 3 - (intOf i).toNat)
  case atStart => exact ⟨0, by omega, rfl⟩
  case round =>
    obtain ⟨k, hk, rfl⟩ := hrel
    by_cases hlt : k < s.c 3
    · obtain ⟨ao, n, v0, x0, hn⟩ := HW.out.bl k hlt
      obtain ⟨G0, p0, e0, y0, -⟩ := HH.out.val 3 k (by omega) (by rw [HW.out.r]; exact hlt)
      obtain ⟨rfl, rfl⟩ : ao3 = some ⟨G0, 0, none⟩ ∧ cp3 = p0 := by have := HE3.out.symm.trans e0; simp at this; exact this
      rw [v0] at y0
      have ix : (k : Int) < (s.c 3 : Int) := by omega
      have C := Hid.mk (full_any ao n n 0 w (zlf_al (by have := HH.out.thing 3 k (by omega) hlt; rw [x0] at this; exact this) (fun _ _ => rfl)) (by omega))
      clear v0 x0 e0
      go_wp2_with (go_at_call 17; refine C.out.mono ?_; rintro e w' ⟨rfl, rfl⟩)
      go_round
      case rel => exact ⟨k + 1, by omega, by go_num⟩
      case measure => simp [intOf]; omega
    · clear hk
      go_wp2
      go_loop [5] (fun i => ∃ (k : Nat), k ≤ s.c 4 ∧ i = .int .i64 (k : Int)) (fun i => s.c 4 - (intOf i).toNat)
      case atStart => exact ⟨0, by omega, rfl⟩
      case round =>
        clear hlt
        obtain ⟨k, hk, rfl⟩ := hrel
        by_cases hlt : k < s.c 4
        · obtain ⟨ao, n, v0, x0, hn⟩ := HW.out.sl k hlt
          obtain ⟨G0, p0, e0, y0, -⟩ := HH.out.val 4 k (by omega) (by rw [HW.out.r]; exact hlt)
          obtain ⟨rfl, rfl⟩ : ao4 = some ⟨G0, 0, none⟩ ∧ cp4 = p0 := by have := HE4.out.symm.trans e0; simp at this; exact this
          rw [v0] at y0
          have ix : (k : Int) < (s.c 4 : Int) := by omega
          have C := Hid.mk (fulls_any ao n n 0 w (zlf_al (by have := HH.out.thing 4 k (by omega) hlt; rw [x0] at this; exact this) (fun _ _ => rfl)) (by omega))
          clear v0 x0 e0
          go_wp2_with (go_at_call 16; refine C.out.mono ?_; rintro e w' ⟨rfl, rfl⟩)
          go_round
          case rel => exact ⟨k + 1, by omega, by go_num⟩
          case measure => simp [intOf]; omega
        · clear hk
          go_wp2
          clear hlt c3 c4
          have HP3 := Hid.mk (Ph.start HW.out.bl fb3)
          have HP4 := Hid.mk (Ph.start HW.out.sl fb4)
          have HC := Hid.mk (And.intro (HW.out.r 3) (HW.out.r 4))
          clear HW
          -- FILLBEGIN 3
          go_loopw [7] (fun i wr => ∃ (k : Nat) (s1 : Wo), k ≤ s.c 3 ∧ i = .int .i64 (k : Int) ∧ At W wr A s1 ∧ Ph 3 .u8 5 fb3 s1 k 0 ∧ s1.c = s.c ∧ s1.r = s.r ∧ s1.V = s.V ∧ s1.S = s.S ∧ (∀ κ' j, κ' ≠ 3 → s1.X κ' j = s.X κ' j)) (fun i _ => s.c 3 - (intOf i).toNat)
          case atStart => exact ⟨0, s, by omega, rfl, HH.out, HP3.out, rfl, rfl, rfl, rfl, fun _ _ _ => rfl⟩
          case round =>
            obtain ⟨k, s1, hk, rfl, H1, P1, q1, q2, q3, q4, q5⟩ := hrel
            have HH1 := Hid.mk H1
            have HP1 := Hid.mk P1
            have HQ := Hid.mk (And.intro q1 (And.intro q2 (And.intro q3 (And.intro q4 q5))))
            clear H1 P1 q1 q2 q3 q4 q5
            have c3 := HH1.out.cells.1 3 (by omega)
            rw [HQ.out.2.2.2.1, HE3.out, HC.out.1] at c3
            by_cases hlt : k < s.c 3
            · obtain ⟨ao, n, f0, v0, x0, hn, -, -⟩ := HP1.out k (by rw [HQ.out.1]; exact hlt)
              rw [HQ.out.2.2.1] at v0
              have HV := Hid.mk v0
              have hcv : IntKind.u8.wrap (1 + (k : Int) % 250) = fb3 k := fb3_wrap k
              clear v0 x0
              go_wp2
              go_loopw [8] (fun i wr => ∃ (m : Nat) (s2 : Wo), m ≤ n ∧ i = .int .i64 (m : Int) ∧ At W wr A s2 ∧ Ph 3 .u8 5 fb3 s2 k m ∧ s2.c = s.c ∧ s2.r = s.r ∧ s2.V = s.V ∧ s2.S = s.S ∧ (∀ κ' j, κ' ≠ 3 → s2.X κ' j = s.X κ' j)) (fun i _ => n - (intOf i).toNat)
              case atStart => exact ⟨0, s1, by omega, rfl, HH1.out, HP1.out, HQ.out.1, HQ.out.2.1, HQ.out.2.2.1, HQ.out.2.2.2.1, HQ.out.2.2.2.2⟩
              case round =>
                clear HH1 HP1 HQ c3
                obtain ⟨m, s2, hm, rfl, H2, P2, q1, q2, q3, q4, q5⟩ := hrel
                have HH2 := Hid.mk H2
                have HP2 := Hid.mk P2
                have HQ := Hid.mk (And.intro q1 (And.intro q2 (And.intro q3 (And.intro q4 q5))))
                clear H2 P2 q1 q2 q3 q4 q5
                have c3 := HH2.out.cells.1 3 (by omega)
                rw [HQ.out.2.2.2.1, HE3.out, HC.out.1] at c3
                obtain ⟨G0, p0, e0, y0, -⟩ := HH2.out.val 3 k (by omega) (by rw [HQ.out.2.1, HC.out.1]; exact hlt)
                rw [HQ.out.2.2.2.1, HQ.out.2.1] at e0
                obtain ⟨rfl, rfl⟩ : ao3 = some ⟨G0, 0, none⟩ ∧ cp3 = p0 := by have := HE3.out.symm.trans e0; simp at this; exact this
                rw [HQ.out.2.2.1, HV.out] at y0
                have ix : (k : Int) < (s.c 3 : Int) := by omega
                clear e0
                by_cases hmn : m < n
                · obtain ⟨G, hG, hc, hf⟩ := HH2.out.spot 3 (by omega) HP2.out (by rw [HQ.out.1]; exact hlt) (by rw [HQ.out.2.2.1]; exact HV.out) m hmn
                  subst hG
                  obtain ⟨u, hu⟩ := hc
                  have mx : (m : Int) < (n : Int) := by omega
                  have HF := Hid.mk (HH2.out.fill (by omega) HP2.out (by rw [HQ.out.1]; exact hlt) (by rw [HQ.out.2.2.1]; exact HV.out) hmn)
                  go_wp2
                  go_roundw
                  case rel =>
                    obtain ⟨s3, h1, h2, h3, h4, h5, h6, h7⟩ := HF.out
                    exact ⟨m + 1, s3, by omega, by go_num, h1, h2, h3.trans HQ.out.1, h4.trans HQ.out.2.1, h5.trans HQ.out.2.2.1, h6.trans HQ.out.2.2.2.1, fun κ' j hne => (h7 κ' j hne).trans (HQ.out.2.2.2.2 κ' j hne)⟩
                  case measure => simp [intOf]; omega
                · go_wp2
                  go_roundw
                  case rel => exact ⟨k + 1, s2, by omega, by go_num, HH2.out, HP2.out.next (by rw [HQ.out.2.2.1]; exact HV.out) (by omega), HQ.out.1, HQ.out.2.1, HQ.out.2.2.1, HQ.out.2.2.2.1, HQ.out.2.2.2.2⟩
                  case measure => simp [intOf]; omega
            · go_wp2
              clear c3 HP3 HH
              obtain rfl : k = s.c 3 := by omega
              clear hk hlt
              have HP3 := HP1
              have HH3 := HH1
              have HQ3 := HQ
              clear HP1 HH1 HQ
              -- FILLBEGIN 4
              go_loopw [9] (fun i wr => ∃ (k : Nat) (s9 : Wo), k ≤ s.c 4 ∧ i = .int .i64 (k : Int) ∧ At W wr A s9 ∧ Ph 4 .u16 50 fb4 s9 k 0 ∧ s9.c = s.c ∧ s9.r = s.r ∧ s9.V = s.V ∧ s9.S = s.S ∧ (∀ κ' j, κ' ≠ 4 → s9.X κ' j = s1.X κ' j)) (fun i _ => s.c 4 - (intOf i).toNat)
              case atStart => exact ⟨0, s1, by omega, rfl, HH3.out, ph_congr HP4.out HQ3.out.1 HQ3.out.2.2.1 (fun j => HQ3.out.2.2.2.2 4 j (by omega)), HQ3.out.1, HQ3.out.2.1, HQ3.out.2.2.1, HQ3.out.2.2.2.1, fun _ _ _ => rfl⟩
              case round =>
                obtain ⟨k, s9, hk, rfl, H1, P1, q1, q2, q3, q4, q5⟩ := hrel
                have HH1 := Hid.mk H1
                have HP1 := Hid.mk P1
                have HQ := Hid.mk (And.intro q1 (And.intro q2 (And.intro q3 (And.intro q4 q5))))
                clear H1 P1 q1 q2 q3 q4 q5
                have c3 := HH1.out.cells.1 4 (by omega)
                rw [HQ.out.2.2.2.1, HE4.out, HC.out.2] at c3
                by_cases hlt : k < s.c 4
                · obtain ⟨ao, n, f0, v0, x0, hn, -, -⟩ := HP1.out k (by rw [HQ.out.1]; exact hlt)
                  rw [HQ.out.2.2.1] at v0
                  have HV := Hid.mk v0
                  have hcv : IntKind.u16.wrap (1000 + (k : Int)) = fb4 k := rfl
                  clear v0 x0
                  go_wp2
                  go_loopw [10] (fun i wr => ∃ (m : Nat) (s2 : Wo), m ≤ n ∧ i = .int .i64 (m : Int) ∧ At W wr A s2 ∧ Ph 4 .u16 50 fb4 s2 k m ∧ s2.c = s.c ∧ s2.r = s.r ∧ s2.V = s.V ∧ s2.S = s.S ∧ (∀ κ' j, κ' ≠ 4 → s2.X κ' j = s1.X κ' j)) (fun i _ => n - (intOf i).toNat)
                  case atStart => exact ⟨0, s9, by omega, rfl, HH1.out, HP1.out, HQ.out.1, HQ.out.2.1, HQ.out.2.2.1, HQ.out.2.2.2.1, HQ.out.2.2.2.2⟩
                  case round =>
                    clear HH1 HP1 HQ c3
                    obtain ⟨m, s2, hm, rfl, H2, P2, q1, q2, q3, q4, q5⟩ := hrel
                    have HH2 := Hid.mk H2
                    have HP2 := Hid.mk P2
                    have HQ := Hid.mk (And.intro q1 (And.intro q2 (And.intro q3 (And.intro q4 q5))))
                    clear H2 P2 q1 q2 q3 q4 q5
                    have c3 := HH2.out.cells.1 4 (by omega)
                    rw [HQ.out.2.2.2.1, HE4.out, HC.out.2] at c3
                    obtain ⟨G0, p0, e0, y0, -⟩ := HH2.out.val 4 k (by omega) (by rw [HQ.out.2.1, HC.out.2]; exact hlt)
                    rw [HQ.out.2.2.2.1, HQ.out.2.1] at e0
                    obtain ⟨rfl, rfl⟩ : ao4 = some ⟨G0, 0, none⟩ ∧ cp4 = p0 := by have := HE4.out.symm.trans e0; simp at this; exact this
                    rw [HQ.out.2.2.1, HV.out] at y0
                    have ix : (k : Int) < (s.c 4 : Int) := by omega
                    clear e0
                    by_cases hmn : m < n
                    · obtain ⟨G, hG, hc, hf⟩ := HH2.out.spot 4 (by omega) HP2.out (by rw [HQ.out.1]; exact hlt) (by rw [HQ.out.2.2.1]; exact HV.out) m hmn
                      subst hG
                      obtain ⟨u, hu⟩ := hc
                      have mx : (m : Int) < (n : Int) := by omega
                      have HF := Hid.mk (HH2.out.fill (by omega) HP2.out (by rw [HQ.out.1]; exact hlt) (by rw [HQ.out.2.2.1]; exact HV.out) hmn)
                      go_wp2
                      go_roundw
                      case rel =>
                        obtain ⟨s3, h1, h2, h3, h4, h5, h6, h7⟩ := HF.out
                        exact ⟨m + 1, s3, by omega, by go_num, h1, h2, h3.trans HQ.out.1, h4.trans HQ.out.2.1, h5.trans HQ.out.2.2.1, h6.trans HQ.out.2.2.2.1, fun κ' j hne => (h7 κ' j hne).trans (HQ.out.2.2.2.2 κ' j hne)⟩
                      case measure => simp [intOf]; omega
                    · go_wp2
                      go_roundw
                      case rel => exact ⟨k + 1, s2, by omega, by go_num, HH2.out, HP2.out.next (by rw [HQ.out.2.2.1]; exact HV.out) (by omega), HQ.out.1, HQ.out.2.1, HQ.out.2.2.1, HQ.out.2.2.2.1, HQ.out.2.2.2.2⟩
                      case measure => simp [intOf]; omega
                · go_wp2
                  obtain rfl : k = s.c 4 := by omega
                  clear hk hlt c3
                  have HP4' := HP1
                  have HK9 := HQ
                  obtain ⟨w5, hw5⟩ : ∃ w5, w5 = wr := ⟨_, rfl⟩
                  rw [← hw5] at HH1 ⊢
                  clear hw5
                  have HL3 : Hid (∀ j, j < s.c 3 → ∃ ao n, s.V 3 j = .slice ao n n ∧ n ≤ 1073741824 ∧ (ao = none → n = 0) ∧ Al .u8 w5 ao n (fb3 j)) := Hid.mk (by
                    intro j hj
                    have h := ph_lists HH1.out (by omega) (ph_congr (s' := s9) HP3.out (HK9.out.1.trans HQ3.out.1.symm) (HK9.out.2.2.1.trans HQ3.out.2.2.1.symm) (fun j => HK9.out.2.2.2.2 3 j (by omega))) j (by rw [HK9.out.1]; exact hj) hj
                    rw [HK9.out.2.2.1] at h
                    exact h)
                  have HL4 : Hid (∀ j, j < s.c 4 → ∃ ao n, s.V 4 j = .slice ao n n ∧ n ≤ 1073741824 ∧ (ao = none → n = 0) ∧ Al .u16 w5 ao n (fb4 j)) := Hid.mk (by
                    intro j hj
                    have h := ph_lists HH1.out (by omega) HP4'.out j (by rw [HK9.out.1]; exact hj) hj
                    rw [HK9.out.2.2.1] at h
                    exact h)
                  have HR3 : Hid (∀ j, j < s.c 3 → ∃ G0, ao3 = some ⟨G0, 0, none⟩ ∧ w5.cell? ⟨G0, j, none⟩ = some (s.V 3 j)) := Hid.mk (by
                    intro j hj
                    obtain ⟨G0, p0, e0, y0, -⟩ := HH1.out.val 3 j (by omega) (by rw [HK9.out.2.1, HC.out.1]; exact hj)
                    rw [HK9.out.2.2.2.1] at e0
                    rw [HK9.out.2.2.1] at y0
                    have := HE3.out.symm.trans e0
                    simp at this
                    exact ⟨G0, this.1, y0⟩)
                  have HR4 : Hid (∀ j, j < s.c 4 → ∃ G0, ao4 = some ⟨G0, 0, none⟩ ∧ w5.cell? ⟨G0, j, none⟩ = some (s.V 4 j)) := Hid.mk (by
                    intro j hj
                    obtain ⟨G0, p0, e0, y0, -⟩ := HH1.out.val 4 j (by omega) (by rw [HK9.out.2.1, HC.out.2]; exact hj)
                    rw [HK9.out.2.2.2.1] at e0
                    rw [HK9.out.2.2.1] at y0
                    have := HE4.out.symm.trans e0
                    simp at this
                    exact ⟨G0, this.1, y0⟩)
                  have HB3 : Hid (w5.cell? ⟨A, 3, none⟩ = some (.slice ao3 (s.c 3) cp3)) := Hid.mk (by
                    have c3 := HH1.out.cells.1 3 (by omega)
                    rw [HK9.out.2.2.2.1, HE3.out, HC.out.1] at c3
                    exact c3)
                  have HB4 : Hid (w5.cell? ⟨A, 4, none⟩ = some (.slice ao4 (s.c 4) cp4)) := Hid.mk (by
                    have c3 := HH1.out.cells.1 4 (by omega)
                    rw [HK9.out.2.2.2.1, HE4.out, HC.out.2] at c3
                    exact c3)
                  have HKW : Hid (Kept [] W w5) := Hid.mk HH1.out.old
                  clear HP3 HP4 HP4' HP1 HQ HQ3 HK9 HH1 HH3 HE3 HE4 HC
                  -- MORE 3
                  go_loopw [11, 12] (fun v i wr => ∃ (k : Nat) (lv : Nat → Value), k ≤ s.c 3 ∧ i = .int .i64 (k : Int) ∧ Mo .u8 5 45 fb3 w5.heap.size wr v k lv ∧ Kept [] w5 wr) (fun _ i _ => s.c 3 - (intOf i).toNat)
                  case atStart => exact ⟨0, fun _ => .slice none 0 0, by omega, rfl, Mo.start _ _ _ _ _ _ _, Kept.refl _ _⟩
                  case round =>
                    obtain ⟨k, lv, hk, rfl, M0, K0⟩ := hrel
                    have HM := Hid.mk M0
                    have HK := Hid.mk K0
                    clear M0 K0
                    obtain ⟨wo, ewo⟩ : ∃ wo, wo = wr := ⟨_, rfl⟩
                    subst ewo
                    have HK5 : Hid (Kept [] w5 wo) := Hid.mk (HK.out)
                    have c3 := cell_keep HK5.out HB3.out (by simp)
                    by_cases hlt : k < s.c 3
                    · obtain ⟨ao, n, v0, hn, hnone, hal⟩ := HL3.out k hlt
                      obtain ⟨G0, eG, y0⟩ := HR3.out k hlt
                      subst eG
                      replace y0 := cell_keep HK5.out y0 (by simp)
                      rw [v0] at y0
                      have HAL := Hid.mk hal
                      have HNO := Hid.mk hnone
                      have ix : (k : Int) < (s.c 3 : Int) := by omega
                      have hcv : IntKind.u8.wrap (1 + (k : Int) % 250) = fb3 k := fb3_wrap k
                      obtain ⟨x, hx⟩ : ∃ x, fb3 k = x := ⟨_, rfl⟩
                      have HX := Hid.mk hx
                      rw [hx] at hcv HAL
                      clear v0 hal hnone hx
                      obtain ⟨aoM, cpM, rfl⟩ := row_form HM.out.1
                      go_wp2
                      go_loopw [13, 14] (fun l i wq => ∃ m : Nat, m ≤ 20 ∧ i = .int .i64 (m : Int) ∧ Kept [] wo wq ∧ ((m = 0 ∧ l = .slice ao n n) ∨ (0 < m ∧ wq.ownsRow wo.heap.size 5 1 l (n + m) (List.replicate (n + m) (.int .u8 x))))) (fun _ i _ => 20 - (intOf i).toNat)
                      case atStart => exact ⟨0, by omega, rfl, Kept.refl _ _, .inl ⟨rfl, rfl⟩⟩
                      case round =>
                        clear c3 y0
                        obtain ⟨m, hm, rfl, kq, hl⟩ := hrel
                        have HKQ := Hid.mk kq
                        clear kq
                        by_cases hm20 : m < 20
                        · obtain ⟨i0, ih, iz0, iz1, iz2⟩ := info_parts Try.info5
                          rcases hl with ⟨rfl, rfl⟩ | ⟨hm0, hown⟩
                          · go_wp2_with (at_builtin; refine wpList_append_grows _ rfl _ _ 45 rfl 5 i0 (.int .u8 0) 1 1 Try.underlying45 ih iz0 iz1 iz2 rfl (by decide) ao n n (List.replicate n (.int .u8 x)) (by rfl) (fun h => ⟨HNO.out h, HNO.out h⟩) (by simp) (al_olds ((al_keep HAL.out (HK5.out.trans HKQ.out)).alloc _)) ⟨wr.heap.size, 0, none⟩ 1 1 [.int .u8 x] (by rfl) rfl (cell_one_new _ _ _) (fun u hu => by simp at hu; subst hu; rfl) (by omega) (by unfold maxLen; omega) (by omega) ?_; intro v' w' ho hg; obtain ⟨aoN, cpN, rfl⟩ := row_form ho; have HO := Hid.mk ho; have HG := Hid.mk hg; clear ho hg)
                            go_roundw
                            case rel =>
                              refine ⟨1, by omega, rfl, (HKQ.out.alloc _).trans ((Kept.of_grown HG.out).mono (by simp)), .inr ⟨by omega, ?_⟩⟩
                              have h1 := HO.out
                              rw [show List.replicate n (Value.int .u8 x) ++ [.int .u8 x] = List.replicate (n + 1) (.int .u8 x) by rw [List.replicate_succ']] at h1
                              exact own_base h1 (by have := HKQ.out.size; simp; omega)
                            case measure => simp [intOf]
                          · obtain ⟨aoL, cpL, rfl⟩ := row_form hown
                            have HOw := Hid.mk hown
                            clear hown
                            go_wp2_with (at_builtin; refine wpList_app1 wr rfl _ _ 45 wo.heap.size 5 i0 (.int .u8 0) 1 Try.underlying45 ih iz0 iz1 iz2 rfl rfl (.slice aoL (n + m) cpL) (n + m) (List.replicate (n + m) (.int .u8 x)) (by rfl) HOw.out (.int .u8 x) (by rfl) rfl (HKQ.out.size) (by omega) (by omega) ?_; intro v' w' ho hk hl; obtain ⟨aoN, cpN, rfl⟩ := row_form ho; have HO := Hid.mk ho; have HG := Hid.mk hk; clear ho hk hl)
                            go_roundw
                            case rel =>
                              refine ⟨m + 1, by omega, by go_num, HKQ.out.step HG.out (fun z hz => .inr (HOw.out.lt z (mem_own.1 hz)).1), .inr ⟨by omega, ?_⟩⟩
                              have h1 := HO.out
                              rw [show List.replicate (n + m) (Value.int .u8 x) ++ [.int .u8 x] = List.replicate (n + m + 1) (.int .u8 x) by rw [List.replicate_succ']] at h1
                              exact h1
                            case measure => simp [intOf]; omega
                        · obtain ⟨j0, jh, jz0, jz1, jz2⟩ := info_parts Try.info45
                          have hown : wr.ownsRow wo.heap.size 5 1 u13 (n + m) (List.replicate (n + m) (.int .u8 x)) := by
                            rcases hl with ⟨h, _⟩ | ⟨_, h⟩
                            · omega
                            · exact h
                          clear hl
                          obtain ⟨aoL, cpL, rfl⟩ := row_form hown
                          have HOw := Hid.mk hown
                          have HMr := Hid.mk (HM.out.keep HKQ.out)
                          clear hown
                          go_wp2_with (at_builtin; refine wpList_app1 wr rfl _ _ 28 w5.heap.size 45 j0 (.slice none 0 0) 24 Try.underlying28 jh jz0 jz1 jz2 rfl rfl (.slice aoM k cpM) k (vals lv k) (by rfl) HMr.out.1 (.slice aoL (n + m) cpL) (by rfl) rfl (Nat.le_trans HK.out.size HKQ.out.size) (by omega) (by omega) ?_; intro v' w' ho hk hl; obtain ⟨aoN, cpN, rfl⟩ := row_form ho; have HO := Hid.mk ho; have HG := Hid.mk hk; clear ho hk hl)
                          go_roundw
                          case rel =>
                            exact ⟨k + 1, _, by omega, by go_num, HMr.out.next (own_base (by rw [HX.out]; exact HOw.out) HK.out.size) (by omega) (by decide) HO.out HG.out, (HK.out.trans HKQ.out).step HG.out (fun z hz => .inr (HMr.out.1.lt z (mem_own.1 hz)).1)⟩
                          case measure => simp [intOf]; omega
                    · go_wp2
                      obtain rfl : k = s.c 3 := by omega
                      clear hk hlt c3
                      obtain ⟨w6, ew6⟩ : ∃ w6, w6 = wo := ⟨_, rfl⟩
                      subst ew6
                      obtain ⟨lv3, elv3⟩ : ∃ lv3, lv3 = lv := ⟨_, rfl⟩
                      subst elv3
                      have HM3a := HM
                      obtain ⟨aoM3, cpM3, rfl⟩ := row_form HM3a.out.1
                      have HK6 := HK5
                      clear HM HK HK5
                      -- MORE 4
                      go_loopw [15, 16] (fun v i wr => ∃ (k : Nat) (lv : Nat → Value), k ≤ s.c 4 ∧ i = .int .i64 (k : Int) ∧ Mo .u16 50 41 fb4 w6.heap.size wr v k lv ∧ Kept [] w6 wr) (fun _ i _ => s.c 4 - (intOf i).toNat)
                      case atStart => exact ⟨0, fun _ => .slice none 0 0, by omega, rfl, Mo.start _ _ _ _ _ _ _, Kept.refl _ _⟩
                      case round =>
                        obtain ⟨k, lv, hk, rfl, M0, K0⟩ := hrel
                        have HM := Hid.mk M0
                        have HK := Hid.mk K0
                        clear M0 K0
                        obtain ⟨wo, ewo⟩ : ∃ wo, wo = wr := ⟨_, rfl⟩
                        subst ewo
                        have HK5 : Hid (Kept [] w5 wo) := Hid.mk (HK6.out.trans HK.out)
                        have c3 := cell_keep HK5.out HB4.out (by simp)
                        by_cases hlt : k < s.c 4
                        · obtain ⟨ao, n, v0, hn, hnone, hal⟩ := HL4.out k hlt
                          obtain ⟨G0, eG, y0⟩ := HR4.out k hlt
                          subst eG
                          replace y0 := cell_keep HK5.out y0 (by simp)
                          rw [v0] at y0
                          have HAL := Hid.mk hal
                          have HNO := Hid.mk hnone
                          have ix : (k : Int) < (s.c 4 : Int) := by omega
                          have hcv : IntKind.u16.wrap (1000 + (k : Int)) = fb4 k := rfl
                          obtain ⟨x, hx⟩ : ∃ x, fb4 k = x := ⟨_, rfl⟩
                          have HX := Hid.mk hx
                          rw [hx] at hcv HAL
                          clear v0 hal hnone hx
                          obtain ⟨aoM, cpM, rfl⟩ := row_form HM.out.1
                          go_wp2
                          go_loopw [17, 18] (fun l i wq => ∃ m : Nat, m ≤ 20 ∧ i = .int .i64 (m : Int) ∧ Kept [] wo wq ∧ ((m = 0 ∧ l = .slice ao n n) ∨ (0 < m ∧ wq.ownsRow wo.heap.size 50 1 l (n + m) (List.replicate (n + m) (.int .u16 x))))) (fun _ i _ => 20 - (intOf i).toNat)
                          case atStart => exact ⟨0, by omega, rfl, Kept.refl _ _, .inl ⟨rfl, rfl⟩⟩
                          case round =>
                            clear c3 y0
                            obtain ⟨m, hm, rfl, kq, hl⟩ := hrel
                            have HKQ := Hid.mk kq
                            clear kq
                            by_cases hm20 : m < 20
                            · obtain ⟨i0, ih, iz0, iz1, iz2⟩ := info_parts Try.info50
                              rcases hl with ⟨rfl, rfl⟩ | ⟨hm0, hown⟩
                              · go_wp2_with (at_builtin; refine wpList_append_grows _ rfl _ _ 41 rfl 50 i0 (.int .u16 0) 1 2 Try.underlying41 ih iz0 iz1 iz2 rfl (by decide) ao n n (List.replicate n (.int .u16 x)) (by rfl) (fun h => ⟨HNO.out h, HNO.out h⟩) (by simp) (al_olds ((al_keep HAL.out (HK5.out.trans HKQ.out)).alloc _)) ⟨wr.heap.size, 0, none⟩ 1 1 [.int .u16 x] (by rfl) rfl (cell_one_new _ _ _) (fun u hu => by simp at hu; subst hu; rfl) (by omega) (by unfold maxLen; omega) (by omega) ?_; intro v' w' ho hg; obtain ⟨aoN, cpN, rfl⟩ := row_form ho; have HO := Hid.mk ho; have HG := Hid.mk hg; clear ho hg)
                                go_roundw
                                case rel =>
                                  refine ⟨1, by omega, rfl, (HKQ.out.alloc _).trans ((Kept.of_grown HG.out).mono (by simp)), .inr ⟨by omega, ?_⟩⟩
                                  have h1 := HO.out
                                  rw [show List.replicate n (Value.int .u16 x) ++ [.int .u16 x] = List.replicate (n + 1) (.int .u16 x) by rw [List.replicate_succ']] at h1
                                  exact own_base h1 (by have := HKQ.out.size; simp; omega)
                                case measure => simp [intOf]
                              · obtain ⟨aoL, cpL, rfl⟩ := row_form hown
                                have HOw := Hid.mk hown
                                clear hown
                                go_wp2_with (at_builtin; refine wpList_app1 wr rfl _ _ 41 wo.heap.size 50 i0 (.int .u16 0) 2 Try.underlying41 ih iz0 iz1 iz2 rfl rfl (.slice aoL (n + m) cpL) (n + m) (List.replicate (n + m) (.int .u16 x)) (by rfl) HOw.out (.int .u16 x) (by rfl) rfl (HKQ.out.size) (by omega) (by omega) ?_; intro v' w' ho hk hl; obtain ⟨aoN, cpN, rfl⟩ := row_form ho; have HO := Hid.mk ho; have HG := Hid.mk hk; clear ho hk hl)
                                go_roundw
                                case rel =>
                                  refine ⟨m + 1, by omega, by go_num, HKQ.out.step HG.out (fun z hz => .inr (HOw.out.lt z (mem_own.1 hz)).1), .inr ⟨by omega, ?_⟩⟩
                                  have h1 := HO.out
                                  rw [show List.replicate (n + m) (Value.int .u16 x) ++ [.int .u16 x] = List.replicate (n + m + 1) (.int .u16 x) by rw [List.replicate_succ']] at h1
                                  exact h1
                                case measure => simp [intOf]; omega
                            · obtain ⟨j0, jh, jz0, jz1, jz2⟩ := info_parts Try.info41
                              have hown : wr.ownsRow wo.heap.size 50 1 u17 (n + m) (List.replicate (n + m) (.int .u16 x)) := by
                                rcases hl with ⟨h, _⟩ | ⟨_, h⟩
                                · omega
                                · exact h
                              clear hl
                              obtain ⟨aoL, cpL, rfl⟩ := row_form hown
                              have HOw := Hid.mk hown
                              have HMr := Hid.mk (HM.out.keep HKQ.out)
                              clear hown
                              go_wp2_with (at_builtin; refine wpList_app1 wr rfl _ _ 29 w6.heap.size 41 j0 (.slice none 0 0) 24 Try.underlying29 jh jz0 jz1 jz2 rfl rfl (.slice aoM k cpM) k (vals lv k) (by rfl) HMr.out.1 (.slice aoL (n + m) cpL) (by rfl) rfl (Nat.le_trans HK.out.size HKQ.out.size) (by omega) (by omega) ?_; intro v' w' ho hk hl; obtain ⟨aoN, cpN, rfl⟩ := row_form ho; have HO := Hid.mk ho; have HG := Hid.mk hk; clear ho hk hl)
                              go_roundw
                              case rel =>
                                exact ⟨k + 1, _, by omega, by go_num, HMr.out.next (own_base (by rw [HX.out]; exact HOw.out) HK.out.size) (by omega) (by decide) HO.out HG.out, (HK.out.trans HKQ.out).step HG.out (fun z hz => .inr (HMr.out.1.lt z (mem_own.1 hz)).1)⟩
                              case measure => simp [intOf]; omega
                        · go_wp2
                          obtain rfl : k = s.c 4 := by omega
                          clear hk hlt c3
                          obtain ⟨w7, ew7⟩ : ∃ w7, w7 = wo := ⟨_, rfl⟩
                          subst ew7
                          have HM4 := HM
                          obtain ⟨aoM4, cpM4, rfl⟩ := row_form HM4.out.1
                          have HM3 := Hid.mk (HM3a.out.keep HK.out)
                          have HK7 := HK5
                          clear HM HK HM3a HK6 HK5
                          -- CHECK 3
                          go_loop [19] (fun i => ∃ (k : Nat), k ≤ s.c 3 ∧ i = .int .i64 (k : Int)) (fun i => s.c 3 - (intOf i).toNat)
                          case atStart => exact ⟨0, by omega, rfl⟩
                          case round =>
                            obtain ⟨k, hk, rfl⟩ := hrel
                            have c3 := cell_keep HK7.out HB3.out (by simp)
                            by_cases hlt : k < s.c 3
                            · obtain ⟨ao, n, v0, hn, -, hal⟩ := HL3.out k hlt
                              obtain ⟨G0, eG, y0⟩ := HR3.out k hlt
                              subst eG
                              replace y0 := cell_keep HK7.out y0 (by simp)
                              rw [v0] at y0
                              obtain ⟨n', hn', ho'⟩ := HM3.out.2 k hlt
                              obtain ⟨aoL, cpL, eL⟩ := row_form ho'
                              rw [eL] at ho'
                              obtain ⟨gM, eM, yM⟩ := own_cell HM3.out.1 k hlt
                              subst eM
                              rw [eL] at yM
                              have ix : (k : Int) < (s.c 3 : Int) := by omega
                              have hcv : IntKind.u8.wrap (1 + (k : Int) % 250) = fb3 k := fb3_wrap k
                              have C1 := Hid.mk (full_any ao n n (fb3 k) w7 (al_keep hal HK7.out) (by omega))
                              have C2 := Hid.mk (full_any aoL n' cpL (fb3 k) w7 (own_al ho') (by omega))
                              clear v0 hal eL ho'
                              generalize fb3 k = x at *
                              go_wp2_with (fail)
                              refine C1.out.mono ?_
                              rintro e w' ⟨rfl, hw'⟩
                              obtain rfl := hw'.symm
                              go_wp2_with (fail)
                              refine C2.out.mono ?_
                              rintro e w' ⟨rfl, hw''⟩
                              obtain rfl := hw''.symm
                              go_wp2
                              go_round
                              case rel => exact ⟨k + 1, by omega, by go_num⟩
                              case measure => simp [intOf]; omega
                            · go_wp2
                              clear hk hlt c3
                              -- CHECK 4
                              go_loop [22] (fun i => ∃ (k : Nat), k ≤ s.c 4 ∧ i = .int .i64 (k : Int)) (fun i => s.c 4 - (intOf i).toNat)
                              case atStart => exact ⟨0, by omega, rfl⟩
                              case round =>
                                obtain ⟨k, hk, rfl⟩ := hrel
                                have c3 := cell_keep HK7.out HB4.out (by simp)
                                by_cases hlt : k < s.c 4
                                · obtain ⟨ao, n, v0, hn, -, hal⟩ := HL4.out k hlt
                                  obtain ⟨G0, eG, y0⟩ := HR4.out k hlt
                                  subst eG
                                  replace y0 := cell_keep HK7.out y0 (by simp)
                                  rw [v0] at y0
                                  obtain ⟨n', hn', ho'⟩ := HM4.out.2 k hlt
                                  obtain ⟨aoL, cpL, eL⟩ := row_form ho'
                                  rw [eL] at ho'
                                  obtain ⟨gM, eM, yM⟩ := own_cell HM4.out.1 k hlt
                                  subst eM
                                  rw [eL] at yM
                                  have ix : (k : Int) < (s.c 4 : Int) := by omega
                                  have hcv : IntKind.u16.wrap (1000 + (k : Int)) = fb4 k := rfl
                                  have C1 := Hid.mk (fulls_any ao n n (fb4 k) w7 (al_keep hal HK7.out) (by omega))
                                  have C2 := Hid.mk (fulls_any aoL n' cpL (fb4 k) w7 (own_al ho') (by omega))
                                  clear v0 hal eL ho'
                                  generalize fb4 k = x at *
                                  go_wp2_with (fail)
                                  refine C1.out.mono ?_
                                  rintro e w' ⟨rfl, hw'⟩
                                  obtain rfl := hw'.symm
                                  go_wp2_with (fail)
                                  refine C2.out.mono ?_
                                  rintro e w' ⟨rfl, hw''⟩
                                  obtain rfl := hw''.symm
                                  go_wp2
                                  go_round
                                  case rel => exact ⟨k + 1, by omega, by go_num⟩
                                  case measure => simp [intOf]; omega
                                · go_wp2
                                  go_ret
                                  exact ⟨rfl, HKW.out.trans HK7.out⟩
end Go.Proofs.Ytplpjpijmnglfaa
