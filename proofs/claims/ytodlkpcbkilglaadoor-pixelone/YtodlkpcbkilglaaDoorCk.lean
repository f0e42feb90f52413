import Derived.Test.YtodlkpcbkilglaaDoorCl
import Derived.Lib.SliceRun
namespace Go.Proofs.YtodlkpcbkilglaaDoor
open Go.RowKit Go.Shelf

theorem eql_some (w : World) (a : Addr) (n c : Nat) : Sem.run Tryd.prog (binOp .eql 37 (.slice (some a) n c) (.slice none 0 0)) w = .ok (.bool false) w := by
  exact Lib.run_eql_slice_nil w 37 5 (some a) n c 0 0 Tryd.underlying37
set_option maxHeartbeats 4000000 in
set_option maxRecDepth 1000000 in
/-- slices.Clone of bytes. -/
theorem clone_any (g n c : Nat) (f : Nat → Nat) (w : World) (h : Cb w g n f) (hn : n ≤ 1000000000) :
    Calls Tryd.prog 100 #[.slice (some ⟨g, 0, none⟩) n c] w fun e w' => ∃ g1 c1, e = .returned (.slice (some ⟨g1, 0, none⟩) n c1) ∧ w.heap.size ≤ g1 ∧ g1 < w'.heap.size ∧ n ≤ c1 ∧ Cb w' g1 n f ∧ Kept [] w w' := by
  obtain ⟨j0, gi, gz0, gz1, gz2⟩ := info_parts Bt.Tryd.info5
  have ho : (w.alloc (.cells #[] 5)).ownsRow w.heap.size 5 1 (.slice (some ⟨w.heap.size, 0, none⟩) 0 0) 0 ([] : List Value) := World.ownsRow_lit w #[] 0 (Nat.le_refl _) (by decide) rfl
  have HO := Hid.mk ho
  have hq := eql_some w ⟨g, 0, none⟩ n c
  have H0 := Hid.mk h
  clear ho h
  go_enter Tryd.func100, Tryd.ntmps100
  go_wp2_with (at_builtin; refine wpList_append_own_at _ rfl _ _ 37 rfl w.heap.size 5 j0 (.int .u8 0) 1 1 Tryd.underlying37 gi gz0 gz1 gz2 rfl (by decide) _ 0 [] rfl HO.out ⟨g, 0, none⟩ n c (fl (fun i => .int .u8 (f i : Int)) n) rfl ?c1 ?c2 ?c3 ?c4 ?c5 ?c6 ?_)
  case c1 => rw [fl_length, Nat.mul_one]
  case c2 =>
    intro j x hj
    have hjm : j < n := by
      rcases Nat.lt_or_ge j n with h | h
      · exact h
      · rw [List.getElem?_eq_none (by rw [fl_length]; exact h)] at hj; cases hj
    rw [fl_at _ _ _ hjm] at hj
    cases hj
    rw [show (⟨g, 0, none⟩ : Addr).add j = ⟨g, 0 + j, none⟩ by unfold Addr.add; split <;> simp_all, Nat.zero_add]
    exact cell_keep (alloc_kept w _) (H0.out.at hjm) (by simp)
  case c3 =>
    intro x hx
    simp only [fl, List.mem_map] at hx
    obtain ⟨i, _, rfl⟩ := hx
    rfl
  case c4 => unfold maxLen; omega
  case c5 => omega
  case c6 => rw [World.size_alloc]; omega
  intro v' w' h2 h3 h4 _
  have hk : Kept [] w w' := (alloc_kept w _).step (Kept.of_grown h3) (fun x hx => by simp [Value.ownBlock] at hx; subst hx; exact .inr (Nat.le_refl _))
  rcases h2.2 with ⟨e, h0⟩ | ⟨g1, cap, cur, e, hb, hg, hc, _, hcs, htk⟩
  · exact absurd e h4
  · subst e
    have HR : Hid (w.heap.size ≤ g1 ∧ g1 < w'.heap.size ∧ n ≤ cap ∧ Cb w' g1 n f ∧ Kept [] w w') := Hid.mk ⟨hb, lt_of_block hg, hc, ⟨cur, hg, by omega, fun i hi => by
      have hcc := h2.cells (g := g1) rfl i _ (fl_at _ n i hi)
      rw [show (⟨g1, 0, none⟩ : Addr).add i = ⟨g1, 0 + i, none⟩ by unfold Addr.add; split <;> simp_all, Nat.zero_add] at hcc
      rw [cell_of_row _ _ _ _ _ _ hg] at hcc
      exact hcc⟩, hk⟩
    clear h2 h3 h4 hb hg hc hcs htk hk
    go_wp2
    go_ret
    exact ⟨g1, cap, rfl, HR.out⟩

set_option maxHeartbeats 4000000 in
set_option maxRecDepth 1000000 in
/-- The same bytes, the last one first. -/
theorem backB_any (g n c : Nat) (f : Nat → Nat) (w : World) (h : Cb w g n f) (hn : n ≤ 1000000000) :
    Calls Tryd.prog 82 #[.slice (some ⟨g, 0, none⟩) n c] w fun e w' => ∃ g1 c1, e = .returned (.slice (some ⟨g1, 0, none⟩) n c1) ∧ w.heap.size ≤ g1 ∧ g1 < w'.heap.size ∧ n ≤ c1 ∧ Cb w' g1 n (fun t => f (n - 1 - t)) ∧ Kept [] w w' := by
  have C1 := Hid.mk (clone_any g n c f w h hn)
  clear h
  go_enter Tryd.func82, Tryd.ntmps82
  go_wp2_with (go_at_call 100; refine C1.out.mono ?_; rintro e w2 ⟨g1, c1, rfl, hg1, hl1, hc1, hb1, hk1⟩)
  have C2 := Hid.mk (reverse_any g1 n c1 f w2 hb1 hn)
  have HH := Hid.mk (And.intro hg1 (And.intro hl1 (And.intro hc1 hk1)))
  clear hg1 hl1 hc1 hk1 hb1
  go_wp2_with (go_at_call 101; refine C2.out.mono ?_; rintro e w3 ⟨⟨v, rfl⟩, hb2, hk2⟩)
  go_ret
  obtain ⟨a1, a2, a3, a4⟩ := HH.out
  exact ⟨g1, c1, rfl, a1, Nat.lt_of_lt_of_le a2 hk2.size, a3, hb2, a4.step hk2 (fun x hx => by simp at hx; subst hx; exact .inr a1)⟩

/-- A byte of a number, by its place from the back. -/
theorem big_at (n : Nat) : ∀ (X i : Nat), i < n → (Bt.big n X)[i]? = some (X / 256 ^ (n - 1 - i) % 256) := by
  induction n with
  | zero => intro X i h; omega
  | succ n ih =>
    intro X i h
    rw [Bt.big]
    rcases Nat.lt_or_ge i n with h1 | h1
    · rw [List.getElem?_append_left (by rw [Bt.big_length]; exact h1), ih _ _ h1, Nat.div_div_eq_div_mul, ← Nat.pow_succ', show (n - 1 - i).succ = n + 1 - 1 - i by omega]
    · have : i = n := by omega
      subst this
      rw [List.getElem?_append_right (by rw [Bt.big_length]; omega), Bt.big_length, Nat.sub_self, Nat.add_sub_cancel, Nat.sub_self]
      simp
theorem Cb.of_list {w : World} {g : Nat} {X : List Nat} (h : w.heap[g]? = some (.cells (X.map Bt.byt).toArray 5 (0, 0))) (f : Nat → Nat) (n : Nat) (hn : n ≤ X.length) (hf : ∀ i, i < n → X[i]? = some (f i)) : Cb w g n f :=
  ⟨_, h, by simpa using hn, fun i hi => by simp [hf i hi, Bt.byt]⟩
theorem bkN_div (f : Nat → Nat) (hf : ∀ i, f i < 65536) (n : Nat) : ∀ (j k : Nat), j ≤ k → bkN f n k / 65536 ^ j = bkN f n (k - j) := by
  intro j
  induction j with
  | zero => intro k _; simp
  | succ j ih =>
    intro k hk
    obtain ⟨k, rfl⟩ : ∃ m, k = m + 1 := ⟨k - 1, by omega⟩
    rw [Nat.pow_succ', ← Nat.div_div_eq_div_mul, show bkN f n (k + 1) / 65536 = bkN f n k by rw [bkN]; have := hf (n - 1 - k); omega, ih k (by omega), show k + 1 - (j + 1) = k - j by omega]
/-- A sample's bytes, the lowest one first. -/
theorem bkN_byte (f : Nat → Nat) (hf : ∀ i, f i < 65536) (n t : Nat) (ht : t < 2 * n) : bkN f n n / 256 ^ t % 256 = f (t / 2) / 256 ^ (t % 2) % 256 := by
  have h1 : 256 ^ t = 65536 ^ (t / 2) * 256 ^ (t % 2) := by
    rw [show 65536 = 256 ^ 2 from rfl, ← Nat.pow_mul, ← Nat.pow_add]
    congr 1
    omega
  rw [h1, ← Nat.div_div_eq_div_mul, bkN_div f hf n _ n (by omega)]
  obtain ⟨m, hm⟩ : ∃ m, n - t / 2 = m + 1 := ⟨n - t / 2 - 1, by omega⟩
  rw [hm, bkN, show n - 1 - m = t / 2 by omega]
  have hx := hf (t / 2)
  rcases Nat.mod_two_eq_zero_or_one t with h | h
  · rw [h]; omega
  · rw [h]; omega

/-- A row of samples, two bytes each, the lower one first. -/
def plB (f : Nat → Nat) (t : Nat) : Nat := f (t / 2) / 256 ^ (t % 2) % 256
theorem writeP (g1 o1 cr n c : Nat) (ao : Option Addr) (f : Nat → Nat) (w : World) (hrow : w.cell? ⟨g1, o1, none⟩ = some (.slice ao n c)) (hr : Rd w ao n f) (hf : ∀ i, f i < 65536) (hn : n ≤ 4096) :
    Calls Tryd.prog 61 #[.slice (some ⟨g1, o1, none⟩) 1 cr] w fun e w' => ∃ g c1, e = .returned (.slice (some ⟨g, 0, none⟩) (2 * n) c1) ∧ w.heap.size ≤ g ∧ Cb w' g (2 * n) (plB f) ∧ Kept [] w w' := by
  refine (writeP_any g1 o1 cr n c ao f w hrow hr hf hn (fun u v => ∃ g c1, v = .slice (some ⟨g, 0, none⟩) (2 * n) c1 ∧ w.heap.size + 3 < g ∧ Cb u g (2 * n) (plB f)) ?_ ?_).mono ?_
  · intro u X g hX hb hsz
    have e1 : (16 * n + 7) / 8 = 2 * n := by omega
    rw [e1] at hX ⊢
    have hcb : Cb u g (2 * n) (fun i => bkN f n n / 256 ^ (2 * n - 1 - i) % 256) := Cb.of_list hb _ _ (by rw [hX, Bt.big_length]; exact Nat.le_refl _) (fun i hi => by
      rw [hX, show 8 * (2 * n) - 16 * n = 0 by omega, Nat.pow_zero, Nat.mul_one, big_at _ _ _ hi])
    refine (backB_any g (2 * n) (2 * n) _ u hcb (by omega)).mono ?_
    rintro e u' ⟨g2, c2, rfl, h1, h2, h3, h4, h5⟩
    refine ⟨_, rfl, ⟨g2, c2, rfl, by omega, h4.congr (fun t ht => ?_)⟩, h5⟩
    show bkN f n n / 256 ^ (2 * n - 1 - (2 * n - 1 - t)) % 256 = _
    rw [show 2 * n - 1 - (2 * n - 1 - t) = t by omega, bkN_byte f hf n t ht]
    rfl
  · rintro u v o ⟨g, c1, rfl, h1, h2⟩
    exact ⟨g, c1, rfl, h1, h2.keep ((Kept.refl [w.heap.size + 3] u).putObj o (.inl (by simp))) (by simp; omega)⟩
  · rintro e w' ⟨v, rfl, ⟨g, c1, rfl, h1, h2⟩, h3⟩
    exact ⟨g, c1, rfl, by omega, h2, h3⟩
end Go.Proofs.YtodlkpcbkilglaaDoor
