import Derived.Test.YtodlkpcbkilglaaDoorWv
import Derived.Test.YtodlkpcbkilglaaDoorIt
import Derived.ArgAppend
namespace Go.Proofs.YtodlkpcbkilglaaDoor
open Go.RowKit Go.Shelf
attribute [local go_sem] Oper.semAt_some

/-- Rows of bytes, one behind the other: how many, and which. -/
def ctL (rl : Nat → Nat) : Nat → Nat
  | 0 => 0
  | k + 1 => ctL rl k + rl k
def ctB (rl : Nat → Nat) (rb : Nat → Nat → Nat) : Nat → List Value
  | 0 => []
  | k + 1 => ctB rl rb k ++ fl (fun t => .int .u8 (rb k t : Int)) (rl k)
theorem ctB_length (rl : Nat → Nat) (rb : Nat → Nat → Nat) (k : Nat) : (ctB rl rb k).length = ctL rl k := by
  induction k with
  | zero => rfl
  | succ k ih => rw [ctB, List.length_append, ih, fl_length, ctL]
theorem ctL_mono (rl : Nat → Nat) {a b : Nat} (h : a ≤ b) : ctL rl a ≤ ctL rl b := by
  induction b with
  | zero => obtain rfl : a = 0 := by omega
            exact Nat.le_refl _
  | succ b ih =>
    by_cases e : a = b + 1
    · subst e; exact Nat.le_refl _
    · rw [ctL]; exact Nat.le_trans (ih (by omega)) (Nat.le_add_right _ _)

/-- Bytes are put behind a row that has room for them. -/
theorem app_room (u : World) (G n cap m c : Nat) (g : Nat) (xs : List Value) (f : Nat → Nat) (ho : u.ownsRow 0 5 1 (.slice (some ⟨G, 0, none⟩) n cap) n xs) (hb : Cb u g m f) (hr : n + m ≤ cap) :
    ∃ u', Sem.run Tryd.prog (Builtin.append_ #[37, 37] 37 #[.slice (some ⟨G, 0, none⟩) n cap, .slice (some ⟨g, 0, none⟩) m c]) u = .ok (.slice (some ⟨G, 0, none⟩) (n + m) cap) u' ∧
      u'.ownsRow 0 5 1 (.slice (some ⟨G, 0, none⟩) (n + m) cap) (n + m) (xs ++ fl (fun t => .int .u8 (f t : Int)) m) ∧ Kept [G] u u' := by
  obtain ⟨j0, gi, gz0, gz1, gz2⟩ := info_parts Bt.Tryd.info5
  rcases ho.2 with ⟨e, _⟩ | ⟨g', cap', cur, e, hbg, hg, hnc, hcm, hcs, htake⟩
  · cases e
  · cases e
    have hl : (fl (fun t => Value.int .u8 (f t : Int)) m).length = m * j0.size := by rw [fl_length, gz1, Nat.mul_one]
    have hl1 : (fl (fun t => Value.int .u8 (f t : Int)) m).length = m := fl_length _ _
    have hx : xs.length = n := by rw [ho.1, Nat.mul_one]
    have hc1 : cur.size = cap := by rw [hcs, Nat.mul_one]
    rw [Nat.mul_one] at htake
    have hnews : ∀ j v, (fl (fun t => Value.int .u8 (f t : Int)) m)[j]? = some v → u.cell? ((⟨g, 0, none⟩ : Addr).add j) = some v := by
      intro j v hj
      have hjm : j < m := by
        rcases Nat.lt_or_ge j m with h | h
        · exact h
        · rw [List.getElem?_eq_none (by rw [fl_length]; exact h)] at hj; cases hj
      rw [fl_at _ _ _ hjm] at hj
      cases hj
      rw [show (⟨g, 0, none⟩ : Addr).add j = ⟨g, 0 + j, none⟩ by unfold Addr.add; split <;> simp_all, Nat.zero_add]
      exact hb.at hjm
    have h1 : ∀ v ∈ fl (fun t => Value.int .u8 (f t : Int)) m, v.oneCell' = true := by
      intro v hv
      simp only [fl, List.mem_map] at hv
      obtain ⟨i, _, rfl⟩ := hv
      rfl
    have hr2 := run_append_room (P := Tryd.prog) u 37 37 5 j0 Tryd.underlying37 gi G n cap cur hg ⟨g, 0, none⟩ m c _ hl hnews h1 hr (by rw [gz1, Nat.mul_one, hl1, hc1]; exact hr)
    refine ⟨_, hr2, ⟨by rw [List.length_append, hx, hl1, Nat.mul_one], .inr ⟨G, cap, _, rfl, Nat.zero_le _, setRow_heap u G cur _ 5 _ hg, hr, hcm, ?_, ?_⟩⟩, ⟨rfl, rfl, rfl, by simp [World.setRow], fun k _ hk => setRow_other u G k _ (by simpa using hk)⟩⟩
    · simp only [List.size_toArray, List.length_append, List.length_take, List.length_drop, Array.length_toList, fl_length]
      rw [gz1]
      omega
    · rw [gz1, Nat.mul_one, Nat.mul_one, htake]
      have : (xs ++ fl (fun t => Value.int .u8 (f t : Int)) m).length = n + m := by rw [List.length_append, hx, hl1]
      rw [← this]
      exact List.take_left
end Go.Proofs.YtodlkpcbkilglaaDoor
