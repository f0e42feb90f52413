import Derived.Test.YtiojcfffhcipnaaR
namespace Go.Proofs.Ytiojcfffhcipnaa
open Go.RowKit

/-- The n bits of bytes behind the first t, as a number. -/
def nextN (l : List Nat) (t n : Nat) : Nat := num l / 2 ^ (8 * l.length - (t + n)) % 2 ^ n

theorem num_mid (l : List Nat) (a b : Nat) (hab : a ≤ b) (hb : b ≤ l.length) (hl : Byts l) : num ((l.drop a).take (b - a)) = num l / 256 ^ (l.length - b) % 256 ^ (b - a) := by
  have h1 : l = l.take a ++ ((l.drop a).take (b - a) ++ l.drop b) := by
    have e : (l.drop a).drop (b - a) = l.drop b := by rw [List.drop_drop]; congr 1; omega
    rw [← e, List.take_append_drop, List.take_append_drop]
  have hm : ((l.drop a).take (b - a)).length = b - a := by simp; omega
  have hd : (l.drop b).length = l.length - b := by simp
  have l1 : num (l.drop b) < 256 ^ (l.length - b) := by rw [← hd]; exact num_lt _ (fun x hx => hl x (List.mem_of_mem_drop hx))
  have l2 : num ((l.drop a).take (b - a)) < 256 ^ (b - a) := by
    rw [← hm, hm]
    conv => rhs; rw [← hm]
    exact num_lt _ (fun x hx => hl x (List.mem_of_mem_drop (List.mem_of_mem_take hx)))
  have h2 : num l = (num (l.take a) * 256 ^ (b - a) + num ((l.drop a).take (b - a))) * 256 ^ (l.length - b) + num (l.drop b) := by
    conv => lhs; rw [h1]
    rw [num_append, num_append, List.length_append, hm, hd, Nat.pow_add, Nat.add_mul, ← Nat.mul_assoc, Nat.add_assoc]
  rw [h2, Nat.add_comm _ (num (l.drop b)), Nat.add_mul_div_right _ _ (Nat.pow_pos (by decide)), Nat.div_eq_of_lt l1, Nat.zero_add, Nat.mul_add_mod_self_right, Nat.mod_eq_of_lt l2]

theorem next_eq (l : List Nat) (t n : Nat) (hl : Byts l) (h : t + n ≤ 8 * l.length) :
    num ((l.drop (t / 8)).take ((t + n + 7) / 8 - t / 8)) / 2 ^ (8 * ((t + n + 7) / 8) - (t + n)) % 2 ^ n = nextN l t n := by
  rw [num_mid l _ _ (by omega) (by omega) hl, pow256, pow256, nextN]
  generalize hb : (t + n + 7) / 8 = b at *
  generalize ha : t / 8 = a at *
  have e1 : 8 * (b - a) = (8 * b - (t + n)) + (t + n - 8 * a) := by omega
  rw [e1, Nat.pow_add, Nat.mod_mul_right_div_self, Nat.div_div_eq_div_mul, ← Nat.pow_add]
  have e2 : 8 * (l.length - b) + (8 * b - (t + n)) = 8 * l.length - (t + n) := by omega
  rw [e2, Nat.mod_mod_of_dvd]
  exact Nat.pow_dvd_pow 2 (by omega)

/-- The reader whose struct is block B, over the bytes l in block g, of which t bits are taken. -/
def ReaderAt (w : World) (B g : Nat) (l : List Nat) (t : Nat) : Prop :=
  w.heap[B]? = some (.cells #[.slice (some ⟨g, 0, none⟩) l.length l.length, .int .i64 (t : Int)] 98765 (0, 0)) ∧ w.heap[g]? = some (.cells (l.map byt).toArray 5 (0, 0)) ∧ Byts l ∧ t ≤ 8 * l.length ∧ l.length ≤ 281474976710656

theorem cells_two {w : World} {B : Nat} {a b : Value} {t : TypeId} (h : w.heap[B]? = some (.cells #[a, b] t (0, 0))) :
    w.cell? ⟨B, 0, none⟩ = some a ∧ w.cell? ⟨B, 1, none⟩ = some b ∧ ∀ i, w.frozen? ⟨B, i, none⟩ = false := by
  refine ⟨?_, ?_, ?_⟩ <;> simp [World.cell?, World.frozen?, h]

theorem reads_src {w : World} {ao : Option Addr} {l : List Nat} (h : Reads w ao l) : 0 < l.length → ∃ ad, ao = some ad ∧ ∀ j u, (l.map byt)[j]? = some u → w.cell? (ad.add j) = some u := by
  intro hp
  rcases h with rfl | ⟨g, off, rfl, hc⟩
  · simp at hp
  · refine ⟨_, rfl, fun j u hu => ?_⟩
    have hj : j < l.length := by
      rcases Nat.lt_or_ge j l.length with h | h
      · exact h
      · rw [List.getElem?_eq_none (by simpa using h)] at hu; cases hu
    have hadd : (⟨g, off, none⟩ : Addr).add j = ⟨g, off + j, none⟩ := by unfold Addr.add; split <;> simp_all
    rw [hadd, hc j hj]
    simp [hj] at hu
    simp [hj, hu]

theorem mid_reads {w : World} {g : Nat} {l : List Nat} (a m : Nat) (hg : w.heap[g]? = some (.cells (l.map byt).toArray 5 (0, 0))) (_h : a + m ≤ l.length) :
    Reads w (if l.length = a then some ⟨g, 0, none⟩ else some ⟨g, a, none⟩) ((l.drop a).take m) := by
  by_cases he : l.length = a
  · left; rw [← he]; simp
  · right
    refine ⟨g, a, by simp [he], fun i hi => ?_⟩
    have hi' : i < m ∧ a + i < l.length := by simp at hi; omega
    simp [World.cell?, hg, hi'.1, hi'.2]

theorem reads_if {w : World} {g a : Nat} {l sub : List Nat} {_hd : Decidable (l.length = a)} (h1 : Hid (l.length = a → sub = [])) (h2 : Hid (∀ x, ¬ l.length = a → Reads (w.drewN x) (some ⟨g, a, none⟩) sub)) (x : Nat) :
    Reads (w.drewN x) (if l.length = a then some ⟨g, 0, none⟩ else some ⟨g, a, none⟩) sub := by
  split
  · exact .inl (h1 ‹_›)
  · exact h2 x ‹_›

theorem reader_drewN {w : World} {B g : Nat} {l : List Nat} {t : Nat} (h : ReaderAt w B g l t) (q : Nat) : ReaderAt (w.drewN q) B g l t := by
  have hk := (Kept.refl [] w).drewN q
  exact ⟨hk.heap h.1 (by simp), hk.heap h.2.1 (by simp), h.2.2⟩

theorem reader_kept {w w' : World} {B g : Nat} {l : List Nat} {t : Nat} {ks : List Nat} (h : ReaderAt w B g l t) (hk : Kept ks w w') (h1 : B ∉ ks) (h2 : g ∉ ks) : ReaderAt w' B g l t :=
  ⟨hk.heap h.1 h1, hk.heap h.2.1 h2, h.2.2⟩

theorem heap_setCell_two {w : World} {B g : Nat} {l : List Nat} {t : Nat} (h : ReaderAt w B g l t) (t' : Nat) (ht : t' ≤ 8 * l.length) : ReaderAt (w.setCell ⟨B, 1, none⟩ (.int .i64 (t' : Int))) B g l t' := by
  obtain ⟨h1, h2, h3, h4, h5⟩ := h
  have hne : g ≠ B := by intro e; subst e; rw [h1] at h2; simp at h2
  refine ⟨by rw [heap_setCell_at h1]; simp, ?_, h3, ht, h5⟩
  rw [Below.heap_setCell _ _ _ _ (by exact hne)]; exact h2

end Go.Proofs.Ytiojcfffhcipnaa
