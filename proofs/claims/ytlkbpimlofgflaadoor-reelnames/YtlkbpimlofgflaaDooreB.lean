import Derived.Test.YtlkbpimlofgflaaDooreA
namespace Go.Proofs.YtlkbpimlofgflaaDoor
open Go.RowKit

/-- Bytes with their sum behind them. -/
def smd (l : List Nat) : List Nat := l ++ big 4 (Cr.sm l).toNat
theorem smd_len (l : List Nat) : (smd l).length = l.length + 4 := by rw [smd, List.length_append, big_length]
theorem big_byts : ∀ (k n : Nat), Byts (big k n)
  | 0, _ => fun b hb => by simp [big] at hb
  | k + 1, n => fun b hb => by
    rw [big] at hb
    rcases List.mem_append.1 hb with h | h
    · exact big_byts k _ b h
    · simp at h; subst h; exact Nat.mod_lt _ (by decide)
theorem Byts.append {a b : List Nat} (ha : Byts a) (hb : Byts b) : Byts (a ++ b) := fun x hx => by
  rcases List.mem_append.1 hx with h | h
  · exact ha x h
  · exact hb x h
theorem smd_byts {l : List Nat} (h : Byts l) : Byts (smd l) := h.append (big_byts _ _)

theorem nms_new (w : World) (zs : List Nat) : Nms (w.alloc (.cells (zs.map fun z => Value.int .i64 (z : Nat)).toArray 3)) (some ⟨w.heap.size, 0, none⟩) zs := by
  refine .inr ⟨w.heap.size, 0, rfl, fun j hj => ?_⟩
  have hb : (w.alloc (.cells (zs.map fun z => Value.int .i64 (z : Nat)).toArray 3)).heap[w.heap.size]? = some (.cells (zs.map fun z => Value.int .i64 (z : Nat)).toArray 3) := heap_alloc_new _ _
  unfold World.cell?
  rw [hb]
  simp [List.getD_eq_getElem?_getD, List.getElem?_eq_getElem hj]

set_option maxHeartbeats 4000000 in
set_option maxRecDepth 1000000 in
theorem summed_any (w : World) (v : Value) (l : List Nat) (h : w.ownsRow 0 5 1 v l.length (l.map byt)) (hb : Byts l) (hs : l.length ≤ 1000000) :
    Calls Tryd.prog 31 #[v] w fun e w' => ∃ v', e = .returned v' ∧ w'.ownsRow 0 5 1 v' (smd l).length ((smd l).map byt) ∧ Kept v.ownBlock.toList w w' ∧ Lies w v v' := by
  obtain ⟨vo, vc, rfl, -, -, -⟩ := row_none h
  have C1 := Hid.mk (Cr.sum_any vo vc l.length l w (reads_row h) hb rfl (by omega))
  have HV := Hid.mk h
  clear h
  obtain ⟨n, en⟩ : ∃ n, l.length = n := ⟨_, rfl⟩
  rw [en] at C1 HV hs ⊢
  go_enter Tryd.func31, Tryd.ntmps31
  go_wp2_with (fail)
  refine C1.out.mono ?_
  rintro e w1 ⟨rfl, k1⟩
  obtain ⟨S, eS⟩ : ∃ S, (Cr.sm l).toNat = S := ⟨_, rfl⟩
  have hS : S < 4294967296 := by rw [← eS]; exact (Cr.sm l).isLt
  have hS2 : (S : Int) < 4294967296 := by omega
  rw [show Cr.nm (Cr.sm l) = (S : Int) by rw [← eS]; rfl]
  have hv1 : w1.ownsRow 0 5 1 (.slice vo n vc) n (l.map byt) := k1.row HV.out (by simp)
  have C2 : Hid (Calls Tryd.prog 32 #[.slice vo n vc, .slice (some ⟨w1.heap.size, 0, none⟩) 1 1] (w1.alloc (.cells #[.int .i64 (S : Int)] 3)) fun e w' => ∃ v', e = .returned v' ∧ w'.ownsRow 0 5 1 v' (smd l).length ((smd l).map byt) ∧ Kept (Value.slice vo n vc).ownBlock.toList w w' ∧ Lies w (.slice vo n vc) v') := Hid.mk (by
    have k2 : Kept [] w1 (w1.alloc (.cells #[.int .i64 (S : Int)] 3)) := (Kept.refl [] _).alloc _
    have hv2 := k2.row hv1 (by simp)
    rw [← en] at hv1 hv2 ⊢
    refine (words_any _ _ l _ 1 1 [S] (.inl hv2) (by simp) (nms_new w1 [S]) rfl (by simp; omega) (fun _ g off e hm => ?_) (by omega)).mono ?_
    · cases e
      rcases hv1.2 with ⟨hx, _⟩ | ⟨g', cap, cur, hx, _, hg, _⟩
      · rw [hx] at hm; simp [Value.ownBlock] at hm
      · rw [hx] at hm
        simp [Value.ownBlock] at hm
        subst hm
        have := (Array.getElem?_eq_some_iff.1 hg).1
        omega
    · rintro e w' ⟨v', rfl, h1, h2, h3⟩
      refine ⟨v', rfl, ?_, ((k1.trans k2).mono (by simp) : Kept (Value.slice vo l.length vc).ownBlock.toList w _).step h2 (fun x hx => .inl hx), h3.of_kept (k1.trans k2)⟩
      rw [smd_len, smd, eS, ← wds_one]
      exact h1)
  clear C1 HV hv1 k1
  go_wp2_with (fail)
  refine C2.out.mono ?_
  rintro e w2 ⟨v', rfl, h1, h2, h3⟩
  have HF := Hid.mk (And.intro h1 (And.intro h2 h3))
  clear h1 h2 h3 C2
  go_wp2
  go_ret
  exact ⟨v', rfl, HF.out⟩
end Go.Proofs.YtlkbpimlofgflaaDoor
