import Derived.Test.YtlkbpimlofgflaaDooreB
namespace Go.Proofs.YtlkbpimlofgflaaDoor
open Go.RowKit

theorem lit_read {w : World} {T : Nat} {l : List Nat} {f : Nat × Nat} (h : w.heap[T]? = some (.cells (l.map byt).toArray 5 f)) : Reads w (some ⟨T, 0, none⟩) l := by
  refine .inr ⟨T, 0, rfl, fun i hi => ?_⟩
  unfold World.cell?
  rw [h]
  simp [List.getD_eq_getElem?_getD, List.getElem?_eq_getElem hi, byt]

/-- Words behind four letters, and their sum. -/
theorem letters_words (w : World) (l : List Nat) (zs : List Nat) (fr : Nat × Nat) (ll : l.length = 4) (zn : Nat) (hz : zs.length = zn) (z1 : 1 ≤ zn) (zc : Nat) (hlt : ∀ z ∈ zs, z < 4294967296) (hs : zn ≤ 200000) :
    Calls Tryd.prog 32 #[.slice (some ⟨w.heap.size, 0, none⟩) 4 4, .slice (some ⟨w.heap.size + 1, 0, none⟩) zn zc] ((w.alloc (.cells (l.map byt).toArray 5 fr)).alloc (.cells (zs.map fun z => Value.int .i64 (z : Nat)).toArray 3)) fun e w' => ∃ v', e = .returned v' ∧ w'.ownsRow 0 5 1 v' (l ++ wds zs).length ((l ++ wds zs).map byt) ∧ Kept [] w w' ∧ (∃ g, v'.ownBlock = some g ∧ w.heap.size ≤ g) := by
  have k1 : Kept [] w (w.alloc (.cells (l.map byt).toArray 5 fr)) := (Kept.refl [] _).alloc _
  have k2 : Kept [] (w.alloc (.cells (l.map byt).toArray 5 fr)) ((w.alloc (.cells (l.map byt).toArray 5 fr)).alloc (.cells (zs.map fun z => Value.int .i64 (z : Nat)).toArray 3)) := (Kept.refl [] _).alloc _
  have hn := nms_new (w.alloc (.cells (l.map byt).toArray 5 fr)) zs
  rw [World.size_alloc] at hn
  have hr : Reads ((w.alloc (.cells (l.map byt).toArray 5 fr)).alloc (.cells (zs.map fun z => Value.int .i64 (z : Nat)).toArray 3)) (some ⟨w.heap.size, 0, none⟩) l := lit_read (k2.heap (heap_alloc_new _ _) (by simp))
  refine (words_any _ _ l _ zn zc zs (.inr ⟨w.heap.size, by rw [ll], hr⟩) (by omega) hn hz hlt (fun _ g off e hm => ?_) (by omega)).mono ?_
  · cases e
    simp [Value.ownBlock] at hm
  · rintro e w' ⟨v', rfl, h1, h2, h3⟩
    refine ⟨v', rfl, ?_, (k1.trans k2).step h2 (fun x hx => ?_), ?_⟩
    · rw [List.length_append, wds_len, hz]; exact h1
    · simp [Value.ownBlock] at hx; subst hx; exact .inr (Nat.le_refl _)
    · rcases h3 with h | ⟨g, h, hg⟩
      · exact ⟨_, h, Nat.le_refl _⟩
      · exact ⟨g, h, by have := (k1.trans k2).size; omega⟩

def lnk (i n : Nat) : List Nat := smd ([76, 73, 78, 75] ++ wds [i, n])
theorem wds_byts (zs : List Nat) : Byts (wds zs) := fun b hb => by
  obtain ⟨z, _, h⟩ := List.mem_flatMap.1 hb
  exact big_byts _ _ b h

set_option maxHeartbeats 4000000 in
set_option maxRecDepth 1000000 in
theorem link_any (w : World) (i n : Nat) (hi : i < 4294967296) (hn : n < 4294967296) :
    Calls Tryd.prog 39 #[.int .i64 (i : Int), .int .i64 (n : Int)] w fun e w' => ∃ v', e = .returned v' ∧ w'.ownsRow 0 5 1 v' (lnk i n).length ((lnk i n).map byt) ∧ Kept [] w w' ∧ (∃ g, v'.ownBlock = some g ∧ w.heap.size ≤ g) := by
  have kc := fun (w : World) (C : Array Value) (n c : Nat) => Lib.run_convert_bytes_const (P := Tryd.prog) w 44 5 C n c Tryd.underlying44 Tryd.underlying5
  have C1 := Hid.mk (letters_words w [76, 73, 78, 75] [i, n] (4, 5) rfl 2 rfl (by decide) 2 (by simp; omega) (by decide))
  go_enter Tryd.func39, Tryd.ntmps39
  go_wp2_with (fail)
  refine C1.out.mono ?_
  rintro e w1 ⟨v', rfl, h1, h2, h3⟩
  have C2 := Hid.mk (summed_any w1 v' _ h1 (Byts.append (by unfold Byts; decide) (wds_byts _)) (by simp [wds_len]))
  have K1 := Hid.mk (And.intro h2 h3)
  clear C1 kc h1 h2 h3
  go_wp2_with (fail)
  refine C2.out.mono ?_
  rintro e w2 ⟨v2, rfl, h1, h2, h3⟩
  have HF := Hid.mk (And.intro h1 (And.intro h2 h3))
  clear C2 h1 h2 h3
  go_wp2
  go_ret
  obtain ⟨g, hg, hgs⟩ := K1.out.2
  refine ⟨v2, rfl, HF.out.1, K1.out.1.step HF.out.2.1 (fun x hx => ?_), ?_⟩
  · rw [hg] at hx; simp at hx; subst hx; exact .inr hgs
  · rcases HF.out.2.2 with h | ⟨g2, h, hg2⟩
    · exact ⟨g, h.trans hg, hgs⟩
    · exact ⟨g2, h, by have := K1.out.1.size; omega⟩
end Go.Proofs.YtlkbpimlofgflaaDoor
