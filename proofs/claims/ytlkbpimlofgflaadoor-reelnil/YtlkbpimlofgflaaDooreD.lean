import Derived.Test.YtlkbpimlofgflaaDooreC
namespace Go.Proofs.YtlkbpimlofgflaaDoor
open Go.RowKit

/-- The index and the foot of records whose links stand at these places. -/
def idx (zs : List Nat) : List Nat := smd (([73, 78, 68, 88] ++ wds [zs.length]) ++ wds zs)
def ft (a : Nat) : List Nat := smd ([70, 79, 79, 84] ++ wds [a])
def tl (zs : List Nat) (a : Nat) : List Nat := idx zs ++ ft a
theorem idx_len (zs : List Nat) : (idx zs).length = 12 + 4 * zs.length := by rw [idx, smd_len]; simp [wds_len]; omega
theorem ft_len (a : Nat) : (ft a).length = 12 := by rw [ft, smd_len]; simp [wds_len]
theorem tl_len (zs : List Nat) (a : Nat) : (tl zs a).length = 24 + 4 * zs.length := by rw [tl, List.length_append, idx_len, ft_len]; omega
theorem Nms.lt {w : World} {zo : Option Addr} {zs : List Nat} (h : Nms w zo zs) (hz : zs ≠ []) : ∀ g off, zo = some ⟨g, off, none⟩ → g < w.heap.size := by
  rintro g off rfl
  rcases h with h | ⟨g, off, e, hc⟩
  · exact absurd h hz
  · cases e
    have h1 := hc 0 (List.length_pos_iff.2 hz)
    unfold World.cell? at h1
    rcases Nat.lt_or_ge g w.heap.size with h | h
    · exact h
    · rw [Array.getElem?_eq_none h] at h1; cases h1

set_option maxHeartbeats 4000000 in
set_option maxRecDepth 1000000 in
theorem end_any (w : World) (zo : Option Addr) (zn zc : Nat) (zs : List Nat) (a : Nat) (hz : Nms w zo zs) (hzn : zs.length = zn) (hlt : ∀ z ∈ zs, z < 4294967296) (ha : a < 4294967296) (hs : zn ≤ 100000) :
    Calls Tryd.prog 26 #[.slice zo zn zc, .int .i64 (a : Int)] w fun e w' => ∃ v', e = .returned v' ∧ w'.ownsRow 0 5 1 v' (tl zs a).length ((tl zs a).map byt) ∧ Kept [] w w' ∧ (∃ g, v'.ownBlock = some g ∧ w.heap.size ≤ g) := by
  have kc := fun (w : World) (C : Array Value) (n c : Nat) => Lib.run_convert_bytes_const (P := Tryd.prog) w 44 5 C n c Tryd.underlying44 Tryd.underlying5
  have C1 := Hid.mk (letters_words w [73, 78, 68, 88] [zn] (4, 5) rfl 1 rfl (by decide) 1 (by simp; omega) (by decide))
  have HZ := Hid.mk hz
  have HL := Hid.mk hlt
  clear hz hlt
  go_enter Tryd.func26, Tryd.ntmps26
  go_wp2_with (fail)
  refine C1.out.mono ?_
  rintro e w1 ⟨v1, rfl, h1, h2, g1, hg1, hs1⟩
  have C2 := Hid.mk (words_any w1 v1 _ zo zn zc zs (.inl h1) (fun _ => h1) (HZ.out.kept h2 (by simp)) hzn HL.out (fun h g off e hm => by
    rw [hg1] at hm
    simp at hm
    have := HZ.out.lt (fun q => h (by subst q; simpa using hzn.symm)) g off e
    omega) (by simp [wds_len]; omega))
  have K1 := Hid.mk h2
  have G1 := Hid.mk (And.intro hg1 hs1)
  clear C1 h1 h2 hg1 hs1
  go_wp2_with (fail)
  refine C2.out.mono ?_
  rintro e w2 ⟨v2, rfl, h1, h2, h3⟩
  have K2 : Hid (Kept [] w w2) := Hid.mk (K1.out.step h2 (fun x hx => by rw [G1.out.1] at hx; simp at hx; subst hx; exact .inr G1.out.2))
  have G2 : Hid (∃ g, v2.ownBlock = some g ∧ w.heap.size ≤ g) := Hid.mk (by
    rcases h3 with h | ⟨g2, h, hg2⟩
    · exact ⟨g1, h.trans G1.out.1, G1.out.2⟩
    · exact ⟨g2, h, by have := K1.out.size; omega⟩)
  have C3 := Hid.mk (summed_any w2 v2 (([73, 78, 68, 88] ++ wds [zn]) ++ wds zs) (by
    have e9 : (([73, 78, 68, 88] ++ wds [zn]) ++ wds zs).length = ([73, 78, 68, 88] ++ wds [zn]).length + 4 * zn := by rw [List.length_append (bs := wds zs), wds_len zs, hzn]
    rw [e9]; exact h1) (Byts.append (Byts.append (by unfold Byts; decide) (wds_byts _)) (wds_byts _)) (by simp [wds_len]; omega))
  clear C2 h1 h2 h3
  go_wp2_with (fail)
  refine C3.out.mono ?_
  rintro e w3 ⟨v3, rfl, h1, h2, h3⟩
  have H3 : Hid (w3.ownsRow 0 5 1 v3 (idx zs).length ((idx zs).map byt)) := Hid.mk (by unfold idx; rw [hzn]; exact h1)
  have K3 : Hid (Kept [] w w3) := Hid.mk (K2.out.step h2 (fun x hx => by
    obtain ⟨g, hg, hgs⟩ := G2.out
    rw [hg] at hx; simp at hx; subst hx; exact .inr hgs))
  have G3 : Hid (∃ g, v3.ownBlock = some g ∧ w.heap.size ≤ g) := Hid.mk (by
    obtain ⟨g, hg, hgs⟩ := G2.out
    rcases h3 with h | ⟨g2, h, hg2⟩
    · exact ⟨g, h.trans hg, hgs⟩
    · exact ⟨g2, h, by have := K2.out.size; omega⟩)
  have C4 := Hid.mk (letters_words w3 [70, 79, 79, 84] [a] (4, 5) rfl 1 rfl (by decide) 1 (by simp; omega) (by decide))
  clear C3 h1 h2 h3 K2 G2 K1 G1
  go_wp2_with (fail)
  refine C4.out.mono ?_
  rintro e w4 ⟨v4, rfl, h1, h2, g4, hg4, hs4⟩
  have C5 := Hid.mk (summed_any w4 v4 _ h1 (Byts.append (by unfold Byts; decide) (wds_byts _)) (by simp [wds_len]))
  have K4 := Hid.mk h2
  have G4 := Hid.mk (And.intro hg4 hs4)
  clear C4 h1 h2 hg4 hs4
  go_wp2_with (fail)
  refine C5.out.mono ?_
  rintro e w5 ⟨v5, rfl, h1, h2, h3⟩
  rw [show smd ([70, 79, 79, 84] ++ wds [a]) = ft a from rfl, ft_len a] at h1
  have K5 : Hid (Kept [] w3 w5) := Hid.mk (K4.out.step h2 (fun x hx => by rw [G4.out.1] at hx; simp at hx; subst hx; exact .inr G4.out.2))
  obtain ⟨fo, fc, ef, ec, -⟩ := row_none h1
  subst ef
  have H5 : w5.ownsRow 0 5 1 v3 (idx zs).length ((idx zs).map byt) := K5.out.row H3.out (by simp)
  obtain ⟨bo, bc, w6, hrun, r1, r2, r3⟩ := app_bl w5 44 v3 (idx zs) (.inl H5) fo 12 fc (ft a) (reads_row h1) (ft_len a) ec (by decide) (by rw [idx_len]; omega)
  have HF : Hid (w6.ownsRow 0 5 1 (.slice bo ((idx zs).length + 12) bc) (tl zs a).length ((tl zs a).map byt) ∧ Kept [] w w6 ∧ (∃ g, (Value.slice bo ((idx zs).length + 12) bc).ownBlock = some g ∧ w.heap.size ≤ g)) := Hid.mk (by
    obtain ⟨g, hg, hgs⟩ := G3.out
    refine ⟨?_, (K3.out.trans K5.out).step r2 (fun x hx => ?_), ?_⟩
    · have e9 : (tl zs a).length = (idx zs).length + 12 := by rw [tl, List.length_append, ft_len]
      rw [e9]; exact r1
    · rw [hg] at hx; simp at hx; subst hx; exact .inr hgs
    · rcases r3 with h | ⟨g2, h, hg2⟩
      · exact ⟨g, h.trans hg, hgs⟩
      · exact ⟨g2, h, by have := (K3.out.trans K5.out).size; omega⟩)
  clear C5 h1 h2 h3 H5 r1 r2 r3 K4 G4 ec
  go_wp2_with (at_builtin; refine wpList_app_eq' rfl _ _ 44 rfl _ _ _ _ rfl rfl hrun ?_)
  go_ret
  exact ⟨_, rfl, HF.out⟩
end Go.Proofs.YtlkbpimlofgflaaDoor
