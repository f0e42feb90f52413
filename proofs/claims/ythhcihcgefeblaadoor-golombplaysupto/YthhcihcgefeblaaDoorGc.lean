import Derived.Test.YthhcihcgefeblaaDoorH1
namespace Go.Proofs.YthhcihcgefeblaaDoor
open Go.RowKit

theorem heap_reads {w : World} {g : Nat} {l : List Nat} (h : w.heap[g]? = some (.cells (l.map byt).toArray 5 (0, 0))) : Reads w (some ⟨g, 0, none⟩) l :=
  .inr ⟨g, 0, rfl, fun i hi => by simp [World.cell?, h, hi]⟩

theorem five : gw (5 : Int).toNat (1 : Int).toNat (10 : Int).toNat = 4 ∧ gf (5 : Int).toNat (1 : Int).toNat = 3 := by decide
theorem three : rw_ 0 (3 : Int).toNat (8 : Int).toNat = 4 ∧ rf 0 (3 : Int).toNat (8 : Int).toNat = 14 ∧ rr 0 (3 : Int).toNat (8 : Int).toNat = 2 := by decide

set_option maxHeartbeats 4000000 in
set_option maxRecDepth 1000000 in
theorem awake_any (w : World) (hT : Tab w) :
    Calls Tryd.prog 9 #[] w fun e w' => e = .returned (.bool true) ∧ Kept [] w w' := by
  have HT := Hid.mk hT
  have HS := Hid.mk (SepL.start (Kept.refl [] w))
  clear hT
  go_enter Tryd.func9, Tryd.ntmps9
  go_wp2_with (go_at_call 18; refine (sep_newWriter HS.out).mono ?_; rintro e w1 ⟨B, rfl, hs1⟩; have HS1 := Hid.mk hs1; clear hs1)
  refine (sep_newRuns HS1.out).mono ?_
  rintro e w2 ⟨X, rfl, hs2⟩
  have HS2 : Hid (SepL w w2 [wtr B (.slice none 0 0) 0 0, cdr X 0]) := hs2
  clear hs2 HS1
  go_wp2_with fail
  refine (sep_gput HS2.out 0 (by simp) 5 1 10 rfl (by decide) (by decide) (by decide) (by decide) (by decide) (by decide) (by decide)).mono ?_
  rintro e w3 ⟨rfl, V3, hs3⟩
  rw [five.1, five.2] at hs3
  have HS3 : Hid (SepL w w3 [wtr B V3 3 4, cdr X 0]) := hs3
  clear hs3 HS2
  go_wp2_with fail
  refine (sep_rput HS3.out 0 1 (by simp) (by simp) 3 8 rfl rfl HT.out (by decide) (by decide) (by decide) (by decide) (by decide)).mono ?_
  rintro e w4 ⟨rfl, V4, hs4⟩
  rw [three.1, three.2.1, three.2.2] at hs4
  have HS4 : Hid (SepL w w4 [wtr B V4 62 8, cdr X 2]) := hs4
  clear hs4 HS3
  go_wp2_with fail
  refine (sep_bytes HS4.out 0 (by simp) rfl (by decide)).mono ?_
  rintro e w5 ⟨g5, rfl, hg5, hs5⟩
  have HS5 := Hid.mk hs5
  have hrd : Reads w5 (some ⟨g5, 0, none⟩) [62] := heap_reads hg5
  have HR5 := Hid.mk hrd
  clear hs5 HS4 hg5 hrd
  go_wp2_with fail
  refine (sep_newReader HS5.out _ _ 1 [62] HR5.out (by simp [Byts]) rfl (by decide)).mono ?_
  rintro e w6 ⟨R, g, rfl, hs6⟩
  have HS6 : Hid (SepL w w6 [wtr B V4 62 8, cdr X 2, rdr R g [62] 0]) := hs6
  clear hs6 HS5 HR5
  go_wp2_with fail
  refine (sep_gget HS6.out 2 (by simp) 1 10 rfl (by decide) (by decide) (by decide) (by decide)).mono ?_
  rintro e w7 ⟨Y, E, t', rfl, hres, hs7⟩
  obtain ⟨rfl, rfl, rfl⟩ := numRes_form (v := 5) hres (by decide) (by decide) (by decide)
  have HS7 : Hid (SepL w w7 [wtr B V4 62 8, cdr X 2, rdr R g [62] 4]) := hs7
  clear hs7 HS6 hres
  go_wp2_with fail
  refine (sep_bytes HS7.out 0 (by simp) rfl (by decide)).mono ?_
  rintro e w8 ⟨g8, rfl, hg8, hs8⟩
  have HS8 := Hid.mk hs8
  have hs : Sem.run Tryd.prog (convert 34 9 (.slice (some ⟨g8, 0, none⟩) 1 1)) w8 = .ok (.string { data := #[62] }) w8 := str_run (w := w8) (g := g8) (cap := 1) (l := [62]) (rest := []) (by rw [hg8]; rfl)
  clear hs8 HS7 hg8
  go_wp2_with (go_at_call 31; refine (sep_rate HS8.out 1 (by simp) rfl).mono ?_; rintro e w9 ⟨rfl, rfl⟩)
  go_ret
  exact ⟨rfl, HS8.out.old⟩
end Go.Proofs.YthhcihcgefeblaaDoor
