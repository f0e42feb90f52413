import Derived.Test.YtknkjhfemgiiaaaDoorUd
namespace Go.Proofs.YtknkjhfemgiiaaaDoor
open Go.RowKit Go.Lib

def lnS (l : List Evt) : Int := (l.map (fun x => x.out - x.inn - x.fade)).foldl (· + ·) 0
theorem lnS_snoc (l : List Evt) (x : Evt) : lnS (l ++ [x]) = lnS l + (x.out - x.inn - x.fade) := by simp [lnS]
theorem ckL_bd {day : Int} (hd : day ≤ 6000000) : ∀ (l : List Evt) (a : Option Evt) (i : Nat), ckL day a i l = none → ∀ x ∈ l, Ebd x := by
  intro l
  induction l with
  | nil => intro a i _ x hx; cases hx
  | cons y t ih =>
    intro a i h x hx
    simp only [ckL] at h
    split at h
    · rename_i hc
      simp at hx
      rcases hx with rfl | hx
      · exact ce_bd hc hd
      · exact ih _ _ h x hx
    · cases h
def LgP (t : ByteArray) (r : Int) (l : List Evt) (w : World) (e : Ending) (w' : World) : Prop := ∃ v, e = .returned (.tuple #[.int .i64 (if ckF t r l = none then lnS l else 0), v]) ∧ Ee w' v (ckF t r l) ∧ Kept [] w w'
set_option maxHeartbeats 8000000 in
set_option maxRecDepth 1000000 in
theorem Length_any (t : ByteArray) (r : Int) (a : Option Addr) (c : Nat) (l : List Evt) (w : World) (hL : EvL w a l) (hS : Esz l) (hT : Tb w) (hU : Ut w) (ht : t.size ≤ maxLen) (hl : l.length ≤ maxLen) : Calls Tryd.prog 6 #[clv t r a l.length c] w fun e w' => LgP t r l w e w' := by
  obtain ⟨n, en⟩ : ∃ n, l.length = n := ⟨_, rfl⟩
  obtain ⟨w1, e1⟩ : ∃ w1, w.alloc (.cells #[.string t, .int .i64 r, .slice a n c] 26 (0, 0)) = w1 := ⟨_, rfl⟩
  have k1 : Kept [] w w1 := by rw [← e1]; exact alloc_kept _ _
  have b1 := heap_alloc_new w (.cells #[.string t, .int .i64 r, .slice a n c] 26 (0, 0))
  rw [e1] at b1
  obtain ⟨x0, x1, x2⟩ := cut_cells b1
  have CL := Hid.mk (Check_any t r a c l w1 (hL.keep k1) hS (hT.keep k1) (hU.keep k1) ht hl)
  unfold LgP
  rw [en] at CL ⊢
  unfold clv at CL ⊢
  have HB := Hid.mk b1
  have K1 := Hid.mk k1
  obtain ⟨R, eR⟩ : ∃ R, ckF t r l = R := ⟨_, rfl⟩
  rw [eR] at CL ⊢
  cases R with
  | some y =>
    simp only [reduceCtorEq, if_false]
    clear hL hS hT hU ht hl b1 k1 eR en
    go_enter Tryd.func6, Tryd.ntmps6
    go_wp2_with (go_at_call 11; refine CL.out.mono ?_; rintro e w3 ⟨v3, rfl, h3, k3⟩; obtain ⟨Q, rfl, h3⟩ := h3)
    go_ret2
    exact ⟨_, rfl, ⟨Q, rfl, h3⟩, K1.out.trans k3⟩
  | none =>
    simp only [if_true]
    have hcl : clE t r l.length = 0 := by
      unfold ckF at eR
      split at eR
      · assumption
      · cases eR
    have hck : ckL (dy r) none 0 l = none := by
      unfold ckF at eR
      rw [if_pos hcl] at eR
      exact eR
    have hbd := ckL_bd (dy_top r) l none 0 hck
    have hn : n ≤ 200 := by have := (Rt_of hcl).2.2; omega
    have HV : Hid (∀ u i, Kept [] w u → i < n → ∃ g o x, a = some ⟨g, o, none⟩ ∧ l[i]? = some x ∧ EvR u g o l ∧ Ebd x) := Hid.mk (fun u i hu hi => by
      rcases hL with rfl | ⟨g, o, rfl, hR⟩
      · simp at en; omega
      · have hx : l[i]? = some l[i] := List.getElem?_eq_getElem (by omega)
        exact ⟨g, o, _, rfl, hx, hR.keep hu, hbd _ (List.mem_of_getElem? hx)⟩)
    have HE : Hid (lnS l = lnS (l.take n)) := Hid.mk (by rw [← en, List.take_length])
    have HT2 : Hid (∀ (i : Nat) x, l[i]? = some x → lnS (l.take (i + 1)) = lnS (l.take i) + (x.out - x.inn - x.fade)) := Hid.mk (fun i x hx => by
      obtain ⟨hi, hx2⟩ := List.getElem?_eq_some_iff.1 hx
      rw [← hx2, ← lnS_snoc, List.take_append_getElem hi])
    clear hL hS hT hU ht hl b1 k1 eR en hcl hck hbd
    go_enter Tryd.func6, Tryd.ntmps6
    go_wp2_with (fail)
    refine CL.out.mono ?_
    rintro e w2 ⟨v2, rfl, rfl, k2⟩
    have hb2 := k2.heap HB.out (by simp)
    obtain ⟨y0, y1, y2⟩ := cut_cells hb2
    have K2 := Hid.mk (K1.out.trans k2)
    clear x0 x1 x2 k2 hb2 CL e1
    go_wp2_with (fail)
    clear y0 y1 y2
    go_loopw [5, 7, 16] (fun s _ v wr => ∃ (i : Nat) (S : Int), v = .int .i64 (i : Int) ∧ s = .int .i64 S ∧ i ≤ n ∧ S = lnS (l.take i) ∧ 0 ≤ S + 200 * i ∧ S ≤ 6000000 * i ∧ Kept [] w wr) (fun _ _ v _ => n - (RowKit.intOf v).toNat)
    case atStart => exact ⟨0, 0, rfl, rfl, by omega, rfl, by omega, by omega, K2.out⟩
    case round =>
      obtain ⟨i, S, rfl, rfl, hin, hS, hS0, hS1, hk⟩ := hrel
      by_cases hlt : i < n
      · have hlt2 : (i : Int) < (n : Int) := by omega
        obtain ⟨g, o, x, rfl, hx, hR, hb⟩ := HV.out wr i hk hlt
        have hsn := HT2.out i x hx
        obtain ⟨y0, y1, y2, y3, y4⟩ := hR i x hx
        obtain ⟨b0, b1, b2, b3, b4⟩ := hb
        have FR := Hid.mk (fun u => frames_any x u (by omega) (by omega) (by omega) (by omega))
        obtain ⟨reel, inn, out, fade, note⟩ := x
        simp only at y0 y1 y2 y3 y4 b0 b1 b2 b3 b4 hsn
        have w9 : wrap64 ((i : Int) + 1) = (i : Int) + 1 := w64_in (by omega) (by omega)
        have v1 : wrap64 (out - inn - fade) = out - inn - fade := w64_in (by omega) (by omega)
        have v2 : IntKind.i64.wrap (out - inn - fade) = out - inn - fade := wrap_i (by omega) (by omega)
        have v3 : wrap64 (S + (out - inn - fade)) = S + (out - inn - fade) := w64_in (by omega) (by omega)
        have v4 : IntKind.i64.wrap (S + (out - inn - fade)) = S + (out - inn - fade) := wrap_i (by omega) (by omega)
        obtain ⟨w3, e3⟩ : ∃ w3, wr.alloc (.cells #[.string reel, .int .i64 inn, .int .i64 out, .int .i64 fade, .string note] 34 (0, 0)) = w3 := ⟨_, rfl⟩
        have k3 : Kept [] wr w3 := by rw [← e3]; exact alloc_kept _ _
        have bb3 := heap_alloc_new wr (.cells #[.string reel, .int .i64 inn, .int .i64 out, .int .i64 fade, .string note] 34 (0, 0))
        rw [e3] at bb3
        obtain ⟨z0, z1, z2, z3, z4⟩ := ev_cells bb3
        have r0 : ∀ p : KW w3, p.u.cell? ⟨wr.heap.size, 0, none⟩ = some (.string reel) := fun p => cell_keep p.h z0 (by simp)
        have r1 : ∀ p : KW w3, p.u.cell? ⟨wr.heap.size, 1, none⟩ = some (.int .i64 inn) := fun p => cell_keep p.h z1 (by simp)
        have r2 : ∀ p : KW w3, p.u.cell? ⟨wr.heap.size, 2, none⟩ = some (.int .i64 out) := fun p => cell_keep p.h z2 (by simp)
        have r3 : ∀ p : KW w3, p.u.cell? ⟨wr.heap.size, 3, none⟩ = some (.int .i64 fade) := fun p => cell_keep p.h z3 (by simp)
        have r4 : ∀ p : KW w3, p.u.cell? ⟨wr.heap.size, 4, none⟩ = some (.string note) := fun p => cell_keep p.h z4 (by simp)
        have C1 : Hid (∀ p : KW w3, Calls Tryd.prog 12 #[.agg #[.string reel, .int .i64 inn, .int .i64 out, .int .i64 fade, .string note]] p.u fun e w' => e = .returned (.int .i64 (out - inn)) ∧ ∃ p' : KW w3, w' = p'.u) := Hid.mk fun p => (FR.out p.u).mono fun r w' ⟨h1, h2⟩ => ⟨h1, ⟨w', p.h.trans h2⟩, rfl⟩
        have NE : Nonempty (KW w3) := ⟨⟨w3, Kept.refl _ _⟩⟩
        have HK := Hid.mk (hk.trans k3)
        have HN : Hid (S + (out - inn - fade) = lnS (l.take (i + 1)) ∧ 0 ≤ S + (out - inn - fade) + 200 * (i + 1 : Nat) ∧ S + (out - inn - fade) ≤ 6000000 * (i + 1 : Nat)) := Hid.mk ⟨by rw [hsn, ← hS], by omega, by omega⟩
        clear hx hR hsn hS hS0 hS1 b0 b1 b2 b3 b4 z0 z1 z2 z3 z4 bb3 k3 hk FR
        go_upto_region 8 with (fail)
        refine wp_region_kept (by kernel_rfl) (by kernel_rfl) ?_
        repeat (go_big_quiet_step ((go_at_call 12; exact C1.out _)))
        refine wpQuiet_nil ?_
        rintro _ ⟨p, rfl⟩
        go_wp2
        exact ⟨⟨i + 1, S + (out - inn - fade), by simp, rfl, by omega, HN.out.1, HN.out.2.1, HN.out.2.2, HK.out.trans p.h⟩, by simp [RowKit.intOf]; omega⟩
      · have hlt2 : ¬ (i : Int) < (n : Int) := by omega
        obtain rfl : i = n := by omega
        have HS := Hid.mk hS
        have HK := Hid.mk hk
        clear hk hS hS0 hS1
        go_wp2
        go_ret2
        refine ⟨_, ?_, rfl, HK.out⟩
        rw [HE.out, ← HS.out]
        rfl
end Go.Proofs.YtknkjhfemgiiaaaDoor
