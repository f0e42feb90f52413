import Derived.Test.YtodlkpcbkilglaaDoorRgZ
import Derived.Test.YtodlkpcbkilglaaDoorbD
namespace Go.Proofs.YtodlkpcbkilglaaDoor
open Go.RowKit Go.Shelf
attribute [local go_sem] Oper.semAt_some

theorem kept_of {ks : List Nat} {w w' : World} (h : Bt.Kept ks w w') : Kept ks w w' := ⟨h.os, h.tape, h.output, h.size, h.block⟩
theorem kept_to {ks : List Nat} {w w' : World} (h : Kept ks w w') : Bt.Kept ks w w' := ⟨h.os, h.tape, h.output, h.size, h.block⟩
/-- The samples behind k rounds, the last one first, as one number. -/
def bkN (f : Nat → Nat) (n : Nat) : Nat → Nat
  | 0 => 0
  | k + 1 => bkN f n k * 65536 + f (n - 1 - k)

set_option maxHeartbeats 8000000 in
set_option maxRecDepth 1000000 in
theorem writeP_any (g1 o1 cr n c : Nat) (ao : Option Addr) (f : Nat → Nat) (w : World) (hrow : w.cell? ⟨g1, o1, none⟩ = some (.slice ao n c)) (hr : Rd w ao n f) (hf : ∀ i, f i < 65536) (hn : n ≤ 4096) (R : World → Value → Prop)
    (CB : ∀ (u : World) (X : List Nat) (g : Nat), X = Bt.big ((16 * n + 7) / 8) (bkN f n n * 2 ^ (8 * ((16 * n + 7) / 8) - 16 * n)) → u.heap[g]? = some (.cells (X.map Bt.byt).toArray 5 (0, 0)) → w.heap.size + 4 < u.heap.size → Calls Tryd.prog 82 #[.slice (some ⟨g, 0, none⟩) ((16 * n + 7) / 8) ((16 * n + 7) / 8)] u fun e u' => ∃ v, e = .returned v ∧ R u' v ∧ Kept [] u u') (hRp : ∀ u v o, R u v → R (World.putObj u (w.heap.size + 3) o) v) :
    Calls Tryd.prog 61 #[.slice (some ⟨g1, o1, none⟩) 1 cr] w fun e w' => ∃ v, e = .returned v ∧ R w' v ∧ Kept [] w w' := by
  have C1 := Hid.mk (fun u => Bt.newWriter_any u)
  have C2 := Hid.mk (fun u => backward_any ao n c u)
  have hrow2 := cell_keep ((alloc_kept w (.cells #[.slice none 0 0, .int .u64 0, .int .i64 0] 114)).trans (alloc_kept _ (.cells #[.pointer (some ⟨w.heap.size, 0, none⟩)] 93))) hrow (by simp)
  have Hr := Hid.mk hr
  clear hr
  refine (callsIn_wide (n := 0)).1 ?_
  refine callsIn_of_wp_marks Tryd.func61 rfl trivial ?_ rfl
  simp only [Tryd.ntmps61, List.size_toArray, List.length_cons, List.length_nil, Nat.reduceAdd, Nat.reduceSub, Array.replicate_succ, Array.replicate_zero, List.push_toArray, List.append_toArray, List.nil_append, List.cons_append]
  refine wpIn_wide.2 ?_
  go_wp2_with (first | (go_at_call 79; refine (C1.out _).mono ?_; rintro e w2 ⟨rfl, rfl⟩) | (go_at_call 80; refine (C2.out _).mono ?_; rintro e w3 ⟨rfl, rfl⟩))
  obtain ⟨wr, ewr⟩ : ∃ wr, wr = ((w.alloc (.cells #[.slice none 0 0, .int .u64 0, .int .i64 0] 114)).alloc (.cells #[.pointer (some ⟨w.heap.size, 0, none⟩)] 93)).alloc (.cells #[.slice ao n c] 68) := ⟨_, rfl⟩
  have m1 := heap_alloc_new w (.cells #[.slice none 0 0, .int .u64 0, .int .i64 0] 114)
  have j1 := alloc_kept w (.cells #[.slice none 0 0, .int .u64 0, .int .i64 0] 114)
  have m2 := heap_alloc_new (w.alloc (.cells #[.slice none 0 0, .int .u64 0, .int .i64 0] 114)) (.cells #[.pointer (some ⟨w.heap.size, 0, none⟩)] 93)
  have j2 := alloc_kept (w.alloc (.cells #[.slice none 0 0, .int .u64 0, .int .i64 0] 114)) (.cells #[.pointer (some ⟨w.heap.size, 0, none⟩)] 93)
  have m3 := heap_alloc_new ((w.alloc (.cells #[.slice none 0 0, .int .u64 0, .int .i64 0] 114)).alloc (.cells #[.pointer (some ⟨w.heap.size, 0, none⟩)] 93)) (.cells #[.slice ao n c] 68)
  have j3 := alloc_kept ((w.alloc (.cells #[.slice none 0 0, .int .u64 0, .int .i64 0] 114)).alloc (.cells #[.pointer (some ⟨w.heap.size, 0, none⟩)] 93)) (.cells #[.slice ao n c] 68)
  have z3 : wr.heap.size = w.heap.size + 3 := by rw [ewr, World.size_alloc, World.size_alloc, World.size_alloc]
  rw [World.size_alloc] at m2
  rw [World.size_alloc, World.size_alloc] at m3
  have hW := j3.heap (j2.heap m1 (by simp)) (by simp)
  have hP := j3.heap m2 (by simp)
  have kw := (j1.trans j2).trans j3
  rw [← ewr] at hW hP m3 kw ⊢
  clear ewr m1 j1 m2 j2 j3
  refine range_law (gf := 96) (lb := #[.pointer (some ⟨w.heap.size + 1 + 1, 0, none⟩)]) rfl (enters_of Tryd.func96 (by kernel_rfl) rfl)
    (fun k W => ∃ Vv, Bt.WriterAt W w.heap.size Vv (bkN f n k) (16 * k) ∧ (∀ g, Vv.ownBlock = some g → w.heap.size + 3 ≤ g ∧ g ≠ wr.heap.size ∧ g ≠ wr.heap.size + 1) ∧ W.heap[w.heap.size + 1]? = some (.cells #[.pointer (some ⟨w.heap.size, 0, none⟩)] 93 (0, 0)) ∧ W.heap[w.heap.size + 1 + 1]? = some (.cells #[.slice ao n c] 68 (0, 0)) ∧ Kept [] w W ∧ wr.heap.size + 1 < W.heap.size)
    n (fun k v => v = #[.int .i64 ((n - 1 - k : Nat) : Int), .int .u16 (f (n - 1 - k) : Int)]) (fun k v hv => by subst hv; rfl) ?put ?start ?iter ?body ?done
  case put =>
    rintro k W o ⟨Vv, hWr, hV, hPb, hSb, hk, hsz⟩
    have ks : Kept [wr.heap.size + 1] W (W.putObj (wr.heap.size + 1) o) := (Kept.refl _ W).putObj o (.inl (by simp))
    refine ⟨Vv, ⟨ks.heap hWr.1 (by simp; omega), (kept_to ks).row hWr.2 (fun g hg => by have := hV g hg; simp; omega)⟩, hV, ks.heap hPb (by simp; omega), ks.heap hSb (by simp; omega), hk.step ks (fun x hx => by simp at hx; right; omega), by rw [World.putObj_size]; exact hsz⟩
  case start =>
    intro W1 hk1 hs1
    refine ⟨.slice none 0 0, ⟨hk1.heap hW (by simp), ⟨rfl, .inl ⟨rfl, rfl⟩⟩⟩, fun g hg => by simp [Value.ownBlock] at hg, hk1.heap hP (by simp), hk1.heap m3 (by simp), kw.trans hk1, by omega⟩
  case iter =>
    intro J hJI hJY W1 hJ0
    exact back_iter (wr.heap.size + 1) (w.heap.size + 1 + 1) n c ao f (by omega) J (fun k W hJ => by
      obtain ⟨Vv, _, _, _, hSb, hk, _⟩ := hJI k W hJ
      exact ⟨by rw [cell_of_row _ _ _ _ _ _ hSb]; rfl, Hr.out.keep hk⟩) (fun k W j hJ hj => by
      have h := hJY k W _ hJ (by omega) rfl
      rw [show n - 1 - k = j by omega] at h
      exact h) W1 hJ0
  case body =>
    rintro k v W r rfl hkn ⟨Vv, hWr, hV, hPb, hSb, hk, hsz⟩ hl
    gi_wp2
    refine ⟨trivial, fun Wb rb hWb => ?_⟩
    have ks : Kept [wr.heap.size + 1] W Wb := by rw [hWb]; exact (Kept.refl _ W).putObj _ (.inl (by simp))
    have hWb2 : Bt.WriterAt Wb w.heap.size Vv (bkN f n k) (16 * k) := ⟨ks.heap hWr.1 (by simp; omega), (kept_to ks).row hWr.2 (fun g hg => by have := hV g hg; simp; omega)⟩
    have hPb2 := ks.heap hPb (by simp; omega)
    have hSb2 := ks.heap hSb (by simp; omega)
    have hkb : Kept [] w Wb := hk.step ks (fun x hx => by simp at hx; right; omega)
    have hszb : wr.heap.size + 1 < Wb.heap.size := Nat.lt_of_lt_of_le hsz ks.size
    have hpc : Wb.cell? ⟨w.heap.size + 1, 0, none⟩ = some (.pointer (some ⟨w.heap.size, 0, none⟩)) := by rw [cell_of_row _ _ _ _ _ _ hPb2]; rfl
    have hxb := hf (n - 1 - k)
    have HST : Hid (bkN f n (k + 1) = bkN f n k * 65536 + f (n - 1 - k)) := Hid.mk rfl
    obtain ⟨x, ex⟩ : ∃ x, x = f (n - 1 - k) := ⟨_, rfl⟩
    rw [← ex] at hxb HST ⊢
    have CPt := Hid.mk (Bt.put_any w.heap.size Vv (bkN f n k) (16 * k) (x : Int) 16 Wb hWb2 (by omega) (by omega) (by omega) (by show (x : Int).toNat < 2 ^ 16; omega) (by omega))
    have HH := Hid.mk (And.intro hPb2 (And.intro hSb2 (And.intro hkb (And.intro hszb (And.intro hV hWb2)))))
    clear ks hWb2 hPb2 hSb2 hkb hszb hWr hV hPb hSb hk hsz hl hWb ex
    gi_wp2
    refine ⟨trivial, rfl, (CallsIn.inRound (w.heap.size + 3 + 1) (callsIn_wide.2 CPt.out)).mono ?_⟩
    rintro e W3 ⟨rfl, V3, hW3, hk3, hl3⟩
    gi_wp2
    obtain ⟨hPb2, hSb2, hkb, hszb, hV, hWb2⟩ := HH.out
    have k3 := kept_of hk3
    have nm : ∀ z, z ≠ w.heap.size → (∀ g, Vv.ownBlock = some g → g ≠ z) → z ∉ w.heap.size :: Vv.ownBlock.toList := fun z h1 h2 hm => by
      rcases List.mem_cons.1 hm with h | h
      · exact h1 h
      · rw [Option.mem_toList] at h
        exact h2 z h rfl
    refine ⟨⟨V3, ?_, fun g hg => ?_, k3.heap hPb2 (nm _ (by omega) (fun g hg => by have := hV g hg; omega)), k3.heap hSb2 (nm _ (by omega) (fun g hg => by have := hV g hg; omega)), hkb.step k3 (fun x hx => ?_), by have := k3.size; omega⟩, ?_, ?_⟩
    · rw [HST.out]
      have h := hW3
      rw [show (16 : Int).toNat = 16 from rfl, Int.toNat_natCast, show 2 ^ 16 = 65536 from rfl, show 16 * k + 16 = 16 * (k + 1) by omega] at h
      exact h
    · rcases hl3 with h | ⟨g2, h1, h2⟩
      · rw [h] at hg
        have := hV g hg
        omega
      · rw [h1] at hg
        cases hg
        omega
    · right
      rcases List.mem_cons.1 hx with h | h
      · omega
      · rw [Option.mem_toList] at h
        have := hV x h
        omega
    · exact k3.block _ (by omega) (nm _ (by omega) (fun g hg => by have := hV g hg; omega))
    · exact k3.block _ (by omega) (nm _ (by omega) (fun g hg => by have := hV g hg; omega))
  case done =>
    rintro W ⟨Vv, hWr, hV, hPb, hSb, hk, hsz⟩ hK
    have hpc : W.cell? ⟨w.heap.size + 1, 0, none⟩ = some (.pointer (some ⟨w.heap.size, 0, none⟩)) := by rw [cell_of_row _ _ _ _ _ _ hPb]; rfl
    have CY := Hid.mk (Bt.bytes_any w.heap.size Vv (bkN f n n) (16 * n) W hWr (by omega))
    have HZ := Hid.mk (show w.heap.size + 4 < W.heap.size by omega)
    have HH := Hid.mk (And.intro hk hK)
    have CB2 := Hid.mk CB
    clear hWr hV hPb hSb hk hsz hK CB
    go_wp2_with (first | (go_at_call 83; refine CY.out.mono ?_; rintro e W3 ⟨rfl, hb3, hk3⟩) | (go_at_call 82; refine (CB2.out _ _ _ rfl hb3 (Nat.lt_of_lt_of_le HZ.out (kept_of hk3).size)).mono ?_; rintro e W4 ⟨v, rfl, hR, hk4⟩))
    have hK4 := ((kept_of hk3).trans hk4).heap HH.out.2 (by simp)
    rw [z3] at hK4
    refine ⟨by simp, .inl ⟨_, _, rfl, run_takeDeferred hK4, ?_⟩⟩
    exact ⟨_, results_tmp rfl _ _ _, v, rfl, hRp _ _ _ hR, ((HH.out.1.trans (kept_of hk3)).trans hk4).putObj _ (.inr (by omega))⟩
end Go.Proofs.YtodlkpcbkilglaaDoor
