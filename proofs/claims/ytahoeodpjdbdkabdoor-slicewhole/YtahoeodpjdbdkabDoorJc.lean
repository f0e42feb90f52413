import Derived.Test.YtahoeodpjdbdkabDoorJa
import Derived.Test.YtahoeodpjdbdkabDoorJb
import Derived.Test.YtahoeodpjdbdkabDoorHg
import Derived.Test.YtahoeodpjdbdkabDoorFy
import Derived.Test.YtahoeodpjdbdkabDoorEdZ
namespace Go.Proofs.YtahoeodpjdbdkabDoor
open Go.RowKit

/-- Bytes whose first is nought are raw ones. -/
theorem tell_rawx {W H n : Nat} {D T d : Int} {f b : Nat → Int} {x : Nat × Nat} (B : Blk W H n D T d f) (h : Tell T d D W H n f x b) {t : List Nat} (hb : byts x = 0 :: t) : x = rwb D.toNat f n := by
  have hw := B.w
  obtain ⟨_, hB, hh, _⟩ := byts_hold (tell_lt B.gd B.dp hw.1 B.f_ h)
  obtain ⟨j, hj, ⟨hc, rfl, rfl⟩ | ⟨hc, rfl, rfl⟩⟩ := h
  · have h0 : Holds _ (1, 8) := holds_wrt B.gd hw.1 B.f_ 0 j (by rw [Nat.zero_add]; exact hh)
    obtain ⟨t', ht⟩ := first_byte hB h0.1
    have h1 : nextN _ 0 8 = 1 := h0.2
    rw [h1, hb] at ht
    cases ht
  · rfl
theorem tell_len {W H n : Nat} {D T d : Int} {f b : Nat → Int} {x : Nat × Nat} (B : Blk W H n D T d f) (h : Tell T d D W H n f x b) : nby x ≤ 100000000 := by
  have hw := B.w
  obtain ⟨j, hj, ⟨hc, rfl, rfl⟩ | ⟨hc, rfl, rfl⟩⟩ := h
  · have h9 := wrt_len B.gd (cE T d W f) (wk0 T d) hw.1 j
    rw [hj.fin] at h9
    have h9 : (xw T d W f j).2 ≤ 8 + 54 * n := h9
    unfold nby; omega
  · unfold nby
    rw [rwb_len]
    have : D.toNat * n ≤ 12 * 4194304 := Nat.mul_le_mul (by have := B.dp.mid; omega) (by omega)
    omega

/-- Decode of a beginning. -/
theorem dec_cut {W H n : Nat} {D T d : Int} {f b : Nat → Int} {x : Nat × Nat} (w : World) (B : Blk W H n D T d f) (ht : Tell T d D W H n f x b) (hT : Tab w) (g k cap : Nat) (hk : k < nby x) (hg : w.heap[g]? = some (.cells ((byts x).map byt).toArray 5 (0, 0))) :
    Calls Tryd.prog 9 #[.slice (some ⟨g, 0, none⟩) k cap, .int .i64 (W : Int), .int .i64 (H : Int), .int .i64 D, .int .i64 d] w fun e w' => e = noBlk 102 ∧ Kept [] w w' := by
  have hw := B.w
  obtain ⟨hlen, hB, _⟩ := byts_hold (tell_lt B.gd B.dp hw.1 B.f_ ht)
  have hl := tell_len B ht
  have hr : Reads w (some ⟨g, 0, none⟩) ((byts x).take k) := .inr ⟨g, 0, rfl, fun i hi => by
    have hi2 : i < (byts x).length := by rw [List.length_take] at hi; omega
    rw [List.getD_eq_getElem?_getD, List.getElem?_take_of_lt (by rw [List.length_take] at hi; omega), List.getElem?_eq_getElem hi2]
    simp [World.cell?, hg, hi2]⟩
  refine (Decode_all W H n (some ⟨g, 0, none⟩) cap k ((byts x).take k) D T d w hr (fun b hb => hB b (List.mem_of_mem_take hb)) (by rw [List.length_take]; omega) (by omega) hT B.sz B.n_ B.dp B.d0 B.d1).mono ?_
  rintro e w' ⟨E, s, hR, hK, h⟩
  obtain rfl := tell_cut B ht hk hR
  rcases h with ⟨_, rfl⟩ | ⟨h, _⟩
  · exact ⟨rfl, hK⟩
  · cases h
/-- Decode of the whole with more behind it. -/
theorem dec_more {W H n : Nat} {D T d : Int} {f b : Nat → Int} {x : Nat × Nat} (w : World) (B : Blk W H n D T d f) (ht : Tell T d D W H n f x b) (hT : Tab w) (ao : Option Addr) (m cap : Nat) (l : List Nat) (hby : Byts l) (hm : l.length = m) (h1 : 1 ≤ m) (hmb : m ≤ 140737488351232) (hr : Reads w ao (byts x ++ l)) :
    Calls Tryd.prog 9 #[.slice ao (nby x + m) cap, .int .i64 (W : Int), .int .i64 (H : Int), .int .i64 D, .int .i64 d] w fun e w' => e = noBlk 103 ∧ Kept [] w w' := by
  have hw := B.w
  obtain ⟨hlen, hB, _⟩ := byts_hold (tell_lt B.gd B.dp hw.1 B.f_ ht)
  have hl := tell_len B ht
  refine (Decode_all W H n ao cap (nby x + m) (byts x ++ l) D T d w hr (fun b hb => by rcases List.mem_append.1 hb with h | h; exact hB b h; exact hby b h) (by rw [List.length_append]; omega) (by omega) hT B.sz B.n_ B.dp B.d0 B.d1).mono ?_
  rintro e w' ⟨E, s, hR, hK, h⟩
  obtain rfl := tell_more B ht hby (by omega) hR
  rcases h with ⟨_, rfl⟩ | ⟨h, _⟩
  · exact ⟨rfl, hK⟩
  · cases h
/-- Raw bytes by another tolerance. -/
theorem dec_raw {W H n : Nat} {D T d e : Int} {f b : Nat → Int} {x : Nat × Nat} (w : World) (B : Blk W H n D T d f) (ht : Tell T d D W H n f x b) (hT : Tab w) (g cap : Nat) {t : List Nat} (hb : byts x = 0 :: t) (e0 : 0 ≤ e) (e1 : e ≤ 63) (hg : w.heap[g]? = some (.cells ((byts x).map byt).toArray 5 (0, 0))) :
    Calls Tryd.prog 9 #[.slice (some ⟨g, 0, none⟩) (nby x) cap, .int .i64 (W : Int), .int .i64 (H : Int), .int .i64 D, .int .i64 e] w fun e w' => ∃ G, e = .returned (.tuple #[.agg #[.int .i64 (W : Int), .int .i64 (H : Int), .slice (some ⟨G, 0, none⟩) n n], .int .i64 0]) ∧ w.heap.size ≤ G ∧ Smp w' G 0 n f ∧ Kept [] w w' := by
  have hw := B.w
  obtain ⟨h1, h2, h3, h4, h5⟩ := byts_hold (tell_lt B.gd B.dp hw.1 B.f_ ht)
  have hl := tell_len B ht
  have hx := tell_rawx B ht hb
  subst hx
  rw [rwb_len] at h4 h5
  exact Decode_raw W H n (some ⟨g, 0, none⟩) cap _ _ D T e f w (heap_reads' hg) h2 h1 (by omega) hT B.sz B.n_ B.dp e0 e1 B.f_ h3 h4 h5
end Go.Proofs.YtahoeodpjdbdkabDoor
