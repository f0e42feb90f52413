import Derived.Test.YtoghkbajdljheaaW2
namespace Go.Proofs.Ytoghkbajdljheaa
open Go.RowKit

theorem newWriter_at (w : World) : WriterAt (w.alloc (.cells #[.slice none 0 0, .int .u64 0, .int .i64 0] 76)) w.heap.size (.slice none 0 0) 0 0 := by
  refine ⟨?_, ?_⟩
  · rw [heap_alloc_new]; simp
  · simpa [big] using World.ownsRow_nil _ 0 5 1

/-- The text that bytes are. -/
def bstr (l : List Nat) : ByteArray := strOfNums (l.map fun b : Nat => (b : Int))

theorem row_bytes {w : World} {g e : Nat} {l : List Nat} {rest : List Value} (h : w.heap[g]? = some (.cells (l.map byt ++ rest).toArray e (0, 0))) (i : Nat) (hi : i < l.length) : w.cell? ⟨g, 0 + i, none⟩ = some (.int .u8 ((l.map fun b : Nat => (b : Int)).getD i 0)) := by
  simp [World.cell?, h, byt, hi, List.getElem?_append_left]

theorem str_run {w : World} {g cap : Nat} {l : List Nat} {rest : List Value} (h : w.heap[g]? = some (.cells (l.map byt ++ rest).toArray 5 (0, 0))) :
    Sem.run Try.prog (convert 43 9 (.slice (some ⟨g, 0, none⟩) l.length cap)) w = .ok (.string (bstr l)) w :=
  run_convert_bytes_arg w 43 5 Try.underlying43 Try.underlying5 g 0 l.length cap (l.map fun b : Nat => (b : Int)) (by simp) (fun i hi => row_bytes h i hi) 9 Try.underlying9

set_option maxHeartbeats 2000000 in
set_option maxRecDepth 1000000 in
theorem alive_any (w : World) :
    Calls Try.prog 9 #[] w fun e w' => e = .returned (.bool true) ∧ Kept [] w w' := by
  go_enter Try.func9, Try.ntmps9
  go_wp2_with (go_at_call 10; refine (newWriter_any _).mono ?_; rintro e w' ⟨rfl, rfl⟩)
  refine (put_any _ _ _ _ _ _ _ (newWriter_at w) (by decide) (by decide) (by decide) (by decide) (by decide)).mono ?_
  rintro e w1 ⟨rfl, V1, ha1, hk1, hl1⟩
  go_wp2_with fail
  refine (put_any _ _ _ _ _ _ _ ha1 (by decide) (by decide) (by decide) (by decide) (by decide)).mono ?_
  rintro e w2 ⟨rfl, V2, ha2, hk2, hl2⟩
  go_wp2_with fail
  refine (put_any _ _ _ _ _ _ _ ha2 (by decide) (by decide) (by decide) (by decide) (by decide)).mono ?_
  rintro e w3 ⟨rfl, V3, ha3, hk3, hl3⟩
  go_wp2_with fail
  refine (bytes_any _ _ _ _ _ ha3 (by decide)).mono ?_
  rintro e w4 ⟨rfl, hr4, hk4⟩
  have hs : Sem.run Try.prog (convert 43 9 (.slice (some ⟨w3.heap.size, 0, none⟩) 2 2)) w4 = .ok (.string { data := #[176, 0] }) w4 := str_run (w := w4) (g := w3.heap.size) (cap := 2) (l := [176, 0]) (rest := []) (by rw [hr4]; rfl)
  have hk : Kept [] w w4 := by
    have k1 : Kept [] w w1 := (Kept.alloc (Kept.refl _ _) _).step hk1 (by simp [Value.ownBlock])
    have l1 : Lies w (.slice none 0 0) V1 := (Lies.refl _ _).trans hl1 (by simp)
    have k2 : Kept [] w w2 := k1.step hk2 (by
      intro x hx; rcases List.mem_cons.1 hx with h | h
      · right; omega
      · have := l1.mem x h; simpa [Value.ownBlock] using this)
    have l2 : Lies w (.slice none 0 0) V2 := l1.trans hl2 k1.size
    have k3 : Kept [] w w3 := k2.step hk3 (by
      intro x hx; rcases List.mem_cons.1 hx with h | h
      · right; omega
      · have := l2.mem x h; simpa [Value.ownBlock] using this)
    exact k3.trans hk4
  clear ha1 ha2 ha3 hk1 hk2 hk3 hl1 hl2 hl3 hr4 hk4
  go_wp2
  go_ret
  exact ⟨ret_bool (by decide), hk⟩

set_option maxHeartbeats 400000 in
theorem names_any (w : World) :
    Calls Try.prog 3 #[] w fun e w' => e = .returned (.bool true) ∧ Below w.heap.size w w' := by
  go_enter Try.func3, Try.ntmps3
  go_wp2_with (go_at_call 9; refine (alive_any _).mono ?_; rintro e w' ⟨rfl, hk⟩)
  go_ret
  exact ⟨rfl, hk.below (Nat.le_refl _) (by simp)⟩
end Go.Proofs.Ytoghkbajdljheaa
