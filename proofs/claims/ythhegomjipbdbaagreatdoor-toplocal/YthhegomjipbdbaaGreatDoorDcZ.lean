import Derived.Test.YthhegomjipbdbaaGreatDoorSkZ
import Derived.Defers
import Derived.Recover
import Derived.Laws.Pointers
namespace Go.Proofs.YthhegomjipbdbaaGreatDoor
open Go.RowKit

end Go.Proofs.YthhegomjipbdbaaGreatDoor

namespace Go.Proofs.YthhegomjipbdbaaGreatDoor
open Go.RowKit

end Go.Proofs.YthhegomjipbdbaaGreatDoor

namespace Go.Proofs.YthhegomjipbdbaaGreatDoor
open Go.RowKit

set_option maxHeartbeats 2000000 in
set_option maxRecDepth 100000 in
theorem Encode_coded (W H n sb so sc : Nat) (D T d : Int) (f : Nat → Int) (w : World) (hs : Smp w sb so n f) (hT : Tab w) (hz : szd (W : Int) (H : Int) = true) (hn : n = W * H) (hD : Dp D T) (d0 : 0 ≤ d) (d1 : d ≤ 63) (hf : ∀ i, 0 ≤ f i ∧ f i ≤ T)
    (hc : ∀ j, Enc T d W n f j → (nby (xw T d W f j) : Int) < (rsz W H D).1) :
    Calls Tryz.prog 69 #[.agg #[.int .i64 (W : Int), .int .i64 (H : Int), .slice (some ⟨sb, so, none⟩) n sc], .int .i64 D, .int .i64 d] w fun e w' => ∃ j g, Enc T d W n f j ∧ e = .returned (.tuple #[.slice (some ⟨g, 0, none⟩) (nby (xw T d W f j)) (nby (xw T d W f j)), .int .i64 0]) ∧ w.heap.size ≤ g ∧ w'.heap[g]? = some (.cells ((byts (xw T d W f j)).map byt).toArray 5 (0, 0)) ∧ Kept [] w w' := by
  obtain ⟨w1, hw1, k1, b1⟩ := three_new w (.int .i64 (W : Int)) (.int .i64 (H : Int)) (.slice (some ⟨sb, so, none⟩) n sc) 132
  obtain ⟨Q, hQ⟩ : ∃ Q, w.heap.size = Q := ⟨_, rfl⟩
  have hsz := k1.size
  rw [hQ] at b1
  obtain ⟨z0, z1, z2⟩ := agg3' b1
  have C := Hid.mk (encode_mid W H n sb so sc D T d f w1 (hs.keep k1 (by simp)) (hT.kept k1 (by simp)) hz hn hD d0 d1 hf hc)
  have K1 := Hid.mk k1
  have HQ := Hid.mk hQ
  clear hs hT hz hn hD hf hc b1 k1
  go_enter Tryz.func69, Tryz.ntmps69
  go_wp2_with (fail)
  refine C.out.mono ?_
  rintro e w2 ⟨j, g, G, hE, rfl, hg, -, hb, -, k2⟩
  have HE := Hid.mk hE
  have HB := Hid.mk hb
  have K2 := Hid.mk k2
  have Hg := Hid.mk hg
  clear hE hb k2 C hg
  obtain ⟨L, hL⟩ : ∃ L, nby (xw T d W f j) = L := ⟨_, rfl⟩
  have HL := Hid.mk hL
  rw [hL]
  clear hL
  go_wp2
  go_ret2
  exact ⟨j, g, HE.out, by rw [HL.out]; rfl, by have := Hg.out; have := HQ.out; omega, HB.out, K1.out.trans K2.out⟩


end Go.Proofs.YthhegomjipbdbaaGreatDoor
