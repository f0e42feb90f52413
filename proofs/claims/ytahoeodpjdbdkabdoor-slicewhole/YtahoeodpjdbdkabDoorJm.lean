import Derived.Test.YtahoeodpjdbdkabDoorFqZ
namespace Go.Proofs.YtahoeodpjdbdkabDoor
open Go.RowKit

theorem Smp.congr {w : World} {sb so n : Nat} {f g : Nat → Int} (h : Smp w sb so n f) (hg : ∀ i, i < n → g i = f i) : Smp w sb so n g := fun i hi => by rw [hg i hi]; exact h i hi
/-- Within the block as it is, nought behind. -/
def cutf (n : Nat) (f : Nat → Int) : Nat → Int := fun i => if i < n then f i else 0
theorem cutf_in (n : Nat) (f : Nat → Int) (i : Nat) (h : i < n) : cutf n f i = f i := if_pos h

/-- What may be coded. -/
theorem MayC.blk {W H D d : Int} {n : Nat} {f : Nat → Int} (h : MayC W H D d n f) (hf : ∀ i, 0 ≤ f i ∧ f i ≤ 65535) : ∃ (w h : Nat) (T : Int), W = (w : Int) ∧ H = (h : Int) ∧ Blk w h n D T d (cutf n f) := by
  obtain ⟨h1, h2, h3, h4, h5, h6⟩ := h
  have hb := szd_in h1
  refine ⟨W.toNat, H.toNat, if D = 10 then 1023 else 4095, by omega, by omega, ?_, ?_, ?_, h4, h5, ?_⟩
  · rw [show ((W.toNat : Nat) : Int) = W by omega, show ((H.toNat : Nat) : Int) = H by omega]; exact h1
  · have : ((W.toNat * H.toNat : Nat) : Int) = W * H := by rw [Int.natCast_mul, show ((W.toNat : Nat) : Int) = W by omega, show ((H.toNat : Nat) : Int) = H by omega]
    omega
  · rcases h3 with rfl | rfl
    · exact .inl ⟨rfl, rfl⟩
    · exact .inr ⟨rfl, rfl⟩
  · intro i
    unfold cutf
    split
    · have := h6 i (by assumption)
      have := hf i
      rcases h3 with rfl | rfl
      · rw [if_pos rfl]; have e : (2 : Int) ^ (Int.toNat 10) = 1024 := rfl; omega
      · rw [if_neg (by decide)]; have e : (2 : Int) ^ (Int.toNat 12) = 4096 := rfl; omega
    · split <;> omega
theorem heap_reads' {w : World} {g : Nat} {l : List Nat} (h : w.heap[g]? = some (.cells (l.map byt).toArray 5 (0, 0))) : Reads w (some ⟨g, 0, none⟩) l :=
  .inr ⟨g, 0, rfl, fun i hi => by simp [World.cell?, h, hi]⟩
end Go.Proofs.YtahoeodpjdbdkabDoor
