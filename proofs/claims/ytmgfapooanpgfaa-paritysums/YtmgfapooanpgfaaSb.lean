import Derived.Test.YtmgfapooanpgfaaSa
import Derived.Lib.BufferWrite
namespace Go.Proofs.Ytmgfapooanpgfaa
open Go.RowKit

/-- copy of a text into a row of noughts. -/
theorem copy_str (w : World) (g n dcap : Nat) (s : ByteArray) (hg : Row w g (rg (fun _ => 0) n)) :
    ∃ w2, Sem.run Try.prog (Builtin.copy_ #[40, 9] 3 #[.slice (some ⟨g, 0, none⟩) n dcap, .string s]) w = .ok (goInt ((min s.size n : Nat) : Int)) w2 ∧ Row w2 g (rg (fun x => (byl s).getD x 0) n) ∧ Kept [g] w w2 := by
  obtain ⟨i0, hi, hz0, hz1, hz2⟩ := info_parts Try.info5
  have hst := run_storeCells_at Try.prog g 0 5 (((byl s).take (min s.size n)).map byt) 0 ((rg (fun _ => 0) n).map byt).toArray w hg (by simp [rg_length, byl_length]; omega) (bytes_one _)
  have htk : List.take (min s.size n) (List.map (fun b : UInt8 => Value.int IntKind.u8 (b.toNat : Int)) s.data.toList) = ((byl s).take (min s.size n)).map byt := by
    rw [byl, ← List.map_take, ← List.map_take, List.map_map]
    rfl
  have hln : (((byl s).take (min s.size n)).map byt).length = min s.size n := by rw [List.length_map, List.length_take, byl_length]; omega
  rw [hln] at hst
  simp only [Nat.add_zero, Nat.zero_add, List.take_zero, List.nil_append] at hst
  refine ⟨w.setRow g (((byl s).take (min s.size n)).map byt ++ ((rg (fun _ => 0) n).map byt).drop (min s.size n)).toArray, ?_, ?_, setRow_kept _ _ _⟩
  · simp [Builtin.copy_, run_underlying Try.underlying40, Builtin.lenOf, Builtin.firstCells, sizeOf, typeInfo, hi]
    rw [show Nat.min s.size n = min s.size n from rfl, htk, hst, List.map_take]
    rfl
  · have h3 : ((byl s).take (min s.size n)).map byt ++ ((rg (fun _ => 0) n).map byt).drop (min s.size n) = (rg (fun x => (byl s).getD x 0) n).map byt := ?h3
    · unfold Row
      rw [setRow_heap w g _ _ 5 _ hg, h3]
    rw [← List.map_drop, ← List.map_append]
    refine congrArg (List.map byt) ?_
    apply List.ext_getElem?
    intro j
    by_cases hj : j < n
    · rw [rg_at _ _ _ hj]
      by_cases h2 : j < min s.size n
      · rw [List.getElem?_append_left (by rw [List.length_take, byl_length]; omega), List.getElem?_take, if_pos h2, List.getD_eq_getElem?_getD, List.getElem?_eq_getElem (by rw [byl_length]; omega)]
        rfl
      · rw [List.getElem?_append_right (by rw [List.length_take, byl_length]; omega), List.getElem?_drop, rg_at _ _ _ (by rw [List.length_take, byl_length]; omega), List.getD_eq_getElem?_getD, List.getElem?_eq_none (by rw [byl_length]; omega)]
        rfl
    · rw [List.getElem?_eq_none (by rw [List.length_append, List.length_take, byl_length, List.length_drop, rg_length]; omega), List.getElem?_eq_none (by rw [rg_length]; omega)]
end Go.Proofs.Ytmgfapooanpgfaa
