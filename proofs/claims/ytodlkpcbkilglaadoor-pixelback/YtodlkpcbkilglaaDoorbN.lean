import Derived.Test.YtodlkpcbkilglaaDoorbW2
namespace Go.Proofs.YtodlkpcbkilglaaDoor.Bt
open Go.RowKit

theorem newWriter_at (w : World) : WriterAt (w.alloc (.cells #[.slice none 0 0, .int .u64 0, .int .i64 0] 114)) w.heap.size (.slice none 0 0) 0 0 := by
  refine ⟨?_, ?_⟩
  · rw [heap_alloc_new]; simp
  · simpa [big] using World.ownsRow_nil _ 0 5 1

/-- The text that bytes are. -/
def bstr (l : List Nat) : ByteArray := strOfNums (l.map fun b : Nat => (b : Int))

theorem row_bytes {w : World} {g e : Nat} {l : List Nat} {rest : List Value} (h : w.heap[g]? = some (.cells (l.map byt ++ rest).toArray e (0, 0))) (i : Nat) (hi : i < l.length) : w.cell? ⟨g, 0 + i, none⟩ = some (.int .u8 ((l.map fun b : Nat => (b : Int)).getD i 0)) := by
  simp [World.cell?, h, byt, hi, List.getElem?_append_left]

theorem str_run {w : World} {g cap : Nat} {l : List Nat} {rest : List Value} (h : w.heap[g]? = some (.cells (l.map byt ++ rest).toArray 5 (0, 0))) :
    Sem.run Tryd.prog (convert 37 9 (.slice (some ⟨g, 0, none⟩) l.length cap)) w = .ok (.string (bstr l)) w :=
  run_convert_bytes_arg w 37 5 Tryd.underlying37 Tryd.underlying5 g 0 l.length cap (l.map fun b : Nat => (b : Int)) (by simp) (fun i hi => row_bytes h i hi) 9 Tryd.underlying9




end Go.Proofs.YtodlkpcbkilglaaDoor.Bt
