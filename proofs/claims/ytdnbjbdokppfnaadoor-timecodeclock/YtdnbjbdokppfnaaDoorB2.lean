import Derived.Test.YtdnbjbdokppfnaaDoorB1
namespace Go.Proofs.YtdnbjbdokppfnaaDoor
open Go.RowKit

def z11 : Array Value := #[.int .u8 0, .int .u8 0, .int .u8 0, .int .u8 0, .int .u8 0, .int .u8 0, .int .u8 0, .int .u8 0, .int .u8 0, .int .u8 0, .int .u8 0]
theorem make11 (w : World) : Sem.run Tryd.prog (Instr.makeSlice 86 (.int .i64 0) (.int .i64 11)) w = .ok (.slice (some ⟨w.heap.size, 0, none⟩) 0 11) (w.alloc (.cells z11 5 (0, 0))) := by kernel_rfl
theorem own11 (w : World) : (w.alloc (.cells z11 5 (0, 0))).ownsRow 0 5 1 (.slice (some ⟨w.heap.size, 0, none⟩) 0 11) 0 [] := by
  refine ⟨rfl, .inr ⟨w.heap.size, 11, z11, rfl, by omega, blk_new _ _ _, by decide, by decide, by decide, by decide⟩⟩
end Go.Proofs.YtdnbjbdokppfnaaDoor
