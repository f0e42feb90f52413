import Derived.Test.YtlkbpimlofgflaaDoorProg
import Derived.Conc.RwLib
import Derived.Conc.MuData
import Derived.KernelRfl
namespace Go.Proofs
abbrev Tryd.muLink : Go.Conc.Locks.MuLink := { lock := 24, unlock := 25, ilock := 40, iunlock := 41, lockSlow := 52, unlockSlow := 55, disable := 48, enable := 50, acquire := 51, relMerge := 53, cas32 := 49, add32 := 54, tMutex := 69, tIMutex := 67, tPMutex := 85, tPIMutex := 98, tPI32 := 100, tUP := 102, tNoCopy := 64, tU32 := 65 }
theorem Tryd.muLib : Go.Conc.Locks.MuLib Tryd.prog Tryd.muLink :=
  ⟨Tryd.func24, Tryd.func25, Tryd.func40, Tryd.func41, Tryd.func48, Tryd.func50, Tryd.func51, Tryd.func53, Tryd.func49, Tryd.func54, Tryd.underlying67, Tryd.runUnderlying67, Tryd.sizeOf67, Tryd.isAgg67, Tryd.zeroValue67, Tryd.underlying69, Tryd.runUnderlying69, Tryd.sizeOf69, Tryd.isAgg69, Tryd.zeroValue69, Tryd.underlying85, Tryd.runUnderlying85, Tryd.sizeOf85, Tryd.isAgg85, Tryd.zeroValue85, Tryd.underlying98, Tryd.runUnderlying98, Tryd.sizeOf98, Tryd.isAgg98, Tryd.zeroValue98, Tryd.underlying100, Tryd.runUnderlying100, Tryd.sizeOf100, Tryd.isAgg100, Tryd.zeroValue100, Tryd.underlying102, Tryd.runUnderlying102, Tryd.sizeOf102, Tryd.isAgg102, Tryd.zeroValue102, Tryd.underlying64, Tryd.runUnderlying64, Tryd.sizeOf64, Tryd.isAgg64, Tryd.zeroValue64, Tryd.underlying21, Tryd.runUnderlying21, Tryd.sizeOf21, Tryd.isAgg21, Tryd.zeroValue21, (by kernel_rfl)⟩
end Go.Proofs
