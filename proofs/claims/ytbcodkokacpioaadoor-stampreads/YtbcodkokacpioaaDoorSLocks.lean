/-
  Under which numbers the program holds sync.Mutex's functions and types, and that it holds them.
-/
import Derived.Test.YtbcodkokacpioaaDoorProg
import Derived.Conc.MuLone
import Derived.KernelRfl
namespace Go.Proofs.YtbcodkokacpioaaDoor
abbrev muLink : Go.Conc.Locks.MuLink := { lock := 40, unlock := 41, ilock := 48, iunlock := 49, lockSlow := 60, unlockSlow := 63, disable := 56, enable := 58, acquire := 59, relMerge := 61, cas32 := 57, add32 := 62, tMutex := 66, tIMutex := 64, tPMutex := 83, tPIMutex := 89, tPI32 := 91, tUP := 93, tNoCopy := 61, tU32 := 62 }
theorem muLib : Go.Conc.Locks.MuLib Tryd.prog muLink :=
  ⟨Tryd.func40, Tryd.func41, Tryd.func48, Tryd.func49, Tryd.func56, Tryd.func58, Tryd.func59, Tryd.func61, Tryd.func57, Tryd.func62,
   Tryd.underlying64, Tryd.runUnderlying64, Tryd.sizeOf64, Tryd.isAgg64, Tryd.zeroValue64,
   Tryd.underlying66, Tryd.runUnderlying66, Tryd.sizeOf66, Tryd.isAgg66, Tryd.zeroValue66,
   Tryd.underlying83, Tryd.runUnderlying83, Tryd.sizeOf83, Tryd.isAgg83, Tryd.zeroValue83,
   Tryd.underlying89, Tryd.runUnderlying89, Tryd.sizeOf89, Tryd.isAgg89, Tryd.zeroValue89,
   Tryd.underlying91, Tryd.runUnderlying91, Tryd.sizeOf91, Tryd.isAgg91, Tryd.zeroValue91,
   Tryd.underlying93, Tryd.runUnderlying93, Tryd.sizeOf93, Tryd.isAgg93, Tryd.zeroValue93,
   Tryd.underlying61, Tryd.runUnderlying61, Tryd.sizeOf61, Tryd.isAgg61, Tryd.zeroValue61,
   Tryd.underlying21, Tryd.runUnderlying21, Tryd.sizeOf21, Tryd.isAgg21, Tryd.zeroValue21,
   (by kernel_rfl)⟩
end Go.Proofs.YtbcodkokacpioaaDoor
