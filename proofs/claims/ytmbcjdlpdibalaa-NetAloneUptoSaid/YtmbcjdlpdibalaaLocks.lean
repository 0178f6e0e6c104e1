/-
  That the program holds the functions and types of sync.Mutex: their numbers.
-/
import Derived.Test.YtmbcjdlpdibalaaProg
import Derived.Conc.RwLib
import Derived.Conc.MuData
import Derived.KernelRfl
namespace Go.Proofs
abbrev Try.muLink : Go.Conc.Locks.MuLink := { lock := 30, unlock := 31, ilock := 42, iunlock := 43, lockSlow := 59, unlockSlow := 62, disable := 55, enable := 57, acquire := 58, relMerge := 60, cas32 := 56, add32 := 61, tMutex := 79, tIMutex := 77, tPMutex := 101, tPIMutex := 106, tPI32 := 108, tUP := 110, tNoCopy := 74, tU32 := 75 }
theorem Try.muLib : Go.Conc.Locks.MuLib Try.prog Try.muLink :=
  ⟨Try.func30, Try.func31, Try.func42, Try.func43, Try.func55, Try.func57, Try.func58, Try.func60, Try.func56, Try.func61, Try.underlying77, Try.runUnderlying77, Try.sizeOf77, Try.isAgg77, Try.zeroValue77, Try.underlying79, Try.runUnderlying79, Try.sizeOf79, Try.isAgg79, Try.zeroValue79, Try.underlying101, Try.runUnderlying101, Try.sizeOf101, Try.isAgg101, Try.zeroValue101, Try.underlying106, Try.runUnderlying106, Try.sizeOf106, Try.isAgg106, Try.zeroValue106, Try.underlying108, Try.runUnderlying108, Try.sizeOf108, Try.isAgg108, Try.zeroValue108, Try.underlying110, Try.runUnderlying110, Try.sizeOf110, Try.isAgg110, Try.zeroValue110, Try.underlying74, Try.runUnderlying74, Try.sizeOf74, Try.isAgg74, Try.zeroValue74, Try.underlying21, Try.runUnderlying21, Try.sizeOf21, Try.isAgg21, Try.zeroValue21, (by kernel_rfl)⟩
theorem Try.muData : Go.Conc.Locks.MuData Try.prog Try.muLink := ⟨Try.underlying75, by kernel_rfl, by kernel_rfl, by kernel_rfl, by kernel_rfl, by kernel_rfl⟩
end Go.Proofs
