/- The library's contracts that layer 3 leans on, laid at this program's numbers. -/
import Derived.Test.YtbllilokcalbcaaDoorMBase
import Derived.Shelf.Small.Strs
namespace Go.Proofs.YtbllilokcalbcaaDoor
open Go Go.RowKit
/-! strings.IndexByte -/
section
open Go.Shelf
def ixb_ren : Go.Shelf.Ren := ⟨fun | 137 => 86 | 217 => 95 | 266 => 99 | n => n, fun | 9 => 9 | 5 => 5 | 3 => 3 | n => n, fun | n => n⟩
theorem ixb_lays : Go.Proofs.Lays.n137 Tryd.prog ixb_ren := {
  mixed := by kernel_rfl
  f137 := Tryd.func86.trans (congrArg some (by kernel_rfl))
  f217 := Tryd.func95.trans (congrArg some (by kernel_rfl))
  f266 := Tryd.func99.trans (congrArg some (by kernel_rfl))
  t3 := Tryd.underlying3
  a3 := Tryd.isAgg3
  z3 := Tryd.sizeOf3
  v3 := Tryd.zeroValue3
  t5 := Tryd.underlying5
  a5 := Tryd.isAgg5
  z5 := Tryd.sizeOf5
  v5 := Tryd.zeroValue5
  t9 := Tryd.underlying9
  a9 := Tryd.isAgg9
  z9 := Tryd.sizeOf9
  v9 := Tryd.zeroValue9 }
end
end Go.Proofs.YtbllilokcalbcaaDoor
