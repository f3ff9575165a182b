/- The walk of sha.Hex: a digest as 64 figures. -/
import Derived.Test.YtbllilokcalbcaaDoorMShaMaths
import Derived.Test.YtbllilokcalbcaaDoorMShaAdds
import Derived.Lib.SlBytesConst
namespace Go.Proofs.YtbllilokcalbcaaDoor
open Go Go.RowKit
end Go.Proofs.YtbllilokcalbcaaDoor
/- The walk of the chapter's example (alive). -/
namespace Go.Proofs.YtbllilokcalbcaaDoor
open Go Go.RowKit
theorem alive_sum : Sha.hex (Sha.sum [97, 98, 99]) = [98, 97, 55, 56, 49, 54, 98, 102, 56, 102, 48, 49, 99, 102, 101, 97, 52, 49, 52, 49, 52, 48, 100, 101, 53, 100, 97, 101, 50, 50, 50, 51, 98, 48, 48, 51, 54, 49, 97, 51, 57, 54, 49, 55, 55, 97, 57, 99, 98, 52, 49, 48, 102, 102, 54, 49, 102, 50, 48, 48, 49, 53, 97, 100] := by decide +kernel
theorem alive_text : textOf [98, 97, 55, 56, 49, 54, 98, 102, 56, 102, 48, 49, 99, 102, 101, 97, 52, 49, 52, 49, 52, 48, 100, 101, 53, 100, 97, 101, 50, 50, 50, 51, 98, 48, 48, 51, 54, 49, 97, 51, 57, 54, 49, 55, 55, 97, 57, 99, 98, 52, 49, 48, 102, 102, 54, 49, 102, 50, 48, 48, 49, 53, 97, 100] = ⟨#[98, 97, 55, 56, 49, 54, 98, 102, 56, 102, 48, 49, 99, 102, 101, 97, 52, 49, 52, 49, 52, 48, 100, 101, 53, 100, 97, 101, 50, 50, 50, 51, 98, 48, 48, 51, 54, 49, 97, 51, 57, 54, 49, 55, 55, 97, 57, 99, 98, 52, 49, 48, 102, 102, 54, 49, 102, 50, 48, 48, 49, 53, 97, 100]⟩ := by kernel_rfl
end Go.Proofs.YtbllilokcalbcaaDoor
