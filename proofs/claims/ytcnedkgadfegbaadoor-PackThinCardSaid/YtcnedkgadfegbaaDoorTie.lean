/-
  DERIVED. GIVEN WITH THE SEED: THE PROGRAM's TIES (one call each: nine closed facts by the kernel) AND EACH ROW's TIE, after the 31st guide's Derived/Test/Toyas{Tie, Card}.lean. No idea stands in it: it is a product of the set-up. Laid BY PROGRAM, IN A SANDBOX (cutbox-door.mjs). By AI agents, Wed Nov 11 2026. No macro, syntax, notation, axiom, sorry.
-/
import Derived.Test.YtcnedkgadfegbaaDoorRows
import Derived.LaidByTextLater
import Derived.SevenTiedAt
import Derived.LaidSub
import Derived.LaidOnce
namespace Go.Proofs.YtcnedkgadfegbaaDoor
open Go
set_option maxRecDepth 100000
theorem seatTie1 : Tryd.prog.laidByTextLater [("cartage/api.ErrRange", Rows.laid_cartage_api_ErrRange), ("cartage/api.ErrShort", Rows.laid_cartage_api_ErrShort), ("cartage/api.ErrLong", Rows.laid_cartage_api_ErrLong), ("cartage/api.ErrForm", Rows.laid_cartage_api_ErrForm), ("cartage/api.ErrKind", Rows.laid_cartage_api_ErrKind), ("cartage/api.ErrDepth", Rows.laid_cartage_api_ErrDepth), ("cartage/api.ErrMissing", Rows.laid_cartage_api_ErrMissing), ("cartage/api.ErrLarge", Rows.laid_cartage_api_ErrLarge), ("cartage/api.ErrState", Rows.laid_cartage_api_ErrState), ("cartage/api.ErrDup", Rows.laid_cartage_api_ErrDup), ("cartage/api.ErrFull", Rows.laid_cartage_api_ErrFull), ("cartage/sha.start", Rows.laid_cartage_sha_start), ("cartage/sha.rounds", Rows.laid_cartage_sha_rounds)] [.sentinel, .sentinel, .sentinel, .sentinel, .sentinel, .sentinel, .sentinel, .sentinel, .sentinel, .sentinel, .sentinel, .data, .data] true :=
  Program.laidByTextLater_by_one 228 8 65 (by kernel_rfl) (by kernel_rfl) (by kernel_rfl) (by kernel_rfl) (by kernel_rfl) (by kernel_rfl) (fun _ _ => by kernel_rfl)
theorem noOwnUnsafe : Tryd.pinned.checked.prog.headLifts.contains "ownunsafe" = false := by kernel_rfl
theorem tie : Tryd.prog.laidByTextLater [("cartage/api.ErrRange", Rows.laid_cartage_api_ErrRange), ("cartage/api.ErrShort", Rows.laid_cartage_api_ErrShort), ("cartage/api.ErrLong", Rows.laid_cartage_api_ErrLong), ("cartage/api.ErrForm", Rows.laid_cartage_api_ErrForm), ("cartage/api.ErrKind", Rows.laid_cartage_api_ErrKind), ("cartage/api.ErrDepth", Rows.laid_cartage_api_ErrDepth), ("cartage/api.ErrMissing", Rows.laid_cartage_api_ErrMissing), ("cartage/api.ErrLarge", Rows.laid_cartage_api_ErrLarge), ("cartage/api.ErrState", Rows.laid_cartage_api_ErrState), ("cartage/api.ErrDup", Rows.laid_cartage_api_ErrDup), ("cartage/api.ErrFull", Rows.laid_cartage_api_ErrFull), ("cartage/sha.start", Rows.laid_cartage_sha_start), ("cartage/sha.rounds", Rows.laid_cartage_sha_rounds)] [.sentinel, .sentinel, .sentinel, .sentinel, .sentinel, .sentinel, .sentinel, .sentinel, .sentinel, .sentinel, .sentinel, .data, .data] true :=
  Program.laidByTextLater.sub seatTie1 ["cartage/api.ErrRange", "cartage/api.ErrShort", "cartage/api.ErrLong", "cartage/api.ErrForm", "cartage/api.ErrKind", "cartage/api.ErrDepth", "cartage/api.ErrMissing", "cartage/api.ErrLarge", "cartage/api.ErrState", "cartage/api.ErrDup", "cartage/api.ErrFull", "cartage/sha.start", "cartage/sha.rounds"] (by kernel_rfl) (by kernel_rfl)
theorem packKnown_row_tie : Rows.packKnownRow.laidByTextAt .later Tryd.pinned [.sentinel, .sentinel, .sentinel, .sentinel, .sentinel, .sentinel, .sentinel, .sentinel, .sentinel, .sentinel, .sentinel, .data, .data] true :=
  OpenClaim.laidByTextAt_later rfl rfl tie noOwnUnsafe
theorem packThin_row_tie : Rows.packThinRow.laidByTextAt .later Tryd.pinned [.sentinel, .sentinel, .sentinel, .sentinel, .sentinel, .sentinel, .sentinel, .sentinel, .sentinel, .sentinel, .sentinel, .data, .data] true :=
  OpenClaim.laidByTextAt_later rfl rfl tie noOwnUnsafe
theorem packKnownUpto_row_tie : Rows.packKnownUptoRow.laidByTextAt .later Tryd.pinned [.sentinel, .sentinel, .sentinel, .sentinel, .sentinel, .sentinel, .sentinel, .sentinel, .sentinel, .sentinel, .sentinel, .data, .data] true :=
  OpenClaim.laidByTextAt_later rfl rfl tie noOwnUnsafe
theorem packThinUpto_row_tie : Rows.packThinUptoRow.laidByTextAt .later Tryd.pinned [.sentinel, .sentinel, .sentinel, .sentinel, .sentinel, .sentinel, .sentinel, .sentinel, .sentinel, .sentinel, .sentinel, .data, .data] true :=
  OpenClaim.laidByTextAt_later rfl rfl tie noOwnUnsafe
end Go.Proofs.YtcnedkgadfegbaaDoor
