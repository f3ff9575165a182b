/-
  NARROWER THAN 'FOR EVERY INPUT', by the rows' own cells (each row's printed sentence says how): EntryBytes: laid · EntryParse: laid.
  DERIVED. THE GIVEN ROWS OF THIS SEAT. 2 by the template 'for every input the law returns true; each argument reads behind the call as it read before'; 0 by the template 'total and deterministic' (their statements: YtjkneidoochfjaaGreatDoorTotals.lean).
  GIVEN WITH THE SEED: the statements are not yours to turn. If you find one false, say at which input.
  Laid BY PROGRAM, IN A SANDBOX (cutbox-rows.mjs): the forced cells as the released guide's own fill.sh prints them over the translation 0b6fe7bc7f7240d3… (all of the seat's roots in one cut). By AI agents, Wed Nov 11 2026. No macro, syntax, notation, axiom, sorry.
-/
import Derived.Test.YtjkneidoochfjaaGreatDoorChecked
import GoSem.PinnedTables
import GoSem.Claim
import GoSem.ClaimJoined
import GoSem.ClaimMapViews
import Derived.JoinedTies
import Derived.KernelRfl
namespace Go.Proofs.YtjkneidoochfjaaGreatDoor
/- THE CELL 'sum', in the pinned program and in every row, IS THE sha256 OF THE DUMP (.gsa) THAT YtjkneidoochfjaaGreatDoorProg.lean LOADS. Nothing in Lean hashes anything: it is a label: what it is worth is what the hold of that sum in a sandbox is worth. -/
noncomputable def Tryz.pinned : Pinned := { name := "ytjkneidoochfjaagreatdoor", sum := "0b6fe7bc7f7240d32847ff9979be6af41f47f18bce7bc2b60d3e7d38cb876b1b", checked := Tryz.checked }
namespace Rows
def none {H : Type} : Left H := { results := [], args := [] }

/- WHAT THE LISTED PACKAGE-LEVEL VARIABLES READ AS WHEN THE CALL BEGINS. Each datum BY PROGRAM (the guide's laid-datum.mjs) off the statement by which the dump's own 'gosem.cut.vars' lays the variable. In a bare row this is a premise. The card (YtjkneidoochfjaaGreatDoorCards.lean) ties it to the program's text. -/
def laid_unicode_utf8_acceptRanges {H : Type} : DataW H := .agg [.agg [.lit (.int .u8 128), .lit (.int .u8 191)], .agg [.lit (.int .u8 160), .lit (.int .u8 191)], .agg [.lit (.int .u8 128), .lit (.int .u8 159)], .agg [.lit (.int .u8 144), .lit (.int .u8 191)], .agg [.lit (.int .u8 128), .lit (.int .u8 143)], .agg [.lit (.int .u8 0), .lit (.int .u8 0)], .agg [.lit (.int .u8 0), .lit (.int .u8 0)], .agg [.lit (.int .u8 0), .lit (.int .u8 0)], .agg [.lit (.int .u8 0), .lit (.int .u8 0)], .agg [.lit (.int .u8 0), .lit (.int .u8 0)], .agg [.lit (.int .u8 0), .lit (.int .u8 0)], .agg [.lit (.int .u8 0), .lit (.int .u8 0)], .agg [.lit (.int .u8 0), .lit (.int .u8 0)], .agg [.lit (.int .u8 0), .lit (.int .u8 0)], .agg [.lit (.int .u8 0), .lit (.int .u8 0)], .agg [.lit (.int .u8 0), .lit (.int .u8 0)]]
def laid_cartage_api_ErrRange {H : Type} : DataW H := .iface "*errors.errorString" (.ptr (.agg [.lit (.string [97, 32, 110, 117, 109, 98, 101, 114, 32, 105, 115, 32, 111, 117, 116, 32, 111, 102, 32, 105, 116, 115, 32, 114, 97, 110, 103, 101])]))
def laid_cartage_api_ErrShort {H : Type} : DataW H := .iface "*errors.errorString" (.ptr (.agg [.lit (.string [115, 111, 109, 101, 116, 104, 105, 110, 103, 32, 105, 115, 32, 109, 105, 115, 115, 105, 110, 103, 32, 97, 116, 32, 116, 104, 101, 32, 101, 110, 100])]))
def laid_cartage_api_ErrLong {H : Type} : DataW H := .iface "*errors.errorString" (.ptr (.agg [.lit (.string [116, 104, 101, 114, 101, 32, 105, 115, 32, 109, 111, 114, 101, 32, 116, 104, 97, 110, 32, 109, 97, 121, 32, 98, 101])]))
def laid_cartage_api_ErrForm {H : Type} : DataW H := .iface "*errors.errorString" (.ptr (.agg [.lit (.string [105, 116, 32, 105, 115, 32, 110, 111, 116, 32, 111, 102, 32, 105, 116, 115, 32, 102, 111, 114, 109])]))
def laid_cartage_api_ErrSum {H : Type} : DataW H := .iface "*errors.errorString" (.ptr (.agg [.lit (.string [116, 104, 101, 32, 115, 117, 109, 32, 105, 115, 32, 110, 111, 116, 32, 114, 105, 103, 104, 116])]))
def laid_cartage_api_ErrName {H : Type} : DataW H := .iface "*errors.errorString" (.ptr (.agg [.lit (.string [105, 116, 32, 105, 115, 32, 110, 111, 32, 114, 105, 103, 104, 116, 32, 110, 97, 109, 101])]))
def laid_cartage_api_ErrKind {H : Type} : DataW H := .iface "*errors.errorString" (.ptr (.agg [.lit (.string [105, 116, 32, 105, 115, 32, 111, 102, 32, 97, 110, 111, 116, 104, 101, 114, 32, 107, 105, 110, 100])]))
def laid_cartage_api_ErrDepth {H : Type} : DataW H := .iface "*errors.errorString" (.ptr (.agg [.lit (.string [105, 116, 32, 103, 111, 101, 115, 32, 116, 111, 111, 32, 100, 101, 101, 112])]))
def laid_cartage_api_ErrMissing {H : Type} : DataW H := .iface "*errors.errorString" (.ptr (.agg [.lit (.string [97, 110, 32, 111, 98, 106, 101, 99, 116, 32, 105, 115, 32, 109, 105, 115, 115, 105, 110, 103])]))
def laid_cartage_api_ErrCas {H : Type} : DataW H := .iface "*errors.errorString" (.ptr (.agg [.lit (.string [97, 32, 114, 101, 102, 32, 105, 115, 32, 110, 111, 116, 32, 119, 104, 97, 116, 32, 119, 97, 115, 32, 101, 120, 112, 101, 99, 116, 101, 100])]))
def laid_cartage_api_ErrQuota {H : Type} : DataW H := .iface "*errors.errorString" (.ptr (.agg [.lit (.string [116, 104, 101, 32, 100, 105, 115, 107, 32, 104, 97, 115, 32, 110, 111, 32, 114, 111, 111, 109])]))
def laid_cartage_api_ErrQueue {H : Type} : DataW H := .iface "*errors.errorString" (.ptr (.agg [.lit (.string [116, 104, 101, 32, 113, 117, 101, 117, 101, 32, 104, 97, 115, 32, 110, 111, 32, 114, 111, 111, 109])]))
def laid_cartage_api_ErrLarge {H : Type} : DataW H := .iface "*errors.errorString" (.ptr (.agg [.lit (.string [105, 116, 32, 105, 115, 32, 116, 111, 111, 32, 108, 97, 114, 103, 101])]))
def laid_cartage_api_ErrNoRepo {H : Type} : DataW H := .iface "*errors.errorString" (.ptr (.agg [.lit (.string [116, 104, 101, 114, 101, 32, 105, 115, 32, 110, 111, 32, 115, 117, 99, 104, 32, 114, 101, 112, 111, 115, 105, 116, 111, 114, 121])]))
def laid_cartage_api_ErrExists {H : Type} : DataW H := .iface "*errors.errorString" (.ptr (.agg [.lit (.string [116, 104, 101, 114, 101, 32, 105, 115, 32, 115, 117, 99, 104, 32, 97, 32, 114, 101, 112, 111, 115, 105, 116, 111, 114, 121, 32, 97, 108, 114, 101, 97, 100, 121])]))
def laid_cartage_api_ErrDown {H : Type} : DataW H := .iface "*errors.errorString" (.ptr (.agg [.lit (.string [105, 116, 32, 105, 115, 32, 110, 111, 116, 32, 97, 118, 97, 105, 108, 97, 98, 108, 101, 32, 110, 111, 119])]))
def laid_cartage_api_ErrTimeout {H : Type} : DataW H := .iface "*errors.errorString" (.ptr (.agg [.lit (.string [110, 111, 98, 111, 100, 121, 32, 97, 110, 115, 119, 101, 114, 101, 100, 32, 105, 110, 32, 116, 105, 109, 101])]))
def laid_cartage_api_ErrStale {H : Type} : DataW H := .iface "*errors.errorString" (.ptr (.agg [.lit (.string [116, 104, 101, 32, 101, 112, 111, 99, 104, 32, 105, 115, 32, 110, 111, 116, 32, 116, 104, 101, 32, 99, 117, 114, 114, 101, 110, 116, 32, 111, 110, 101])]))
def laid_cartage_api_ErrState {H : Type} : DataW H := .iface "*errors.errorString" (.ptr (.agg [.lit (.string [105, 116, 32, 99, 97, 110, 32, 110, 111, 116, 32, 98, 101, 32, 100, 111, 110, 101, 32, 105, 110, 32, 116, 104, 105, 115, 32, 115, 116, 97, 116, 101])]))
def laid_cartage_api_ErrDup {H : Type} : DataW H := .iface "*errors.errorString" (.ptr (.agg [.lit (.string [105, 116, 32, 105, 115, 32, 116, 104, 101, 114, 101, 32, 97, 108, 114, 101, 97, 100, 121])]))
def laid_cartage_api_ErrNone {H : Type} : DataW H := .iface "*errors.errorString" (.ptr (.agg [.lit (.string [116, 104, 101, 114, 101, 32, 105, 115, 32, 110, 111, 110, 101])]))
def laid_cartage_api_ErrFull {H : Type} : DataW H := .iface "*errors.errorString" (.ptr (.agg [.lit (.string [116, 104, 101, 114, 101, 32, 97, 114, 101, 32, 97, 115, 32, 109, 97, 110, 121, 32, 97, 115, 32, 109, 97, 121, 32, 98, 101])]))
/-- One of Go's own tables, pinned by name: the form's constant. -/
def laid_unicode_utf8_first : DataW Unit := Go.Pinned.utf8First

/-- 'cartagelaw10.EntryBytes': WHATEVER THE INPUT: true; the input reads as it did. -/
def entryBytesSpec : ChangeSpec := { name := "entryBytes", fn := fun _ => fun
  | [d] => { results := [.lit (.bool true)], args := [d] }
  | _ => none }
def entryBytesRow : OpenClaim := { program := "ytjkneidoochfjaagreatdoor", sum := "0b6fe7bc7f7240d32847ff9979be6af41f47f18bce7bc2b60d3e7d38cb876b1b", func := "cartage/cartagelaw10.EntryBytes", spec := "entryBytes", inPlace := ["internal/bytealg.CountString", "internal/bytealg.IndexByteString", "internal/bytealg.IndexString", "internal/abi.NoEscape", "internal/bytealg.MakeNoZero", "internal/reflectlite.TypeOf"], unfollowed := true, recurses := true, named := ["cartage/api.ErrForm", "cartage/api.ErrLarge", "unicode/utf8.first", "unicode/utf8.acceptRanges", "internal/bytealg.MaxLen", "cartage/api.ErrLong", "cartage/api.ErrKind", "cartage/api.ErrRange", "cartage/api.ErrShort", "cartage/api.ErrSum", "cartage/api.ErrName", "cartage/api.ErrDepth", "cartage/api.ErrMissing", "cartage/api.ErrCas", "cartage/api.ErrQuota", "cartage/api.ErrQueue", "cartage/api.ErrNoRepo", "cartage/api.ErrExists", "cartage/api.ErrDown", "cartage/api.ErrTimeout", "cartage/api.ErrStale", "cartage/api.ErrState", "cartage/api.ErrDup", "cartage/api.ErrNone", "cartage/api.ErrFull"], apart := false, laid := [("unicode/utf8.acceptRanges", laid_unicode_utf8_acceptRanges), ("cartage/api.ErrRange", laid_cartage_api_ErrRange), ("cartage/api.ErrShort", laid_cartage_api_ErrShort), ("cartage/api.ErrLong", laid_cartage_api_ErrLong), ("cartage/api.ErrForm", laid_cartage_api_ErrForm), ("cartage/api.ErrSum", laid_cartage_api_ErrSum), ("cartage/api.ErrName", laid_cartage_api_ErrName), ("cartage/api.ErrKind", laid_cartage_api_ErrKind), ("cartage/api.ErrDepth", laid_cartage_api_ErrDepth), ("cartage/api.ErrMissing", laid_cartage_api_ErrMissing), ("cartage/api.ErrCas", laid_cartage_api_ErrCas), ("cartage/api.ErrQuota", laid_cartage_api_ErrQuota), ("cartage/api.ErrQueue", laid_cartage_api_ErrQueue), ("cartage/api.ErrLarge", laid_cartage_api_ErrLarge), ("cartage/api.ErrNoRepo", laid_cartage_api_ErrNoRepo), ("cartage/api.ErrExists", laid_cartage_api_ErrExists), ("cartage/api.ErrDown", laid_cartage_api_ErrDown), ("cartage/api.ErrTimeout", laid_cartage_api_ErrTimeout), ("cartage/api.ErrStale", laid_cartage_api_ErrStale), ("cartage/api.ErrState", laid_cartage_api_ErrState), ("cartage/api.ErrDup", laid_cartage_api_ErrDup), ("cartage/api.ErrNone", laid_cartage_api_ErrNone), ("cartage/api.ErrFull", laid_cartage_api_ErrFull), ("unicode/utf8.first", laid_unicode_utf8_first)] }
def EntryBytesSaid : Prop := entryBytesRow.holds Tryz.pinned (OpenSpec.ofChange entryBytesSpec)

/-- ITS FALSE NEIGHBOUR: 'it returns false'. Refute it at one input. -/
def entryBytesWrong : ChangeSpec := { name := "entryBytes", fn := fun _ => fun
  | [d] => { results := [.lit (.bool false)], args := [d] }
  | _ => none }
def EntryBytesWrongFalsely : Prop := entryBytesRow.holds Tryz.pinned (OpenSpec.ofChange entryBytesWrong)

/-- 'cartagelaw10.EntryParse': WHATEVER THE INPUT: true; the input reads as it did. -/
def entryParseSpec : ChangeSpec := { name := "entryParse", fn := fun _ => fun
  | [d] => { results := [.lit (.bool true)], args := [d] }
  | _ => none }
def entryParseRow : OpenClaim := { program := "ytjkneidoochfjaagreatdoor", sum := "0b6fe7bc7f7240d32847ff9979be6af41f47f18bce7bc2b60d3e7d38cb876b1b", func := "cartage/cartagelaw10.EntryParse", spec := "entryParse", inPlace := ["internal/bytealg.CountString", "internal/bytealg.IndexByteString", "internal/bytealg.IndexString", "internal/abi.NoEscape", "internal/bytealg.MakeNoZero", "internal/reflectlite.TypeOf"], unfollowed := true, recurses := true, named := ["cartage/api.ErrForm", "cartage/api.ErrLarge", "unicode/utf8.first", "unicode/utf8.acceptRanges", "internal/bytealg.MaxLen", "cartage/api.ErrLong", "cartage/api.ErrKind", "cartage/api.ErrRange", "cartage/api.ErrShort", "cartage/api.ErrSum", "cartage/api.ErrName", "cartage/api.ErrDepth", "cartage/api.ErrMissing", "cartage/api.ErrCas", "cartage/api.ErrQuota", "cartage/api.ErrQueue", "cartage/api.ErrNoRepo", "cartage/api.ErrExists", "cartage/api.ErrDown", "cartage/api.ErrTimeout", "cartage/api.ErrStale", "cartage/api.ErrState", "cartage/api.ErrDup", "cartage/api.ErrNone", "cartage/api.ErrFull"], apart := false, laid := [("unicode/utf8.acceptRanges", laid_unicode_utf8_acceptRanges), ("cartage/api.ErrRange", laid_cartage_api_ErrRange), ("cartage/api.ErrShort", laid_cartage_api_ErrShort), ("cartage/api.ErrLong", laid_cartage_api_ErrLong), ("cartage/api.ErrForm", laid_cartage_api_ErrForm), ("cartage/api.ErrSum", laid_cartage_api_ErrSum), ("cartage/api.ErrName", laid_cartage_api_ErrName), ("cartage/api.ErrKind", laid_cartage_api_ErrKind), ("cartage/api.ErrDepth", laid_cartage_api_ErrDepth), ("cartage/api.ErrMissing", laid_cartage_api_ErrMissing), ("cartage/api.ErrCas", laid_cartage_api_ErrCas), ("cartage/api.ErrQuota", laid_cartage_api_ErrQuota), ("cartage/api.ErrQueue", laid_cartage_api_ErrQueue), ("cartage/api.ErrLarge", laid_cartage_api_ErrLarge), ("cartage/api.ErrNoRepo", laid_cartage_api_ErrNoRepo), ("cartage/api.ErrExists", laid_cartage_api_ErrExists), ("cartage/api.ErrDown", laid_cartage_api_ErrDown), ("cartage/api.ErrTimeout", laid_cartage_api_ErrTimeout), ("cartage/api.ErrStale", laid_cartage_api_ErrStale), ("cartage/api.ErrState", laid_cartage_api_ErrState), ("cartage/api.ErrDup", laid_cartage_api_ErrDup), ("cartage/api.ErrNone", laid_cartage_api_ErrNone), ("cartage/api.ErrFull", laid_cartage_api_ErrFull), ("unicode/utf8.first", laid_unicode_utf8_first)] }
def EntryParseSaid : Prop := entryParseRow.holds Tryz.pinned (OpenSpec.ofChange entryParseSpec)

/-- ITS FALSE NEIGHBOUR: 'it returns false'. Refute it at one input. -/
def entryParseWrong : ChangeSpec := { name := "entryParse", fn := fun _ => fun
  | [d] => { results := [.lit (.bool false)], args := [d] }
  | _ => none }
def EntryParseWrongFalsely : Prop := entryParseRow.holds Tryz.pinned (OpenSpec.ofChange entryParseWrong)

/- THE SECOND FORM. 'bulk': how many values and letters a reading holds, each counted each time it is reached (what is shared counts as often as it is met; a slice's spare places count too). A statement '..UptoSaid' is the law's where the arguments, and the package variables that the reading takes, are together of bulk at most 1048576: NARROWER than '..Said'. Prove '..Said' where nothing that the law and all that it calls make is longer than what came in: it says more and counts as full. Else prove '..UptoSaid'. A law counts once. -/
mutual
def uptoBulk {H : Type} : DataW H → Nat
  | .lit (.string bytes) => bytes.length + 1
  | .lit _ => 1
  | .nil => 1
  | .ptr d => uptoBulk d + 1
  | .slice elems spare => uptoBulkAll elems + uptoBulkAll spare + 1
  | .agg parts => uptoBulkAll parts + 1
  | .iface _ d => uptoBulk d + 1
  | .map entries => uptoBulkEntries entries + 1
  | .held _ => 1
def uptoBulkAll {H : Type} : List (DataW H) → Nat
  | [] => 0
  | d :: r => uptoBulk d + uptoBulkAll r
def uptoBulkEntries {H : Type} : List (Lit × DataW H) → Nat
  | [] => 0
  | x :: r => uptoBulkEntry x + uptoBulkEntries r
def uptoBulkEntry {H : Type} : Lit × DataW H → Nat
  | (.string bytes, d) => bytes.length + uptoBulk d + 1
  | (_, d) => uptoBulk d + 1
 end
def uptoSmall : (H : Type) → List (DataW H) → Bool := fun _ ds => decide (uptoBulkAll ds ≤ 1048576)
def OpenSpec.upto (s : _root_.Go.ChangeSpec) : _root_.Go.OpenSpec := { _root_.Go.OpenSpec.ofChange s with cond := some uptoSmall }

/-- 'cartagelaw10.EntryBytes', WHERE WHAT IT READS IS OF BULK AT MOST 1048576: true; the input reads as it did. -/
def entryBytesUptoRow : OpenClaim := { program := "ytjkneidoochfjaagreatdoor", sum := "0b6fe7bc7f7240d32847ff9979be6af41f47f18bce7bc2b60d3e7d38cb876b1b", func := "cartage/cartagelaw10.EntryBytes", spec := "entryBytes", inPlace := ["internal/bytealg.CountString", "internal/bytealg.IndexByteString", "internal/bytealg.IndexString", "internal/abi.NoEscape", "internal/bytealg.MakeNoZero", "internal/reflectlite.TypeOf"], unfollowed := true, recurses := true, named := ["cartage/api.ErrForm", "cartage/api.ErrLarge", "unicode/utf8.first", "unicode/utf8.acceptRanges", "internal/bytealg.MaxLen", "cartage/api.ErrLong", "cartage/api.ErrKind", "cartage/api.ErrRange", "cartage/api.ErrShort", "cartage/api.ErrSum", "cartage/api.ErrName", "cartage/api.ErrDepth", "cartage/api.ErrMissing", "cartage/api.ErrCas", "cartage/api.ErrQuota", "cartage/api.ErrQueue", "cartage/api.ErrNoRepo", "cartage/api.ErrExists", "cartage/api.ErrDown", "cartage/api.ErrTimeout", "cartage/api.ErrStale", "cartage/api.ErrState", "cartage/api.ErrDup", "cartage/api.ErrNone", "cartage/api.ErrFull"], apart := false, laid := [("unicode/utf8.acceptRanges", laid_unicode_utf8_acceptRanges), ("cartage/api.ErrRange", laid_cartage_api_ErrRange), ("cartage/api.ErrShort", laid_cartage_api_ErrShort), ("cartage/api.ErrLong", laid_cartage_api_ErrLong), ("cartage/api.ErrForm", laid_cartage_api_ErrForm), ("cartage/api.ErrSum", laid_cartage_api_ErrSum), ("cartage/api.ErrName", laid_cartage_api_ErrName), ("cartage/api.ErrKind", laid_cartage_api_ErrKind), ("cartage/api.ErrDepth", laid_cartage_api_ErrDepth), ("cartage/api.ErrMissing", laid_cartage_api_ErrMissing), ("cartage/api.ErrCas", laid_cartage_api_ErrCas), ("cartage/api.ErrQuota", laid_cartage_api_ErrQuota), ("cartage/api.ErrQueue", laid_cartage_api_ErrQueue), ("cartage/api.ErrLarge", laid_cartage_api_ErrLarge), ("cartage/api.ErrNoRepo", laid_cartage_api_ErrNoRepo), ("cartage/api.ErrExists", laid_cartage_api_ErrExists), ("cartage/api.ErrDown", laid_cartage_api_ErrDown), ("cartage/api.ErrTimeout", laid_cartage_api_ErrTimeout), ("cartage/api.ErrStale", laid_cartage_api_ErrStale), ("cartage/api.ErrState", laid_cartage_api_ErrState), ("cartage/api.ErrDup", laid_cartage_api_ErrDup), ("cartage/api.ErrNone", laid_cartage_api_ErrNone), ("cartage/api.ErrFull", laid_cartage_api_ErrFull), ("unicode/utf8.first", laid_unicode_utf8_first)], narrowed := true }
def EntryBytesUptoSaid : Prop := entryBytesUptoRow.holds Tryz.pinned (OpenSpec.upto entryBytesSpec)

/-- 'cartagelaw10.EntryParse', WHERE WHAT IT READS IS OF BULK AT MOST 1048576: true; the input reads as it did. -/
def entryParseUptoRow : OpenClaim := { program := "ytjkneidoochfjaagreatdoor", sum := "0b6fe7bc7f7240d32847ff9979be6af41f47f18bce7bc2b60d3e7d38cb876b1b", func := "cartage/cartagelaw10.EntryParse", spec := "entryParse", inPlace := ["internal/bytealg.CountString", "internal/bytealg.IndexByteString", "internal/bytealg.IndexString", "internal/abi.NoEscape", "internal/bytealg.MakeNoZero", "internal/reflectlite.TypeOf"], unfollowed := true, recurses := true, named := ["cartage/api.ErrForm", "cartage/api.ErrLarge", "unicode/utf8.first", "unicode/utf8.acceptRanges", "internal/bytealg.MaxLen", "cartage/api.ErrLong", "cartage/api.ErrKind", "cartage/api.ErrRange", "cartage/api.ErrShort", "cartage/api.ErrSum", "cartage/api.ErrName", "cartage/api.ErrDepth", "cartage/api.ErrMissing", "cartage/api.ErrCas", "cartage/api.ErrQuota", "cartage/api.ErrQueue", "cartage/api.ErrNoRepo", "cartage/api.ErrExists", "cartage/api.ErrDown", "cartage/api.ErrTimeout", "cartage/api.ErrStale", "cartage/api.ErrState", "cartage/api.ErrDup", "cartage/api.ErrNone", "cartage/api.ErrFull"], apart := false, laid := [("unicode/utf8.acceptRanges", laid_unicode_utf8_acceptRanges), ("cartage/api.ErrRange", laid_cartage_api_ErrRange), ("cartage/api.ErrShort", laid_cartage_api_ErrShort), ("cartage/api.ErrLong", laid_cartage_api_ErrLong), ("cartage/api.ErrForm", laid_cartage_api_ErrForm), ("cartage/api.ErrSum", laid_cartage_api_ErrSum), ("cartage/api.ErrName", laid_cartage_api_ErrName), ("cartage/api.ErrKind", laid_cartage_api_ErrKind), ("cartage/api.ErrDepth", laid_cartage_api_ErrDepth), ("cartage/api.ErrMissing", laid_cartage_api_ErrMissing), ("cartage/api.ErrCas", laid_cartage_api_ErrCas), ("cartage/api.ErrQuota", laid_cartage_api_ErrQuota), ("cartage/api.ErrQueue", laid_cartage_api_ErrQueue), ("cartage/api.ErrLarge", laid_cartage_api_ErrLarge), ("cartage/api.ErrNoRepo", laid_cartage_api_ErrNoRepo), ("cartage/api.ErrExists", laid_cartage_api_ErrExists), ("cartage/api.ErrDown", laid_cartage_api_ErrDown), ("cartage/api.ErrTimeout", laid_cartage_api_ErrTimeout), ("cartage/api.ErrStale", laid_cartage_api_ErrStale), ("cartage/api.ErrState", laid_cartage_api_ErrState), ("cartage/api.ErrDup", laid_cartage_api_ErrDup), ("cartage/api.ErrNone", laid_cartage_api_ErrNone), ("cartage/api.ErrFull", laid_cartage_api_ErrFull), ("unicode/utf8.first", laid_unicode_utf8_first)], narrowed := true }
def EntryParseUptoSaid : Prop := entryParseUptoRow.holds Tryz.pinned (OpenSpec.upto entryParseSpec)

end Rows
end Go.Proofs.YtjkneidoochfjaaGreatDoor
