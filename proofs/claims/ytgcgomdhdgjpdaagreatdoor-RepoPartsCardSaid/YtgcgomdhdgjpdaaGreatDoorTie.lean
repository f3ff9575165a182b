/-
  DERIVED. GIVEN WITH THE SEED: THE PROGRAM's TIES (one call each: nine closed facts by the kernel) AND EACH ROW's TIE, after the 31st guide's Derived/Test/Toyas{Tie, Card}.lean. No idea stands in it: it is a product of the set-up. Laid BY PROGRAM, IN A SANDBOX (cutbox-door.mjs). By AI agents, Wed Nov 11 2026. No macro, syntax, notation, axiom, sorry.
-/
import Derived.Test.YtgcgomdhdgjpdaaGreatDoorRows
import Derived.LaidByTextLater
import Derived.SevenTiedAt
import Derived.LaidSub
import Derived.LaidOnce
namespace Go.Proofs.YtgcgomdhdgjpdaaGreatDoor
open Go
set_option maxRecDepth 100000
theorem seatTie1 : Tryz.prog.laidByTextLater [("unicode/utf8.acceptRanges", Rows.laid_unicode_utf8_acceptRanges), ("cartage/api.ErrRange", Rows.laid_cartage_api_ErrRange), ("cartage/api.ErrShort", Rows.laid_cartage_api_ErrShort), ("cartage/api.ErrLong", Rows.laid_cartage_api_ErrLong), ("cartage/api.ErrForm", Rows.laid_cartage_api_ErrForm), ("cartage/api.ErrSum", Rows.laid_cartage_api_ErrSum), ("cartage/api.ErrName", Rows.laid_cartage_api_ErrName), ("cartage/api.ErrKind", Rows.laid_cartage_api_ErrKind), ("cartage/api.ErrDepth", Rows.laid_cartage_api_ErrDepth), ("cartage/api.ErrMissing", Rows.laid_cartage_api_ErrMissing), ("cartage/api.ErrCas", Rows.laid_cartage_api_ErrCas), ("cartage/api.ErrQuota", Rows.laid_cartage_api_ErrQuota), ("cartage/api.ErrQueue", Rows.laid_cartage_api_ErrQueue), ("cartage/api.ErrLarge", Rows.laid_cartage_api_ErrLarge), ("cartage/api.ErrNoRepo", Rows.laid_cartage_api_ErrNoRepo), ("cartage/api.ErrExists", Rows.laid_cartage_api_ErrExists), ("cartage/api.ErrDown", Rows.laid_cartage_api_ErrDown), ("cartage/api.ErrTimeout", Rows.laid_cartage_api_ErrTimeout), ("cartage/api.ErrStale", Rows.laid_cartage_api_ErrStale), ("cartage/api.ErrState", Rows.laid_cartage_api_ErrState), ("cartage/api.ErrDup", Rows.laid_cartage_api_ErrDup), ("cartage/api.ErrNone", Rows.laid_cartage_api_ErrNone), ("cartage/api.ErrFull", Rows.laid_cartage_api_ErrFull), ("cartage/sha.start", Rows.laid_cartage_sha_start), ("cartage/sha.rounds", Rows.laid_cartage_sha_rounds)] [.data, .sentinel, .sentinel, .sentinel, .sentinel, .sentinel, .sentinel, .sentinel, .sentinel, .sentinel, .sentinel, .sentinel, .sentinel, .sentinel, .sentinel, .sentinel, .sentinel, .sentinel, .sentinel, .sentinel, .sentinel, .sentinel, .sentinel, .data, .data] true :=
  Program.laidByTextLater_by_one 447 8 65 (by kernel_rfl) (by kernel_rfl) (by kernel_rfl) (by kernel_rfl) (by kernel_rfl) (by kernel_rfl) (fun _ _ => by kernel_rfl)
theorem pin_laid_unicode_utf8_first : Tryz.pinned.checked.prog.pinnedFits "unicode/utf8.first" = true := by kernel_rfl
theorem noOwnUnsafe : Tryz.pinned.checked.prog.headLifts.contains "ownunsafe" = false := by kernel_rfl
theorem fits1 : Tryz.pinned.checked.prog.listedFits [("unicode/utf8.acceptRanges", Rows.laid_unicode_utf8_acceptRanges), ("cartage/api.ErrRange", Rows.laid_cartage_api_ErrRange), ("cartage/api.ErrShort", Rows.laid_cartage_api_ErrShort), ("cartage/api.ErrLong", Rows.laid_cartage_api_ErrLong), ("cartage/api.ErrForm", Rows.laid_cartage_api_ErrForm), ("cartage/api.ErrKind", Rows.laid_cartage_api_ErrKind), ("cartage/api.ErrMissing", Rows.laid_cartage_api_ErrMissing), ("cartage/api.ErrCas", Rows.laid_cartage_api_ErrCas), ("cartage/api.ErrLarge", Rows.laid_cartage_api_ErrLarge), ("cartage/api.ErrStale", Rows.laid_cartage_api_ErrStale), ("cartage/api.ErrDup", Rows.laid_cartage_api_ErrDup), ("cartage/api.ErrFull", Rows.laid_cartage_api_ErrFull), ("cartage/sha.start", Rows.laid_cartage_sha_start), ("cartage/sha.rounds", Rows.laid_cartage_sha_rounds), ("unicode/utf8.first", Rows.laid_unicode_utf8_first)] = true := by
  unfold Program.listedFits
  rw [noOwnUnsafe]
  kernel_rfl
theorem tie : Tryz.prog.laidByTextLater [("unicode/utf8.acceptRanges", Rows.laid_unicode_utf8_acceptRanges), ("cartage/api.ErrRange", Rows.laid_cartage_api_ErrRange), ("cartage/api.ErrShort", Rows.laid_cartage_api_ErrShort), ("cartage/api.ErrLong", Rows.laid_cartage_api_ErrLong), ("cartage/api.ErrForm", Rows.laid_cartage_api_ErrForm), ("cartage/api.ErrKind", Rows.laid_cartage_api_ErrKind), ("cartage/api.ErrMissing", Rows.laid_cartage_api_ErrMissing), ("cartage/api.ErrCas", Rows.laid_cartage_api_ErrCas), ("cartage/api.ErrLarge", Rows.laid_cartage_api_ErrLarge), ("cartage/api.ErrStale", Rows.laid_cartage_api_ErrStale), ("cartage/api.ErrDup", Rows.laid_cartage_api_ErrDup), ("cartage/api.ErrFull", Rows.laid_cartage_api_ErrFull), ("cartage/sha.start", Rows.laid_cartage_sha_start), ("cartage/sha.rounds", Rows.laid_cartage_sha_rounds)] [.data, .sentinel, .sentinel, .sentinel, .sentinel, .sentinel, .sentinel, .sentinel, .sentinel, .sentinel, .sentinel, .sentinel, .data, .data] true :=
  Program.laidByTextLater.sub seatTie1 ["unicode/utf8.acceptRanges", "cartage/api.ErrRange", "cartage/api.ErrShort", "cartage/api.ErrLong", "cartage/api.ErrForm", "cartage/api.ErrKind", "cartage/api.ErrMissing", "cartage/api.ErrCas", "cartage/api.ErrLarge", "cartage/api.ErrStale", "cartage/api.ErrDup", "cartage/api.ErrFull", "cartage/sha.start", "cartage/sha.rounds"] (by kernel_rfl) (by kernel_rfl)
theorem repoWhole_row_tie : Rows.repoWholeRow.laidByTextAt .later Tryz.pinned [.data, .sentinel, .sentinel, .sentinel, .sentinel, .sentinel, .sentinel, .sentinel, .sentinel, .sentinel, .sentinel, .sentinel, .data, .data, .pinned] true :=
  OpenClaim.laidByTextAt_pinned rfl rfl tie rfl rfl rfl rfl (fun y hy _e => by
    simp only [Rows.repoWholeRow, List.zip_cons_cons, List.zip_nil_right, List.mem_cons, List.mem_nil_iff, or_false] at hy
    rcases hy with rfl | rfl | rfl | rfl | rfl | rfl | rfl | rfl | rfl | rfl | rfl | rfl | rfl | rfl | rfl
    · cases _e
    · cases _e
    · cases _e
    · cases _e
    · cases _e
    · cases _e
    · cases _e
    · cases _e
    · cases _e
    · cases _e
    · cases _e
    · cases _e
    · cases _e
    · cases _e
    · exact ⟨pin_laid_unicode_utf8_first, by kernel_rfl⟩) fits1
theorem fits2 : Tryz.pinned.checked.prog.listedFits [("unicode/utf8.acceptRanges", Rows.laid_unicode_utf8_acceptRanges), ("cartage/api.ErrRange", Rows.laid_cartage_api_ErrRange), ("cartage/api.ErrShort", Rows.laid_cartage_api_ErrShort), ("cartage/api.ErrLong", Rows.laid_cartage_api_ErrLong), ("cartage/api.ErrForm", Rows.laid_cartage_api_ErrForm), ("cartage/api.ErrSum", Rows.laid_cartage_api_ErrSum), ("cartage/api.ErrName", Rows.laid_cartage_api_ErrName), ("cartage/api.ErrKind", Rows.laid_cartage_api_ErrKind), ("cartage/api.ErrDepth", Rows.laid_cartage_api_ErrDepth), ("cartage/api.ErrMissing", Rows.laid_cartage_api_ErrMissing), ("cartage/api.ErrCas", Rows.laid_cartage_api_ErrCas), ("cartage/api.ErrQuota", Rows.laid_cartage_api_ErrQuota), ("cartage/api.ErrQueue", Rows.laid_cartage_api_ErrQueue), ("cartage/api.ErrLarge", Rows.laid_cartage_api_ErrLarge), ("cartage/api.ErrNoRepo", Rows.laid_cartage_api_ErrNoRepo), ("cartage/api.ErrExists", Rows.laid_cartage_api_ErrExists), ("cartage/api.ErrDown", Rows.laid_cartage_api_ErrDown), ("cartage/api.ErrTimeout", Rows.laid_cartage_api_ErrTimeout), ("cartage/api.ErrStale", Rows.laid_cartage_api_ErrStale), ("cartage/api.ErrState", Rows.laid_cartage_api_ErrState), ("cartage/api.ErrDup", Rows.laid_cartage_api_ErrDup), ("cartage/api.ErrNone", Rows.laid_cartage_api_ErrNone), ("cartage/api.ErrFull", Rows.laid_cartage_api_ErrFull), ("cartage/sha.start", Rows.laid_cartage_sha_start), ("cartage/sha.rounds", Rows.laid_cartage_sha_rounds), ("unicode/utf8.first", Rows.laid_unicode_utf8_first)] = true := by
  unfold Program.listedFits
  rw [noOwnUnsafe]
  kernel_rfl
theorem tie2 : Tryz.prog.laidByTextLater [("unicode/utf8.acceptRanges", Rows.laid_unicode_utf8_acceptRanges), ("cartage/api.ErrRange", Rows.laid_cartage_api_ErrRange), ("cartage/api.ErrShort", Rows.laid_cartage_api_ErrShort), ("cartage/api.ErrLong", Rows.laid_cartage_api_ErrLong), ("cartage/api.ErrForm", Rows.laid_cartage_api_ErrForm), ("cartage/api.ErrSum", Rows.laid_cartage_api_ErrSum), ("cartage/api.ErrName", Rows.laid_cartage_api_ErrName), ("cartage/api.ErrKind", Rows.laid_cartage_api_ErrKind), ("cartage/api.ErrDepth", Rows.laid_cartage_api_ErrDepth), ("cartage/api.ErrMissing", Rows.laid_cartage_api_ErrMissing), ("cartage/api.ErrCas", Rows.laid_cartage_api_ErrCas), ("cartage/api.ErrQuota", Rows.laid_cartage_api_ErrQuota), ("cartage/api.ErrQueue", Rows.laid_cartage_api_ErrQueue), ("cartage/api.ErrLarge", Rows.laid_cartage_api_ErrLarge), ("cartage/api.ErrNoRepo", Rows.laid_cartage_api_ErrNoRepo), ("cartage/api.ErrExists", Rows.laid_cartage_api_ErrExists), ("cartage/api.ErrDown", Rows.laid_cartage_api_ErrDown), ("cartage/api.ErrTimeout", Rows.laid_cartage_api_ErrTimeout), ("cartage/api.ErrStale", Rows.laid_cartage_api_ErrStale), ("cartage/api.ErrState", Rows.laid_cartage_api_ErrState), ("cartage/api.ErrDup", Rows.laid_cartage_api_ErrDup), ("cartage/api.ErrNone", Rows.laid_cartage_api_ErrNone), ("cartage/api.ErrFull", Rows.laid_cartage_api_ErrFull), ("cartage/sha.start", Rows.laid_cartage_sha_start), ("cartage/sha.rounds", Rows.laid_cartage_sha_rounds)] [.data, .sentinel, .sentinel, .sentinel, .sentinel, .sentinel, .sentinel, .sentinel, .sentinel, .sentinel, .sentinel, .sentinel, .sentinel, .sentinel, .sentinel, .sentinel, .sentinel, .sentinel, .sentinel, .sentinel, .sentinel, .sentinel, .sentinel, .data, .data] true :=
  Program.laidByTextLater.sub seatTie1 ["unicode/utf8.acceptRanges", "cartage/api.ErrRange", "cartage/api.ErrShort", "cartage/api.ErrLong", "cartage/api.ErrForm", "cartage/api.ErrSum", "cartage/api.ErrName", "cartage/api.ErrKind", "cartage/api.ErrDepth", "cartage/api.ErrMissing", "cartage/api.ErrCas", "cartage/api.ErrQuota", "cartage/api.ErrQueue", "cartage/api.ErrLarge", "cartage/api.ErrNoRepo", "cartage/api.ErrExists", "cartage/api.ErrDown", "cartage/api.ErrTimeout", "cartage/api.ErrStale", "cartage/api.ErrState", "cartage/api.ErrDup", "cartage/api.ErrNone", "cartage/api.ErrFull", "cartage/sha.start", "cartage/sha.rounds"] (by kernel_rfl) (by kernel_rfl)
theorem repoParts_row_tie : Rows.repoPartsRow.laidByTextAt .later Tryz.pinned [.data, .sentinel, .sentinel, .sentinel, .sentinel, .sentinel, .sentinel, .sentinel, .sentinel, .sentinel, .sentinel, .sentinel, .sentinel, .sentinel, .sentinel, .sentinel, .sentinel, .sentinel, .sentinel, .sentinel, .sentinel, .sentinel, .sentinel, .data, .data, .pinned] true :=
  OpenClaim.laidByTextAt_pinned rfl rfl tie2 rfl rfl rfl rfl (fun y hy _e => by
    simp only [Rows.repoPartsRow, List.zip_cons_cons, List.zip_nil_right, List.mem_cons, List.mem_nil_iff, or_false] at hy
    rcases hy with rfl | rfl | rfl | rfl | rfl | rfl | rfl | rfl | rfl | rfl | rfl | rfl | rfl | rfl | rfl | rfl | rfl | rfl | rfl | rfl | rfl | rfl | rfl | rfl | rfl | rfl
    · cases _e
    · cases _e
    · cases _e
    · cases _e
    · cases _e
    · cases _e
    · cases _e
    · cases _e
    · cases _e
    · cases _e
    · cases _e
    · cases _e
    · cases _e
    · cases _e
    · cases _e
    · cases _e
    · cases _e
    · cases _e
    · cases _e
    · cases _e
    · cases _e
    · cases _e
    · cases _e
    · cases _e
    · cases _e
    · exact ⟨pin_laid_unicode_utf8_first, by kernel_rfl⟩) fits2
theorem repoWholeUpto_row_tie : Rows.repoWholeUptoRow.laidByTextAt .later Tryz.pinned [.data, .sentinel, .sentinel, .sentinel, .sentinel, .sentinel, .sentinel, .sentinel, .sentinel, .sentinel, .sentinel, .sentinel, .data, .data, .pinned] true :=
  OpenClaim.laidByTextAt_pinned rfl rfl tie rfl rfl rfl rfl (fun y hy _e => by
    simp only [Rows.repoWholeUptoRow, List.zip_cons_cons, List.zip_nil_right, List.mem_cons, List.mem_nil_iff, or_false] at hy
    rcases hy with rfl | rfl | rfl | rfl | rfl | rfl | rfl | rfl | rfl | rfl | rfl | rfl | rfl | rfl | rfl
    · cases _e
    · cases _e
    · cases _e
    · cases _e
    · cases _e
    · cases _e
    · cases _e
    · cases _e
    · cases _e
    · cases _e
    · cases _e
    · cases _e
    · cases _e
    · cases _e
    · exact ⟨pin_laid_unicode_utf8_first, by kernel_rfl⟩) fits1
theorem repoPartsUpto_row_tie : Rows.repoPartsUptoRow.laidByTextAt .later Tryz.pinned [.data, .sentinel, .sentinel, .sentinel, .sentinel, .sentinel, .sentinel, .sentinel, .sentinel, .sentinel, .sentinel, .sentinel, .sentinel, .sentinel, .sentinel, .sentinel, .sentinel, .sentinel, .sentinel, .sentinel, .sentinel, .sentinel, .sentinel, .data, .data, .pinned] true :=
  OpenClaim.laidByTextAt_pinned rfl rfl tie2 rfl rfl rfl rfl (fun y hy _e => by
    simp only [Rows.repoPartsUptoRow, List.zip_cons_cons, List.zip_nil_right, List.mem_cons, List.mem_nil_iff, or_false] at hy
    rcases hy with rfl | rfl | rfl | rfl | rfl | rfl | rfl | rfl | rfl | rfl | rfl | rfl | rfl | rfl | rfl | rfl | rfl | rfl | rfl | rfl | rfl | rfl | rfl | rfl | rfl | rfl
    · cases _e
    · cases _e
    · cases _e
    · cases _e
    · cases _e
    · cases _e
    · cases _e
    · cases _e
    · cases _e
    · cases _e
    · cases _e
    · cases _e
    · cases _e
    · cases _e
    · cases _e
    · cases _e
    · cases _e
    · cases _e
    · cases _e
    · cases _e
    · cases _e
    · cases _e
    · cases _e
    · cases _e
    · cases _e
    · exact ⟨pin_laid_unicode_utf8_first, by kernel_rfl⟩) fits2
end Go.Proofs.YtgcgomdhdgjpdaaGreatDoor
