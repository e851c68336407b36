/-
  DERIVED. GIVEN WITH THE SEED: THE PROGRAM's TIES (one call each: nine closed facts by the kernel) AND EACH ROW's TIE, after the 31st guide's Derived/Test/Toyas{Tie, Card}.lean. No idea stands in it: it is a product of the set-up. Laid BY PROGRAM, IN A SANDBOX (cutbox-door.mjs). By AI agents, Wed Nov 11 2026. No macro, syntax, notation, axiom, sorry.
-/
import Derived.Test.YtoaabebgmdbjeaaGreatDoorRows
import Derived.LaidByTextLater
import Derived.SevenTiedAt
import Derived.LaidSub
import Derived.LaidOnce
namespace Go.Proofs.YtoaabebgmdbjeaaGreatDoor
open Go
set_option maxRecDepth 100000
theorem seatTie1 : Tryz.prog.laidByTextLater [("linguist/cell.spans", Rows.laid_linguist_cell_spans), ("linguist/charset.signs", Rows.laid_linguist_charset_signs), ("linguist/pen.flags", Rows.laid_linguist_pen_flags), ("math/bits.deBruijn64tab", Rows.laid_math_bits_deBruijn64tab), ("linguist/parse.runs", Rows.laid_linguist_parse_runs), ("linguist/parse.moves", Rows.laid_linguist_parse_moves)] [.data, .data, .data, .data, .data, .data] true :=
  Program.laidByTextLater_by_one 133 8 209 (by kernel_rfl) (by kernel_rfl) (by kernel_rfl) (by kernel_rfl) (by kernel_rfl) (by kernel_rfl) (fun _ _ => by kernel_rfl)
theorem seatTie2 : Tryz.prog.laidByTextLater [("linguist/cell.spans", Rows.laid_linguist_cell_spans), ("linguist/charset.signs", Rows.laid_linguist_charset_signs), ("linguist/pen.flags", Rows.laid_linguist_pen_flags), ("math/bits.deBruijn32tab", Rows.laid_math_bits_deBruijn32tab), ("math/bits.deBruijn64tab", Rows.laid_math_bits_deBruijn64tab), ("internal/strconv.uint64pow10", Rows.laid_internal_strconv_uint64pow10), ("linguist/modes.known", Rows.laid_linguist_modes_known)] [.data, .data, .data, .data, .data, .data, .data] true :=
  Program.laidByTextLater_by_one 133 8 209 (by kernel_rfl) (by kernel_rfl) (by kernel_rfl) (by kernel_rfl) (by kernel_rfl) (by kernel_rfl) (fun _ _ => by kernel_rfl)
theorem noOwnUnsafe : Tryz.pinned.checked.prog.headLifts.contains "ownunsafe" = false := by kernel_rfl
theorem tie : Tryz.prog.laidByTextLater [("linguist/cell.spans", Rows.laid_linguist_cell_spans), ("linguist/charset.signs", Rows.laid_linguist_charset_signs), ("linguist/pen.flags", Rows.laid_linguist_pen_flags), ("math/bits.deBruijn64tab", Rows.laid_math_bits_deBruijn64tab), ("linguist/parse.runs", Rows.laid_linguist_parse_runs), ("linguist/parse.moves", Rows.laid_linguist_parse_moves)] [.data, .data, .data, .data, .data, .data] true :=
  Program.laidByTextLater.sub seatTie1 ["linguist/cell.spans", "linguist/charset.signs", "linguist/pen.flags", "math/bits.deBruijn64tab", "linguist/parse.runs", "linguist/parse.moves"] (by kernel_rfl) (by kernel_rfl)
theorem sourceTells_row_tie : Rows.sourceTellsRow.laidByTextAt .later Tryz.pinned [.data, .data, .data, .data, .data, .data] true :=
  OpenClaim.laidByTextAt_later rfl rfl tie noOwnUnsafe
theorem sourcePlays_row_tie : Rows.sourcePlaysRow.laidByTextAt .later Tryz.pinned [.data, .data, .data, .data, .data, .data] true :=
  OpenClaim.laidByTextAt_later rfl rfl tie noOwnUnsafe
theorem sourceBytes_row_tie : Rows.sourceBytesRow.laidByTextAt .later Tryz.pinned [.data, .data, .data, .data, .data, .data] true :=
  OpenClaim.laidByTextAt_later rfl rfl tie noOwnUnsafe
theorem sourceText_row_tie : Rows.sourceTextRow.laidByTextAt .later Tryz.pinned [.data, .data, .data, .data, .data, .data] true :=
  OpenClaim.laidByTextAt_later rfl rfl tie noOwnUnsafe
theorem sourceTabs_row_tie : Rows.sourceTabsRow.laidByTextAt .later Tryz.pinned [.data, .data, .data, .data, .data, .data] true :=
  OpenClaim.laidByTextAt_later rfl rfl tie noOwnUnsafe
theorem sourceReset_row_tie : Rows.sourceResetRow.laidByTextAt .later Tryz.pinned [.data, .data, .data, .data, .data, .data] true :=
  OpenClaim.laidByTextAt_later rfl rfl tie noOwnUnsafe
theorem tie2 : Tryz.prog.laidByTextLater [("linguist/cell.spans", Rows.laid_linguist_cell_spans), ("linguist/charset.signs", Rows.laid_linguist_charset_signs), ("linguist/pen.flags", Rows.laid_linguist_pen_flags), ("math/bits.deBruijn32tab", Rows.laid_math_bits_deBruijn32tab), ("math/bits.deBruijn64tab", Rows.laid_math_bits_deBruijn64tab), ("internal/strconv.uint64pow10", Rows.laid_internal_strconv_uint64pow10), ("linguist/modes.known", Rows.laid_linguist_modes_known)] [.data, .data, .data, .data, .data, .data, .data] true :=
  Program.laidByTextLater.sub seatTie2 ["linguist/cell.spans", "linguist/charset.signs", "linguist/pen.flags", "math/bits.deBruijn32tab", "math/bits.deBruijn64tab", "internal/strconv.uint64pow10", "linguist/modes.known"] (by kernel_rfl) (by kernel_rfl)
theorem replyAll_row_tie : Rows.replyAllRow.laidByTextAt .later Tryz.pinned [.data, .data, .data, .data, .data, .data, .data] true :=
  OpenClaim.laidByTextAt_later rfl rfl tie2 noOwnUnsafe
theorem replyPlaces_row_tie : Rows.replyPlacesRow.laidByTextAt .later Tryz.pinned [.data, .data, .data, .data, .data, .data, .data] true :=
  OpenClaim.laidByTextAt_later rfl rfl tie2 noOwnUnsafe
theorem sourceTellsUpto_row_tie : Rows.sourceTellsUptoRow.laidByTextAt .later Tryz.pinned [.data, .data, .data, .data, .data, .data] true :=
  OpenClaim.laidByTextAt_later rfl rfl tie noOwnUnsafe
theorem sourcePlaysUpto_row_tie : Rows.sourcePlaysUptoRow.laidByTextAt .later Tryz.pinned [.data, .data, .data, .data, .data, .data] true :=
  OpenClaim.laidByTextAt_later rfl rfl tie noOwnUnsafe
theorem sourceBytesUpto_row_tie : Rows.sourceBytesUptoRow.laidByTextAt .later Tryz.pinned [.data, .data, .data, .data, .data, .data] true :=
  OpenClaim.laidByTextAt_later rfl rfl tie noOwnUnsafe
theorem sourceTextUpto_row_tie : Rows.sourceTextUptoRow.laidByTextAt .later Tryz.pinned [.data, .data, .data, .data, .data, .data] true :=
  OpenClaim.laidByTextAt_later rfl rfl tie noOwnUnsafe
theorem sourceTabsUpto_row_tie : Rows.sourceTabsUptoRow.laidByTextAt .later Tryz.pinned [.data, .data, .data, .data, .data, .data] true :=
  OpenClaim.laidByTextAt_later rfl rfl tie noOwnUnsafe
theorem sourceResetUpto_row_tie : Rows.sourceResetUptoRow.laidByTextAt .later Tryz.pinned [.data, .data, .data, .data, .data, .data] true :=
  OpenClaim.laidByTextAt_later rfl rfl tie noOwnUnsafe
theorem replyAllUpto_row_tie : Rows.replyAllUptoRow.laidByTextAt .later Tryz.pinned [.data, .data, .data, .data, .data, .data, .data] true :=
  OpenClaim.laidByTextAt_later rfl rfl tie2 noOwnUnsafe
theorem replyPlacesUpto_row_tie : Rows.replyPlacesUptoRow.laidByTextAt .later Tryz.pinned [.data, .data, .data, .data, .data, .data, .data] true :=
  OpenClaim.laidByTextAt_later rfl rfl tie2 noOwnUnsafe
end Go.Proofs.YtoaabebgmdbjeaaGreatDoor
