/-
  NARROWER THAN 'FOR EVERY INPUT', by the rows' own cells (each row's printed sentence says how): LexisWords: laid · LexisPrints: laid · LexisPieces: laid · LexisCover: laid.
  DERIVED. THE GIVEN ROWS OF THIS SEAT. 4 by the template 'for every input the law returns true; each argument reads behind the call as it read before'; 0 by the template 'total and deterministic' (their statements: YtoccedbnnafjcaaDoorTotals.lean).
  GIVEN WITH THE SEED: the statements are not yours to turn. If you find one false, say at which input.
  Laid BY PROGRAM, IN A SANDBOX (cutbox-rows.mjs): the forced cells as the released guide's own fill.sh prints them over the translation 868ad98a9c644719… (all of the seat's roots in one cut). By AI agents, Wed Nov 11 2026. No macro, syntax, notation, axiom, sorry.
-/
import Derived.Test.YtoccedbnnafjcaaDoorChecked
import GoSem.PinnedTables
import GoSem.Claim
import GoSem.ClaimJoined
import GoSem.ClaimMapViews
import Derived.JoinedTies
import Derived.KernelRfl
namespace Go.Proofs.YtoccedbnnafjcaaDoor
/- THE CELL 'sum', in the pinned program and in every row, IS THE sha256 OF THE DUMP (.gsa) THAT YtoccedbnnafjcaaDoorProg.lean LOADS. Nothing in Lean hashes anything: it is a label: what it is worth is what the hold of that sum in a sandbox is worth. -/
noncomputable def Tryd.pinned : Pinned := { name := "ytoccedbnnafjcaadoor", sum := "868ad98a9c6447190792d1e0633e7c0a64814fc2ed67702c13e0c382775863e2", checked := Tryd.checked }
namespace Rows
def none {H : Type} : Left H := { results := [], args := [] }

/- WHAT THE LISTED PACKAGE-LEVEL VARIABLES READ AS WHEN THE CALL BEGINS. Each datum BY PROGRAM (the guide's laid-datum.mjs) off the statement by which the dump's own 'gosem.cut.vars' lays the variable. In a bare row this is a premise. The card (YtoccedbnnafjcaaDoorCards.lean) ties it to the program's text. -/
def laid_unicode_utf8_acceptRanges {H : Type} : DataW H := .agg [.agg [.lit (.int .u8 128), .lit (.int .u8 191)], .agg [.lit (.int .u8 160), .lit (.int .u8 191)], .agg [.lit (.int .u8 128), .lit (.int .u8 159)], .agg [.lit (.int .u8 144), .lit (.int .u8 191)], .agg [.lit (.int .u8 128), .lit (.int .u8 143)], .agg [.lit (.int .u8 0), .lit (.int .u8 0)], .agg [.lit (.int .u8 0), .lit (.int .u8 0)], .agg [.lit (.int .u8 0), .lit (.int .u8 0)], .agg [.lit (.int .u8 0), .lit (.int .u8 0)], .agg [.lit (.int .u8 0), .lit (.int .u8 0)], .agg [.lit (.int .u8 0), .lit (.int .u8 0)], .agg [.lit (.int .u8 0), .lit (.int .u8 0)], .agg [.lit (.int .u8 0), .lit (.int .u8 0)], .agg [.lit (.int .u8 0), .lit (.int .u8 0)], .agg [.lit (.int .u8 0), .lit (.int .u8 0)], .agg [.lit (.int .u8 0), .lit (.int .u8 0)]]
def laid_errors_errorType {H : Type} : DataW H := .iface "internal/reflectlite.rtype" (.agg [.ptr (.lit (.string [101, 114, 114, 111, 114]))])
def laid_gimlet_chars_spans {H : Type} : DataW H := .slice [.agg [.lit (.int .i64 0), .lit (.int .i32 9), .lit (.int .i32 10)], .agg [.lit (.int .i64 0), .lit (.int .i32 13), .lit (.int .i32 13)], .agg [.lit (.int .i64 0), .lit (.int .i32 32), .lit (.int .i32 55295)], .agg [.lit (.int .i64 0), .lit (.int .i32 57344), .lit (.int .i32 65533)], .agg [.lit (.int .i64 0), .lit (.int .i32 65536), .lit (.int .i32 1114111)], .agg [.lit (.int .i64 1), .lit (.int .i32 9), .lit (.int .i32 10)], .agg [.lit (.int .i64 1), .lit (.int .i32 13), .lit (.int .i32 13)], .agg [.lit (.int .i64 1), .lit (.int .i32 32), .lit (.int .i32 32)], .agg [.lit (.int .i64 2), .lit (.int .i32 65), .lit (.int .i32 90)], .agg [.lit (.int .i64 2), .lit (.int .i32 95), .lit (.int .i32 95)], .agg [.lit (.int .i64 2), .lit (.int .i32 97), .lit (.int .i32 122)], .agg [.lit (.int .i64 2), .lit (.int .i32 192), .lit (.int .i32 214)], .agg [.lit (.int .i64 2), .lit (.int .i32 216), .lit (.int .i32 246)], .agg [.lit (.int .i64 2), .lit (.int .i32 248), .lit (.int .i32 767)], .agg [.lit (.int .i64 2), .lit (.int .i32 880), .lit (.int .i32 893)], .agg [.lit (.int .i64 2), .lit (.int .i32 895), .lit (.int .i32 8191)], .agg [.lit (.int .i64 2), .lit (.int .i32 8204), .lit (.int .i32 8205)], .agg [.lit (.int .i64 2), .lit (.int .i32 8304), .lit (.int .i32 8591)], .agg [.lit (.int .i64 2), .lit (.int .i32 11264), .lit (.int .i32 12271)], .agg [.lit (.int .i64 2), .lit (.int .i32 12289), .lit (.int .i32 55295)], .agg [.lit (.int .i64 2), .lit (.int .i32 63744), .lit (.int .i32 64975)], .agg [.lit (.int .i64 2), .lit (.int .i32 65008), .lit (.int .i32 65533)], .agg [.lit (.int .i64 2), .lit (.int .i32 65536), .lit (.int .i32 983039)], .agg [.lit (.int .i64 3), .lit (.int .i32 45), .lit (.int .i32 46)], .agg [.lit (.int .i64 3), .lit (.int .i32 48), .lit (.int .i32 57)], .agg [.lit (.int .i64 3), .lit (.int .i32 65), .lit (.int .i32 90)], .agg [.lit (.int .i64 3), .lit (.int .i32 95), .lit (.int .i32 95)], .agg [.lit (.int .i64 3), .lit (.int .i32 97), .lit (.int .i32 122)], .agg [.lit (.int .i64 3), .lit (.int .i32 183), .lit (.int .i32 183)], .agg [.lit (.int .i64 3), .lit (.int .i32 192), .lit (.int .i32 214)], .agg [.lit (.int .i64 3), .lit (.int .i32 216), .lit (.int .i32 246)], .agg [.lit (.int .i64 3), .lit (.int .i32 248), .lit (.int .i32 893)], .agg [.lit (.int .i64 3), .lit (.int .i32 895), .lit (.int .i32 8191)], .agg [.lit (.int .i64 3), .lit (.int .i32 8204), .lit (.int .i32 8205)], .agg [.lit (.int .i64 3), .lit (.int .i32 8255), .lit (.int .i32 8256)], .agg [.lit (.int .i64 3), .lit (.int .i32 8304), .lit (.int .i32 8591)], .agg [.lit (.int .i64 3), .lit (.int .i32 11264), .lit (.int .i32 12271)], .agg [.lit (.int .i64 3), .lit (.int .i32 12289), .lit (.int .i32 55295)], .agg [.lit (.int .i64 3), .lit (.int .i32 63744), .lit (.int .i32 64975)], .agg [.lit (.int .i64 3), .lit (.int .i32 65008), .lit (.int .i32 65533)], .agg [.lit (.int .i64 3), .lit (.int .i32 65536), .lit (.int .i32 983039)], .agg [.lit (.int .i64 4), .lit (.int .i32 48), .lit (.int .i32 57)], .agg [.lit (.int .i64 5), .lit (.int .i32 48), .lit (.int .i32 57)], .agg [.lit (.int .i64 5), .lit (.int .i32 65), .lit (.int .i32 70)], .agg [.lit (.int .i64 5), .lit (.int .i32 97), .lit (.int .i32 102)]] []
def laid_gimlet_lexis_signs {H : Type} : DataW H := .agg [.lit (.string [47, 47]), .lit (.string [47]), .lit (.string [91]), .lit (.string [93]), .lit (.string [40]), .lit (.string [41]), .lit (.string [58, 58]), .lit (.string [64]), .lit (.string [46]), .lit (.string [42]), .lit (.string [44]), .lit (.string [61]), .lit (.string [33, 61]), .lit (.string [60]), .lit (.string [62])]
/-- One of Go's own tables, pinned by name: the form's constant. -/
def laid_unicode_utf8_first : DataW Unit := Go.Pinned.utf8First
def laid_math_bits_deBruijn32tab {H : Type} : DataW H := .agg [.lit (.int .u8 0), .lit (.int .u8 1), .lit (.int .u8 28), .lit (.int .u8 2), .lit (.int .u8 29), .lit (.int .u8 14), .lit (.int .u8 24), .lit (.int .u8 3), .lit (.int .u8 30), .lit (.int .u8 22), .lit (.int .u8 20), .lit (.int .u8 15), .lit (.int .u8 25), .lit (.int .u8 17), .lit (.int .u8 4), .lit (.int .u8 8), .lit (.int .u8 31), .lit (.int .u8 27), .lit (.int .u8 13), .lit (.int .u8 23), .lit (.int .u8 21), .lit (.int .u8 19), .lit (.int .u8 16), .lit (.int .u8 7), .lit (.int .u8 26), .lit (.int .u8 12), .lit (.int .u8 18), .lit (.int .u8 6), .lit (.int .u8 11), .lit (.int .u8 5), .lit (.int .u8 10), .lit (.int .u8 9)]
def laid_math_bits_deBruijn64tab {H : Type} : DataW H := .agg [.lit (.int .u8 0), .lit (.int .u8 1), .lit (.int .u8 56), .lit (.int .u8 2), .lit (.int .u8 57), .lit (.int .u8 49), .lit (.int .u8 28), .lit (.int .u8 3), .lit (.int .u8 61), .lit (.int .u8 58), .lit (.int .u8 42), .lit (.int .u8 50), .lit (.int .u8 38), .lit (.int .u8 29), .lit (.int .u8 17), .lit (.int .u8 4), .lit (.int .u8 62), .lit (.int .u8 47), .lit (.int .u8 59), .lit (.int .u8 36), .lit (.int .u8 45), .lit (.int .u8 43), .lit (.int .u8 51), .lit (.int .u8 22), .lit (.int .u8 53), .lit (.int .u8 39), .lit (.int .u8 33), .lit (.int .u8 30), .lit (.int .u8 24), .lit (.int .u8 18), .lit (.int .u8 12), .lit (.int .u8 5), .lit (.int .u8 63), .lit (.int .u8 55), .lit (.int .u8 48), .lit (.int .u8 27), .lit (.int .u8 60), .lit (.int .u8 41), .lit (.int .u8 37), .lit (.int .u8 16), .lit (.int .u8 46), .lit (.int .u8 35), .lit (.int .u8 44), .lit (.int .u8 21), .lit (.int .u8 52), .lit (.int .u8 32), .lit (.int .u8 23), .lit (.int .u8 11), .lit (.int .u8 54), .lit (.int .u8 26), .lit (.int .u8 40), .lit (.int .u8 15), .lit (.int .u8 34), .lit (.int .u8 20), .lit (.int .u8 31), .lit (.int .u8 10), .lit (.int .u8 25), .lit (.int .u8 14), .lit (.int .u8 19), .lit (.int .u8 9), .lit (.int .u8 13), .lit (.int .u8 8), .lit (.int .u8 7), .lit (.int .u8 6)]
def laid_internal_strconv_uint64pow10 {H : Type} : DataW H := .agg [.lit (.int .u64 1), .lit (.int .u64 10), .lit (.int .u64 100), .lit (.int .u64 1000), .lit (.int .u64 10000), .lit (.int .u64 100000), .lit (.int .u64 1000000), .lit (.int .u64 10000000), .lit (.int .u64 100000000), .lit (.int .u64 1000000000), .lit (.int .u64 10000000000), .lit (.int .u64 100000000000), .lit (.int .u64 1000000000000), .lit (.int .u64 10000000000000), .lit (.int .u64 100000000000000), .lit (.int .u64 1000000000000000), .lit (.int .u64 10000000000000000), .lit (.int .u64 100000000000000000), .lit (.int .u64 1000000000000000000), .lit (.int .u64 10000000000000000000)]

/-- 'gimletlaw10.LexisWords': WHATEVER THE INPUT: true; the input reads as it did. -/
def lexisWordsSpec : ChangeSpec := { name := "lexisWords", fn := fun _ => fun
  | [d] => { results := [.lit (.bool true)], args := [d] }
  | _ => none }
def lexisWordsRow : OpenClaim := { program := "ytoccedbnnafjcaadoor", sum := "868ad98a9c6447190792d1e0633e7c0a64814fc2ed67702c13e0c382775863e2", func := "gimlet/gimletlaw10.LexisWords", spec := "lexisWords", inPlace := ["internal/bytealg.IndexByteString", "internal/bytealg.IndexString", "internal/reflectlite.TypeOf", "internal/reflectlite.ValueOf", "(internal/reflectlite.Value).Type", "(internal/reflectlite.Value).IsNil", "(internal/reflectlite.Value).Elem", "(internal/reflectlite.Value).Set"], unfollowed := true, recurses := true, named := ["unicode/utf8.first", "unicode/utf8.acceptRanges", "gimlet/chars.spans", "internal/bytealg.MaxLen", "gimlet/lexis.signs", "errors.errorType"], apart := false, laid := [("unicode/utf8.acceptRanges", laid_unicode_utf8_acceptRanges), ("errors.errorType", laid_errors_errorType), ("gimlet/chars.spans", laid_gimlet_chars_spans), ("gimlet/lexis.signs", laid_gimlet_lexis_signs), ("unicode/utf8.first", laid_unicode_utf8_first)] }
def LexisWordsSaid : Prop := lexisWordsRow.holds Tryd.pinned (OpenSpec.ofChange lexisWordsSpec)

/-- ITS FALSE NEIGHBOUR: 'it returns false'. Refute it at one input. -/
def lexisWordsWrong : ChangeSpec := { name := "lexisWords", fn := fun _ => fun
  | [d] => { results := [.lit (.bool false)], args := [d] }
  | _ => none }
def LexisWordsWrongFalsely : Prop := lexisWordsRow.holds Tryd.pinned (OpenSpec.ofChange lexisWordsWrong)

/-- 'gimletlaw10.LexisPrints': WHATEVER THE INPUT: true; the input reads as it did. -/
def lexisPrintsSpec : ChangeSpec := { name := "lexisPrints", fn := fun _ => fun
  | [d1, d2] => { results := [.lit (.bool true)], args := [d1, d2] }
  | _ => none }
def lexisPrintsRow : OpenClaim := { program := "ytoccedbnnafjcaadoor", sum := "868ad98a9c6447190792d1e0633e7c0a64814fc2ed67702c13e0c382775863e2", func := "gimlet/gimletlaw10.LexisPrints", spec := "lexisPrints", inPlace := ["internal/bytealg.IndexByteString", "internal/bytealg.IndexString", "internal/abi.NoEscape"], recurses := true, named := ["unicode/utf8.first", "unicode/utf8.acceptRanges", "gimlet/chars.spans", "internal/bytealg.MaxLen", "gimlet/lexis.signs", "internal/strconv.uint64pow10", "math/bits.deBruijn32tab", "math/bits.deBruijn64tab"], apart := false, laid := [("math/bits.deBruijn32tab", laid_math_bits_deBruijn32tab), ("math/bits.deBruijn64tab", laid_math_bits_deBruijn64tab), ("internal/strconv.uint64pow10", laid_internal_strconv_uint64pow10), ("unicode/utf8.acceptRanges", laid_unicode_utf8_acceptRanges), ("gimlet/chars.spans", laid_gimlet_chars_spans), ("gimlet/lexis.signs", laid_gimlet_lexis_signs), ("unicode/utf8.first", laid_unicode_utf8_first)] }
def LexisPrintsSaid : Prop := lexisPrintsRow.holds Tryd.pinned (OpenSpec.ofChange lexisPrintsSpec)

/-- ITS FALSE NEIGHBOUR: 'it returns false'. Refute it at one input. -/
def lexisPrintsWrong : ChangeSpec := { name := "lexisPrints", fn := fun _ => fun
  | [d1, d2] => { results := [.lit (.bool false)], args := [d1, d2] }
  | _ => none }
def LexisPrintsWrongFalsely : Prop := lexisPrintsRow.holds Tryd.pinned (OpenSpec.ofChange lexisPrintsWrong)

/-- 'gimletlaw10.LexisPieces': WHATEVER THE INPUT: true; the input reads as it did. -/
def lexisPiecesSpec : ChangeSpec := { name := "lexisPieces", fn := fun _ => fun
  | [d1, d2, d3] => { results := [.lit (.bool true)], args := [d1, d2, d3] }
  | _ => none }
def lexisPiecesRow : OpenClaim := { program := "ytoccedbnnafjcaadoor", sum := "868ad98a9c6447190792d1e0633e7c0a64814fc2ed67702c13e0c382775863e2", func := "gimlet/gimletlaw10.LexisPieces", spec := "lexisPieces", inPlace := ["internal/bytealg.IndexByteString", "internal/bytealg.IndexString", "internal/reflectlite.TypeOf"], unfollowed := true, recurses := true, named := ["unicode/utf8.first", "unicode/utf8.acceptRanges", "gimlet/chars.spans", "internal/bytealg.MaxLen", "gimlet/lexis.signs"], apart := false, laid := [("unicode/utf8.acceptRanges", laid_unicode_utf8_acceptRanges), ("gimlet/chars.spans", laid_gimlet_chars_spans), ("gimlet/lexis.signs", laid_gimlet_lexis_signs), ("unicode/utf8.first", laid_unicode_utf8_first)] }
def LexisPiecesSaid : Prop := lexisPiecesRow.holds Tryd.pinned (OpenSpec.ofChange lexisPiecesSpec)

/-- ITS FALSE NEIGHBOUR: 'it returns false'. Refute it at one input. -/
def lexisPiecesWrong : ChangeSpec := { name := "lexisPieces", fn := fun _ => fun
  | [d1, d2, d3] => { results := [.lit (.bool false)], args := [d1, d2, d3] }
  | _ => none }
def LexisPiecesWrongFalsely : Prop := lexisPiecesRow.holds Tryd.pinned (OpenSpec.ofChange lexisPiecesWrong)

/-- 'gimletlaw10.LexisCover': WHATEVER THE INPUT: true; the input reads as it did. -/
def lexisCoverSpec : ChangeSpec := { name := "lexisCover", fn := fun _ => fun
  | [d] => { results := [.lit (.bool true)], args := [d] }
  | _ => none }
def lexisCoverRow : OpenClaim := { program := "ytoccedbnnafjcaadoor", sum := "868ad98a9c6447190792d1e0633e7c0a64814fc2ed67702c13e0c382775863e2", func := "gimlet/gimletlaw10.LexisCover", spec := "lexisCover", inPlace := ["internal/bytealg.IndexByteString", "internal/bytealg.IndexString"], named := ["unicode/utf8.first", "unicode/utf8.acceptRanges", "gimlet/chars.spans", "internal/bytealg.MaxLen", "gimlet/lexis.signs"], apart := false, laid := [("unicode/utf8.acceptRanges", laid_unicode_utf8_acceptRanges), ("gimlet/chars.spans", laid_gimlet_chars_spans), ("gimlet/lexis.signs", laid_gimlet_lexis_signs), ("unicode/utf8.first", laid_unicode_utf8_first)] }
def LexisCoverSaid : Prop := lexisCoverRow.holds Tryd.pinned (OpenSpec.ofChange lexisCoverSpec)

/-- ITS FALSE NEIGHBOUR: 'it returns false'. Refute it at one input. -/
def lexisCoverWrong : ChangeSpec := { name := "lexisCover", fn := fun _ => fun
  | [d] => { results := [.lit (.bool false)], args := [d] }
  | _ => none }
def LexisCoverWrongFalsely : Prop := lexisCoverRow.holds Tryd.pinned (OpenSpec.ofChange lexisCoverWrong)

/- THE SECOND FORM. 'bulk': how many values and letters a reading holds, each counted each time it is reached (what is shared counts as often as it is met; a slice's spare places count too). A statement '..UptoSaid' is the law's where the arguments, and the package variables that the reading takes, are together of bulk at most 1048576: NARROWER than '..Said'. Prove '..Said' where nothing that the law and all that it calls make is longer than what came in: it says more and counts as full. Else prove '..UptoSaid'. A law counts once. -/
mutual
def uptoBulk {H : Type} : DataW H → Nat
  | .lit (.string bytes) => bytes.length + 1
  | .lit _ => 1
  | .nil => 1
  | .ptr d => uptoBulk d + 1
  | .slice elems spare => uptoBulkAll elems + uptoBulkAll spare + 1
  | .agg parts => uptoBulkAll parts + 1
  | .iface _ d => uptoBulk d + 1
  | .map entries => uptoBulkEntries entries + 1
  | .held _ => 1
def uptoBulkAll {H : Type} : List (DataW H) → Nat
  | [] => 0
  | d :: r => uptoBulk d + uptoBulkAll r
def uptoBulkEntries {H : Type} : List (Lit × DataW H) → Nat
  | [] => 0
  | x :: r => uptoBulkEntry x + uptoBulkEntries r
def uptoBulkEntry {H : Type} : Lit × DataW H → Nat
  | (.string bytes, d) => bytes.length + uptoBulk d + 1
  | (_, d) => uptoBulk d + 1
 end
def uptoSmall : (H : Type) → List (DataW H) → Bool := fun _ ds => decide (uptoBulkAll ds ≤ 1048576)
def OpenSpec.upto (s : _root_.Go.ChangeSpec) : _root_.Go.OpenSpec := { _root_.Go.OpenSpec.ofChange s with cond := some uptoSmall }

/-- 'gimletlaw10.LexisWords', WHERE WHAT IT READS IS OF BULK AT MOST 1048576: true; the input reads as it did. -/
def lexisWordsUptoRow : OpenClaim := { program := "ytoccedbnnafjcaadoor", sum := "868ad98a9c6447190792d1e0633e7c0a64814fc2ed67702c13e0c382775863e2", func := "gimlet/gimletlaw10.LexisWords", spec := "lexisWords", inPlace := ["internal/bytealg.IndexByteString", "internal/bytealg.IndexString", "internal/reflectlite.TypeOf", "internal/reflectlite.ValueOf", "(internal/reflectlite.Value).Type", "(internal/reflectlite.Value).IsNil", "(internal/reflectlite.Value).Elem", "(internal/reflectlite.Value).Set"], unfollowed := true, recurses := true, named := ["unicode/utf8.first", "unicode/utf8.acceptRanges", "gimlet/chars.spans", "internal/bytealg.MaxLen", "gimlet/lexis.signs", "errors.errorType"], apart := false, laid := [("unicode/utf8.acceptRanges", laid_unicode_utf8_acceptRanges), ("errors.errorType", laid_errors_errorType), ("gimlet/chars.spans", laid_gimlet_chars_spans), ("gimlet/lexis.signs", laid_gimlet_lexis_signs), ("unicode/utf8.first", laid_unicode_utf8_first)], narrowed := true }
def LexisWordsUptoSaid : Prop := lexisWordsUptoRow.holds Tryd.pinned (OpenSpec.upto lexisWordsSpec)

/-- 'gimletlaw10.LexisPrints', WHERE WHAT IT READS IS OF BULK AT MOST 1048576: true; the input reads as it did. -/
def lexisPrintsUptoRow : OpenClaim := { program := "ytoccedbnnafjcaadoor", sum := "868ad98a9c6447190792d1e0633e7c0a64814fc2ed67702c13e0c382775863e2", func := "gimlet/gimletlaw10.LexisPrints", spec := "lexisPrints", inPlace := ["internal/bytealg.IndexByteString", "internal/bytealg.IndexString", "internal/abi.NoEscape"], recurses := true, named := ["unicode/utf8.first", "unicode/utf8.acceptRanges", "gimlet/chars.spans", "internal/bytealg.MaxLen", "gimlet/lexis.signs", "internal/strconv.uint64pow10", "math/bits.deBruijn32tab", "math/bits.deBruijn64tab"], apart := false, laid := [("math/bits.deBruijn32tab", laid_math_bits_deBruijn32tab), ("math/bits.deBruijn64tab", laid_math_bits_deBruijn64tab), ("internal/strconv.uint64pow10", laid_internal_strconv_uint64pow10), ("unicode/utf8.acceptRanges", laid_unicode_utf8_acceptRanges), ("gimlet/chars.spans", laid_gimlet_chars_spans), ("gimlet/lexis.signs", laid_gimlet_lexis_signs), ("unicode/utf8.first", laid_unicode_utf8_first)], narrowed := true }
def LexisPrintsUptoSaid : Prop := lexisPrintsUptoRow.holds Tryd.pinned (OpenSpec.upto lexisPrintsSpec)

/-- 'gimletlaw10.LexisPieces', WHERE WHAT IT READS IS OF BULK AT MOST 1048576: true; the input reads as it did. -/
def lexisPiecesUptoRow : OpenClaim := { program := "ytoccedbnnafjcaadoor", sum := "868ad98a9c6447190792d1e0633e7c0a64814fc2ed67702c13e0c382775863e2", func := "gimlet/gimletlaw10.LexisPieces", spec := "lexisPieces", inPlace := ["internal/bytealg.IndexByteString", "internal/bytealg.IndexString", "internal/reflectlite.TypeOf"], unfollowed := true, recurses := true, named := ["unicode/utf8.first", "unicode/utf8.acceptRanges", "gimlet/chars.spans", "internal/bytealg.MaxLen", "gimlet/lexis.signs"], apart := false, laid := [("unicode/utf8.acceptRanges", laid_unicode_utf8_acceptRanges), ("gimlet/chars.spans", laid_gimlet_chars_spans), ("gimlet/lexis.signs", laid_gimlet_lexis_signs), ("unicode/utf8.first", laid_unicode_utf8_first)], narrowed := true }
def LexisPiecesUptoSaid : Prop := lexisPiecesUptoRow.holds Tryd.pinned (OpenSpec.upto lexisPiecesSpec)

/-- 'gimletlaw10.LexisCover', WHERE WHAT IT READS IS OF BULK AT MOST 1048576: true; the input reads as it did. -/
def lexisCoverUptoRow : OpenClaim := { program := "ytoccedbnnafjcaadoor", sum := "868ad98a9c6447190792d1e0633e7c0a64814fc2ed67702c13e0c382775863e2", func := "gimlet/gimletlaw10.LexisCover", spec := "lexisCover", inPlace := ["internal/bytealg.IndexByteString", "internal/bytealg.IndexString"], named := ["unicode/utf8.first", "unicode/utf8.acceptRanges", "gimlet/chars.spans", "internal/bytealg.MaxLen", "gimlet/lexis.signs"], apart := false, laid := [("unicode/utf8.acceptRanges", laid_unicode_utf8_acceptRanges), ("gimlet/chars.spans", laid_gimlet_chars_spans), ("gimlet/lexis.signs", laid_gimlet_lexis_signs), ("unicode/utf8.first", laid_unicode_utf8_first)], narrowed := true }
def LexisCoverUptoSaid : Prop := lexisCoverUptoRow.holds Tryd.pinned (OpenSpec.upto lexisCoverSpec)

end Rows
end Go.Proofs.YtoccedbnnafjcaaDoor
