/-
  DERIVED. GIVEN WITH THE SEED: THE CARDS: each row of YtacmenmneilamaaDoorRows.lean that lists a variable, with what it lists TIED to the program's text (the seventh form; the later family's looks); each row that meets fmt, with fmt's text TOLD by the authors' own Lean function (tested against real Go, not proved from fmt's source: count such statements apart). THE CARD IS WHAT COUNTS. Prove the row's statement (the work); the ties are given (YtacmenmneilamaaDoorTie.lean); close each card by the builder's one call (the guide's Derived/Test/ToyasCard.lean, 'card_holds'). Laid BY PROGRAM, IN A SANDBOX (cutbox-door.mjs). By AI agents, Wed Nov 11 2026. No macro, syntax, notation, axiom, sorry.
-/
import Derived.Test.YtacmenmneilamaaDoorRows
import GoSem.ClaimSeven
namespace Go.Proofs.YtacmenmneilamaaDoor
namespace Rows

/-- THE TIED CARD OF 'gimletlaw01.RunesBytes'. -/
def runesBytesCard : Claim7 := { stood := { row := runesBytesRow, standIns := [], harness := (true, "2b8ef28e57a2041b806333ee277b9b32ff27d6fdde520c30340ae39c6bed05e1"), looks := false }, kinds := [], alts := [], laidByText := true, laidKinds := [.data, .pinned], laidTests := true, laidLooks := .later }
def RunesBytesCardSaid : Prop := Claim7.holds Tryd.pinned (.plain (OpenSpec.ofChange runesBytesSpec)) runesBytesCard

/-- THE TIED CARD OF 'gimletlaw01.RunesTexts'. -/
def runesTextsCard : Claim7 := { stood := { row := runesTextsRow, standIns := [], harness := (true, "2b8ef28e57a2041b806333ee277b9b32ff27d6fdde520c30340ae39c6bed05e1"), looks := false }, kinds := [], alts := [], laidByText := true, laidKinds := [.data, .pinned], laidTests := true, laidLooks := .later }
def RunesTextsCardSaid : Prop := Claim7.holds Tryd.pinned (.plain (OpenSpec.ofChange runesTextsSpec)) runesTextsCard

/-- THE TIED CARD OF 'gimletlaw01.RunesTakes'. -/
def runesTakesCard : Claim7 := { stood := { row := runesTakesRow, standIns := [], harness := (true, "2b8ef28e57a2041b806333ee277b9b32ff27d6fdde520c30340ae39c6bed05e1"), looks := false }, kinds := [], alts := [], laidByText := true, laidKinds := [.data, .pinned], laidTests := true, laidLooks := .later }
def RunesTakesCardSaid : Prop := Claim7.holds Tryd.pinned (.plain (OpenSpec.ofChange runesTakesSpec)) runesTakesCard

/-- THE TIED CARD OF 'gimletlaw01.RunesGo'. -/
def runesGoCard : Claim7 := { stood := { row := runesGoRow, standIns := [], harness := (true, "2b8ef28e57a2041b806333ee277b9b32ff27d6fdde520c30340ae39c6bed05e1"), looks := false }, kinds := [], alts := [], laidByText := true, laidKinds := [.data, .pinned], laidTests := true, laidLooks := .later }
def RunesGoCardSaid : Prop := Claim7.holds Tryd.pinned (.plain (OpenSpec.ofChange runesGoSpec)) runesGoCard

/-- THE TIED CARD OF 'gimletlaw01.RunesBack'. -/
def runesBackCard : Claim7 := { stood := { row := runesBackRow, standIns := [], harness := (true, "2b8ef28e57a2041b806333ee277b9b32ff27d6fdde520c30340ae39c6bed05e1"), looks := false }, kinds := [], alts := [], laidByText := true, laidKinds := [.data, .pinned], laidTests := true, laidLooks := .later }
def RunesBackCardSaid : Prop := Claim7.holds Tryd.pinned (.plain (OpenSpec.ofChange runesBackSpec)) runesBackCard

/-- THE TIED CARD OF 'gimletlaw01.RunesMends'. -/
def runesMendsCard : Claim7 := { stood := { row := runesMendsRow, standIns := [], harness := (true, "2b8ef28e57a2041b806333ee277b9b32ff27d6fdde520c30340ae39c6bed05e1"), looks := false }, kinds := [], alts := [], laidByText := true, laidKinds := [.data, .pinned], laidTests := true, laidLooks := .later }
def RunesMendsCardSaid : Prop := Claim7.holds Tryd.pinned (.plain (OpenSpec.ofChange runesMendsSpec)) runesMendsCard

/-- THE SECOND FORM's CARD OF 'gimletlaw01.RunesBytes'. -/
def runesBytesUptoCard : Claim7 := { stood := { row := runesBytesUptoRow, standIns := [], harness := (true, "2b8ef28e57a2041b806333ee277b9b32ff27d6fdde520c30340ae39c6bed05e1"), looks := false }, kinds := [], alts := [], laidByText := true, laidKinds := [.data, .pinned], laidTests := true, laidLooks := .later }
def RunesBytesUptoCardSaid : Prop := Claim7.holds Tryd.pinned (.plain (OpenSpec.upto runesBytesSpec)) runesBytesUptoCard

/-- THE SECOND FORM's CARD OF 'gimletlaw01.RunesTexts'. -/
def runesTextsUptoCard : Claim7 := { stood := { row := runesTextsUptoRow, standIns := [], harness := (true, "2b8ef28e57a2041b806333ee277b9b32ff27d6fdde520c30340ae39c6bed05e1"), looks := false }, kinds := [], alts := [], laidByText := true, laidKinds := [.data, .pinned], laidTests := true, laidLooks := .later }
def RunesTextsUptoCardSaid : Prop := Claim7.holds Tryd.pinned (.plain (OpenSpec.upto runesTextsSpec)) runesTextsUptoCard

/-- THE SECOND FORM's CARD OF 'gimletlaw01.RunesTakes'. -/
def runesTakesUptoCard : Claim7 := { stood := { row := runesTakesUptoRow, standIns := [], harness := (true, "2b8ef28e57a2041b806333ee277b9b32ff27d6fdde520c30340ae39c6bed05e1"), looks := false }, kinds := [], alts := [], laidByText := true, laidKinds := [.data, .pinned], laidTests := true, laidLooks := .later }
def RunesTakesUptoCardSaid : Prop := Claim7.holds Tryd.pinned (.plain (OpenSpec.upto runesTakesSpec)) runesTakesUptoCard

/-- THE SECOND FORM's CARD OF 'gimletlaw01.RunesGo'. -/
def runesGoUptoCard : Claim7 := { stood := { row := runesGoUptoRow, standIns := [], harness := (true, "2b8ef28e57a2041b806333ee277b9b32ff27d6fdde520c30340ae39c6bed05e1"), looks := false }, kinds := [], alts := [], laidByText := true, laidKinds := [.data, .pinned], laidTests := true, laidLooks := .later }
def RunesGoUptoCardSaid : Prop := Claim7.holds Tryd.pinned (.plain (OpenSpec.upto runesGoSpec)) runesGoUptoCard

/-- THE SECOND FORM's CARD OF 'gimletlaw01.RunesBack'. -/
def runesBackUptoCard : Claim7 := { stood := { row := runesBackUptoRow, standIns := [], harness := (true, "2b8ef28e57a2041b806333ee277b9b32ff27d6fdde520c30340ae39c6bed05e1"), looks := false }, kinds := [], alts := [], laidByText := true, laidKinds := [.data, .pinned], laidTests := true, laidLooks := .later }
def RunesBackUptoCardSaid : Prop := Claim7.holds Tryd.pinned (.plain (OpenSpec.upto runesBackSpec)) runesBackUptoCard

/-- THE SECOND FORM's CARD OF 'gimletlaw01.RunesMends'. -/
def runesMendsUptoCard : Claim7 := { stood := { row := runesMendsUptoRow, standIns := [], harness := (true, "2b8ef28e57a2041b806333ee277b9b32ff27d6fdde520c30340ae39c6bed05e1"), looks := false }, kinds := [], alts := [], laidByText := true, laidKinds := [.data, .pinned], laidTests := true, laidLooks := .later }
def RunesMendsUptoCardSaid : Prop := Claim7.holds Tryd.pinned (.plain (OpenSpec.upto runesMendsSpec)) runesMendsUptoCard
end Rows
end Go.Proofs.YtacmenmneilamaaDoor
