/-
  DERIVED. GIVEN WITH THE SEED: THE CARDS: each row of YtploppaocpbnlaaDoorRows.lean that lists a variable, with what it lists TIED to the program's text (the seventh form; the later family's looks); each row that meets fmt, with fmt's text TOLD by the authors' own Lean function (tested against real Go, not proved from fmt's source: count such statements apart). THE CARD IS WHAT COUNTS. Prove the row's statement (the work); the ties are given (YtploppaocpbnlaaDoorTie.lean); close each card by the builder's one call (the guide's Derived/Test/ToyasCard.lean, 'card_holds'). Laid BY PROGRAM, IN A SANDBOX (cutbox-door.mjs). By AI agents, Wed Nov 11 2026. No macro, syntax, notation, axiom, sorry.
-/
import Derived.Test.YtploppaocpbnlaaDoorRows
import GoSem.ClaimSeven
namespace Go.Proofs.YtploppaocpbnlaaDoor
namespace Rows

/-- THE TIED CARD OF 'gimletlaw02.CharsIs'. -/
def charsIsCard : Claim7 := { stood := { row := charsIsRow, standIns := [], harness := (true, "1fabe6111a72bbad8ea3e587a7800c87fd07c74cd7c4333fec36c5b92d284a21"), looks := false }, kinds := [], alts := [], laidByText := true, laidKinds := [.data, .data, .pinned], laidTests := true, laidLooks := .later }
def CharsIsCardSaid : Prop := Claim7.holds Tryd.pinned (.plain (OpenSpec.ofChange charsIsSpec)) charsIsCard

/-- THE TIED CARD OF 'gimletlaw02.CharsBegins'. -/
def charsBeginsCard : Claim7 := { stood := { row := charsBeginsRow, standIns := [], harness := (true, "1fabe6111a72bbad8ea3e587a7800c87fd07c74cd7c4333fec36c5b92d284a21"), looks := false }, kinds := [], alts := [], laidByText := true, laidKinds := [.data, .data, .pinned], laidTests := true, laidLooks := .later }
def CharsBeginsCardSaid : Prop := Claim7.holds Tryd.pinned (.plain (OpenSpec.ofChange charsBeginsSpec)) charsBeginsCard

/-- THE TIED CARD OF 'gimletlaw02.CharsTexts'. -/
def charsTextsCard : Claim7 := { stood := { row := charsTextsRow, standIns := [], harness := (true, "1fabe6111a72bbad8ea3e587a7800c87fd07c74cd7c4333fec36c5b92d284a21"), looks := false }, kinds := [], alts := [], laidByText := true, laidKinds := [.data, .data, .pinned], laidTests := true, laidLooks := .later }
def CharsTextsCardSaid : Prop := Claim7.holds Tryd.pinned (.plain (OpenSpec.ofChange charsTextsSpec)) charsTextsCard

/-- THE TIED CARD OF 'gimletlaw02.CharsChain'. -/
def charsChainCard : Claim7 := { stood := { row := charsChainRow, standIns := [], harness := (true, "1fabe6111a72bbad8ea3e587a7800c87fd07c74cd7c4333fec36c5b92d284a21"), looks := false }, kinds := [], alts := [], laidByText := true, laidKinds := [.data, .data, .pinned], laidTests := true, laidLooks := .later }
def CharsChainCardSaid : Prop := Claim7.holds Tryd.pinned (.plain (OpenSpec.ofChange charsChainSpec)) charsChainCard

/-- THE TIED CARD OF 'gimletlaw02.CharsAll'. -/
def charsAllCard : Claim7 := { stood := { row := charsAllRow, standIns := [], harness := (true, "1fabe6111a72bbad8ea3e587a7800c87fd07c74cd7c4333fec36c5b92d284a21"), looks := false }, kinds := [], alts := [], laidByText := true, laidKinds := [.data, .data, .pinned], laidTests := true, laidLooks := .later }
def CharsAllCardSaid : Prop := Claim7.holds Tryd.pinned (.plain (OpenSpec.ofChange charsAllSpec)) charsAllCard

/-- THE TIED CARD OF 'gimletlaw02.CharsBytes'. -/
def charsBytesCard : Claim7 := { stood := { row := charsBytesRow, standIns := [], harness := (true, "1fabe6111a72bbad8ea3e587a7800c87fd07c74cd7c4333fec36c5b92d284a21"), looks := false }, kinds := [], alts := [], laidByText := true, laidKinds := [.data, .data, .pinned], laidTests := true, laidLooks := .later }
def CharsBytesCardSaid : Prop := Claim7.holds Tryd.pinned (.plain (OpenSpec.ofChange charsBytesSpec)) charsBytesCard

/-- THE SECOND FORM's CARD OF 'gimletlaw02.CharsIs'. -/
def charsIsUptoCard : Claim7 := { stood := { row := charsIsUptoRow, standIns := [], harness := (true, "1fabe6111a72bbad8ea3e587a7800c87fd07c74cd7c4333fec36c5b92d284a21"), looks := false }, kinds := [], alts := [], laidByText := true, laidKinds := [.data, .data, .pinned], laidTests := true, laidLooks := .later }
def CharsIsUptoCardSaid : Prop := Claim7.holds Tryd.pinned (.plain (OpenSpec.upto charsIsSpec)) charsIsUptoCard

/-- THE SECOND FORM's CARD OF 'gimletlaw02.CharsBegins'. -/
def charsBeginsUptoCard : Claim7 := { stood := { row := charsBeginsUptoRow, standIns := [], harness := (true, "1fabe6111a72bbad8ea3e587a7800c87fd07c74cd7c4333fec36c5b92d284a21"), looks := false }, kinds := [], alts := [], laidByText := true, laidKinds := [.data, .data, .pinned], laidTests := true, laidLooks := .later }
def CharsBeginsUptoCardSaid : Prop := Claim7.holds Tryd.pinned (.plain (OpenSpec.upto charsBeginsSpec)) charsBeginsUptoCard

/-- THE SECOND FORM's CARD OF 'gimletlaw02.CharsTexts'. -/
def charsTextsUptoCard : Claim7 := { stood := { row := charsTextsUptoRow, standIns := [], harness := (true, "1fabe6111a72bbad8ea3e587a7800c87fd07c74cd7c4333fec36c5b92d284a21"), looks := false }, kinds := [], alts := [], laidByText := true, laidKinds := [.data, .data, .pinned], laidTests := true, laidLooks := .later }
def CharsTextsUptoCardSaid : Prop := Claim7.holds Tryd.pinned (.plain (OpenSpec.upto charsTextsSpec)) charsTextsUptoCard

/-- THE SECOND FORM's CARD OF 'gimletlaw02.CharsChain'. -/
def charsChainUptoCard : Claim7 := { stood := { row := charsChainUptoRow, standIns := [], harness := (true, "1fabe6111a72bbad8ea3e587a7800c87fd07c74cd7c4333fec36c5b92d284a21"), looks := false }, kinds := [], alts := [], laidByText := true, laidKinds := [.data, .data, .pinned], laidTests := true, laidLooks := .later }
def CharsChainUptoCardSaid : Prop := Claim7.holds Tryd.pinned (.plain (OpenSpec.upto charsChainSpec)) charsChainUptoCard

/-- THE SECOND FORM's CARD OF 'gimletlaw02.CharsAll'. -/
def charsAllUptoCard : Claim7 := { stood := { row := charsAllUptoRow, standIns := [], harness := (true, "1fabe6111a72bbad8ea3e587a7800c87fd07c74cd7c4333fec36c5b92d284a21"), looks := false }, kinds := [], alts := [], laidByText := true, laidKinds := [.data, .data, .pinned], laidTests := true, laidLooks := .later }
def CharsAllUptoCardSaid : Prop := Claim7.holds Tryd.pinned (.plain (OpenSpec.upto charsAllSpec)) charsAllUptoCard

/-- THE SECOND FORM's CARD OF 'gimletlaw02.CharsBytes'. -/
def charsBytesUptoCard : Claim7 := { stood := { row := charsBytesUptoRow, standIns := [], harness := (true, "1fabe6111a72bbad8ea3e587a7800c87fd07c74cd7c4333fec36c5b92d284a21"), looks := false }, kinds := [], alts := [], laidByText := true, laidKinds := [.data, .data, .pinned], laidTests := true, laidLooks := .later }
def CharsBytesUptoCardSaid : Prop := Claim7.holds Tryd.pinned (.plain (OpenSpec.upto charsBytesSpec)) charsBytesUptoCard
end Rows
end Go.Proofs.YtploppaocpbnlaaDoor
