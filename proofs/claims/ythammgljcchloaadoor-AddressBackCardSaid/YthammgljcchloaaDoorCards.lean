/-
  DERIVED. GIVEN WITH THE SEED: THE CARDS: each row of YthammgljcchloaaDoorRows.lean that lists a variable, with what it lists TIED to the program's text (the seventh form; the later family's looks); each row that meets fmt, with fmt's text TOLD by the authors' own Lean function (tested against real Go, not proved from fmt's source: count such statements apart). THE CARD IS WHAT COUNTS. Prove the row's statement (the work); the ties are given (YthammgljcchloaaDoorTie.lean); close each card by the builder's one call (the guide's Derived/Test/ToyasCard.lean, 'card_holds'). Laid BY PROGRAM, IN A SANDBOX (cutbox-door.mjs). By AI agents, Wed Nov 11 2026. No macro, syntax, notation, axiom, sorry.
-/
import Derived.Test.YthammgljcchloaaDoorRows
import GoSem.ClaimSeven
namespace Go.Proofs.YthammgljcchloaaDoor
namespace Rows

/-- THE TIED CARD OF 'multihoplaw04.AddressTexts'. -/
def addressTextsCard : Claim7 := { stood := { row := addressTextsRow, standIns := [], harness := (true, "e5929b69f2df636eb4c68bbf1e5fcf0ad97fe81f4680320f99f252eb39c53e7b"), looks := true }, kinds := [], alts := [], laidByText := true, laidKinds := [.data, .data, .data, .data, .sentinel, .sentinel, .pinned], laidTests := true, laidLooks := .later }
def AddressTextsCardSaid : Prop := Claim7.holds Tryd.pinned (.plain (OpenSpec.ofChange addressTextsSpec)) addressTextsCard

/-- THE TIED CARD OF 'multihoplaw04.AddressPrefixes'. -/
def addressPrefixesCard : Claim7 := { stood := { row := addressPrefixesRow, standIns := [], harness := (true, "e5929b69f2df636eb4c68bbf1e5fcf0ad97fe81f4680320f99f252eb39c53e7b"), looks := true }, kinds := [], alts := [], laidByText := true, laidKinds := [.data, .data, .data, .data, .sentinel, .sentinel, .pinned], laidTests := true, laidLooks := .later }
def AddressPrefixesCardSaid : Prop := Claim7.holds Tryd.pinned (.plain (OpenSpec.ofChange addressPrefixesSpec)) addressPrefixesCard

/-- THE TIED CARD OF 'multihoplaw04.AddressHalves'. -/
def addressHalvesCard : Claim7 := { stood := { row := addressHalvesRow, standIns := [], harness := (true, "e5929b69f2df636eb4c68bbf1e5fcf0ad97fe81f4680320f99f252eb39c53e7b"), looks := true }, kinds := [], alts := [], laidByText := true, laidKinds := [.data, .data, .data, .data, .sentinel, .sentinel, .pinned], laidTests := true, laidLooks := .later }
def AddressHalvesCardSaid : Prop := Claim7.holds Tryd.pinned (.plain (OpenSpec.ofChange addressHalvesSpec)) addressHalvesCard

/-- THE TIED CARD OF 'multihoplaw04.AddressBack'. -/
def addressBackCard : Claim7 := { stood := { row := addressBackRow, standIns := [], harness := (true, "e5929b69f2df636eb4c68bbf1e5fcf0ad97fe81f4680320f99f252eb39c53e7b"), looks := true }, kinds := [], alts := [], laidByText := true, laidKinds := [.data, .data, .data, .data, .sentinel, .sentinel, .pinned], laidTests := true, laidLooks := .later }
def AddressBackCardSaid : Prop := Claim7.holds Tryd.pinned (.plain (OpenSpec.ofChange addressBackSpec)) addressBackCard

/-- THE SECOND FORM's CARD OF 'multihoplaw04.AddressTexts'. -/
def addressTextsUptoCard : Claim7 := { stood := { row := addressTextsUptoRow, standIns := [], harness := (true, "e5929b69f2df636eb4c68bbf1e5fcf0ad97fe81f4680320f99f252eb39c53e7b"), looks := true }, kinds := [], alts := [], laidByText := true, laidKinds := [.data, .data, .data, .data, .sentinel, .sentinel, .pinned], laidTests := true, laidLooks := .later }
def AddressTextsUptoCardSaid : Prop := Claim7.holds Tryd.pinned (.plain (OpenSpec.upto addressTextsSpec)) addressTextsUptoCard

/-- THE SECOND FORM's CARD OF 'multihoplaw04.AddressPrefixes'. -/
def addressPrefixesUptoCard : Claim7 := { stood := { row := addressPrefixesUptoRow, standIns := [], harness := (true, "e5929b69f2df636eb4c68bbf1e5fcf0ad97fe81f4680320f99f252eb39c53e7b"), looks := true }, kinds := [], alts := [], laidByText := true, laidKinds := [.data, .data, .data, .data, .sentinel, .sentinel, .pinned], laidTests := true, laidLooks := .later }
def AddressPrefixesUptoCardSaid : Prop := Claim7.holds Tryd.pinned (.plain (OpenSpec.upto addressPrefixesSpec)) addressPrefixesUptoCard

/-- THE SECOND FORM's CARD OF 'multihoplaw04.AddressHalves'. -/
def addressHalvesUptoCard : Claim7 := { stood := { row := addressHalvesUptoRow, standIns := [], harness := (true, "e5929b69f2df636eb4c68bbf1e5fcf0ad97fe81f4680320f99f252eb39c53e7b"), looks := true }, kinds := [], alts := [], laidByText := true, laidKinds := [.data, .data, .data, .data, .sentinel, .sentinel, .pinned], laidTests := true, laidLooks := .later }
def AddressHalvesUptoCardSaid : Prop := Claim7.holds Tryd.pinned (.plain (OpenSpec.upto addressHalvesSpec)) addressHalvesUptoCard

/-- THE SECOND FORM's CARD OF 'multihoplaw04.AddressBack'. -/
def addressBackUptoCard : Claim7 := { stood := { row := addressBackUptoRow, standIns := [], harness := (true, "e5929b69f2df636eb4c68bbf1e5fcf0ad97fe81f4680320f99f252eb39c53e7b"), looks := true }, kinds := [], alts := [], laidByText := true, laidKinds := [.data, .data, .data, .data, .sentinel, .sentinel, .pinned], laidTests := true, laidLooks := .later }
def AddressBackUptoCardSaid : Prop := Claim7.holds Tryd.pinned (.plain (OpenSpec.upto addressBackSpec)) addressBackUptoCard
end Rows
end Go.Proofs.YthammgljcchloaaDoor
