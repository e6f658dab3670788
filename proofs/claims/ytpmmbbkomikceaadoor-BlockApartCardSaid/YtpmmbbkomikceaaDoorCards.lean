/-
  DERIVED. GIVEN WITH THE SEED: THE CARDS: each row of YtpmmbbkomikceaaDoorRows.lean that lists a variable, with what it lists TIED to the program's text (the seventh form; the later family's looks); each row that meets fmt, with fmt's text TOLD by the authors' own Lean function (tested against real Go, not proved from fmt's source: count such statements apart). THE CARD IS WHAT COUNTS. Prove the row's statement (the work); the ties are given (YtpmmbbkomikceaaDoorTie.lean); close each card by the builder's one call (the guide's Derived/Test/ToyasCard.lean, 'card_holds'). Laid BY PROGRAM, IN A SANDBOX (cutbox-door.mjs). By AI agents, Wed Nov 11 2026. No macro, syntax, notation, axiom, sorry.
-/
import Derived.Test.YtpmmbbkomikceaaDoorRows
import GoSem.ClaimSeven
namespace Go.Proofs.YtpmmbbkomikceaaDoor
namespace Rows

/-- THE TIED CARD OF 'cobweblaw08.BlockSums'. -/
def blockSumsCard : Claim7 := { stood := { row := blockSumsRow, standIns := [], harness := (true, "ddf60515788722968e5486f4c1809fd415815748657bafb6ab2b3ed11885f3c9"), looks := false }, kinds := [], alts := [], laidByText := true, laidKinds := [.data], laidTests := true, laidLooks := .later }
def BlockSumsCardSaid : Prop := Claim7.holds Tryd.pinned (.plain (OpenSpec.ofChange blockSumsSpec)) blockSumsCard

/-- THE TIED CARD OF 'cobweblaw08.BlockPacks'. -/
def blockPacksCard : Claim7 := { stood := { row := blockPacksRow, standIns := [], harness := (true, "ddf60515788722968e5486f4c1809fd415815748657bafb6ab2b3ed11885f3c9"), looks := false }, kinds := [], alts := [], laidByText := true, laidKinds := [.data], laidTests := true, laidLooks := .later }
def BlockPacksCardSaid : Prop := Claim7.holds Tryd.pinned (.plain (OpenSpec.ofChange blockPacksSpec)) blockPacksCard

/-- THE TIED CARD OF 'cobweblaw08.BlockTakes'. -/
def blockTakesCard : Claim7 := { stood := { row := blockTakesRow, standIns := [], harness := (true, "ddf60515788722968e5486f4c1809fd415815748657bafb6ab2b3ed11885f3c9"), looks := false }, kinds := [], alts := [], laidByText := true, laidKinds := [.data], laidTests := true, laidLooks := .later }
def BlockTakesCardSaid : Prop := Claim7.holds Tryd.pinned (.plain (OpenSpec.ofChange blockTakesSpec)) blockTakesCard

/-- THE TIED CARD OF 'cobweblaw08.BlockApart'. -/
def blockApartCard : Claim7 := { stood := { row := blockApartRow, standIns := [], harness := (true, "ddf60515788722968e5486f4c1809fd415815748657bafb6ab2b3ed11885f3c9"), looks := false }, kinds := [], alts := [], laidByText := true, laidKinds := [.data], laidTests := true, laidLooks := .later }
def BlockApartCardSaid : Prop := Claim7.holds Tryd.pinned (.plain (OpenSpec.ofChange blockApartSpec)) blockApartCard

/-- THE TIED CARD OF 'cobweblaw08.BlockJoins'. -/
def blockJoinsCard : Claim7 := { stood := { row := blockJoinsRow, standIns := [], harness := (true, "ddf60515788722968e5486f4c1809fd415815748657bafb6ab2b3ed11885f3c9"), looks := false }, kinds := [], alts := [], laidByText := true, laidKinds := [.data], laidTests := true, laidLooks := .later }
def BlockJoinsCardSaid : Prop := Claim7.holds Tryd.pinned (.plain (OpenSpec.ofChange blockJoinsSpec)) blockJoinsCard

/-- THE SECOND FORM's CARD OF 'cobweblaw08.BlockSums'. -/
def blockSumsUptoCard : Claim7 := { stood := { row := blockSumsUptoRow, standIns := [], harness := (true, "ddf60515788722968e5486f4c1809fd415815748657bafb6ab2b3ed11885f3c9"), looks := false }, kinds := [], alts := [], laidByText := true, laidKinds := [.data], laidTests := true, laidLooks := .later }
def BlockSumsUptoCardSaid : Prop := Claim7.holds Tryd.pinned (.plain (OpenSpec.upto blockSumsSpec)) blockSumsUptoCard

/-- THE SECOND FORM's CARD OF 'cobweblaw08.BlockPacks'. -/
def blockPacksUptoCard : Claim7 := { stood := { row := blockPacksUptoRow, standIns := [], harness := (true, "ddf60515788722968e5486f4c1809fd415815748657bafb6ab2b3ed11885f3c9"), looks := false }, kinds := [], alts := [], laidByText := true, laidKinds := [.data], laidTests := true, laidLooks := .later }
def BlockPacksUptoCardSaid : Prop := Claim7.holds Tryd.pinned (.plain (OpenSpec.upto blockPacksSpec)) blockPacksUptoCard

/-- THE SECOND FORM's CARD OF 'cobweblaw08.BlockTakes'. -/
def blockTakesUptoCard : Claim7 := { stood := { row := blockTakesUptoRow, standIns := [], harness := (true, "ddf60515788722968e5486f4c1809fd415815748657bafb6ab2b3ed11885f3c9"), looks := false }, kinds := [], alts := [], laidByText := true, laidKinds := [.data], laidTests := true, laidLooks := .later }
def BlockTakesUptoCardSaid : Prop := Claim7.holds Tryd.pinned (.plain (OpenSpec.upto blockTakesSpec)) blockTakesUptoCard

/-- THE SECOND FORM's CARD OF 'cobweblaw08.BlockApart'. -/
def blockApartUptoCard : Claim7 := { stood := { row := blockApartUptoRow, standIns := [], harness := (true, "ddf60515788722968e5486f4c1809fd415815748657bafb6ab2b3ed11885f3c9"), looks := false }, kinds := [], alts := [], laidByText := true, laidKinds := [.data], laidTests := true, laidLooks := .later }
def BlockApartUptoCardSaid : Prop := Claim7.holds Tryd.pinned (.plain (OpenSpec.upto blockApartSpec)) blockApartUptoCard

/-- THE SECOND FORM's CARD OF 'cobweblaw08.BlockJoins'. -/
def blockJoinsUptoCard : Claim7 := { stood := { row := blockJoinsUptoRow, standIns := [], harness := (true, "ddf60515788722968e5486f4c1809fd415815748657bafb6ab2b3ed11885f3c9"), looks := false }, kinds := [], alts := [], laidByText := true, laidKinds := [.data], laidTests := true, laidLooks := .later }
def BlockJoinsUptoCardSaid : Prop := Claim7.holds Tryd.pinned (.plain (OpenSpec.upto blockJoinsSpec)) blockJoinsUptoCard
end Rows
end Go.Proofs.YtpmmbbkomikceaaDoor
