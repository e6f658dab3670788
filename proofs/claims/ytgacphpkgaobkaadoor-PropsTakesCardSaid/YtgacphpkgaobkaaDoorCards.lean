/-
  DERIVED. GIVEN WITH THE SEED: THE CARDS: each row of YtgacphpkgaobkaaDoorRows.lean that lists a variable, with what it lists TIED to the program's text (the seventh form; the later family's looks); each row that meets fmt, with fmt's text TOLD by the authors' own Lean function (tested against real Go, not proved from fmt's source: count such statements apart). THE CARD IS WHAT COUNTS. Prove the row's statement (the work); the ties are given (YtgacphpkgaobkaaDoorTie.lean); close each card by the builder's one call (the guide's Derived/Test/ToyasCard.lean, 'card_holds'). Laid BY PROGRAM, IN A SANDBOX (cutbox-door.mjs). By AI agents, Wed Nov 11 2026. No macro, syntax, notation, axiom, sorry.
-/
import Derived.Test.YtgacphpkgaobkaaDoorRows
import GoSem.ClaimSeven
namespace Go.Proofs.YtgacphpkgaobkaaDoor
namespace Rows

/-- THE TIED CARD OF 'cobweblaw03.PropsSets'. -/
def propsSetsCard : Claim7 := { stood := { row := propsSetsRow, standIns := [], harness := (true, "8ab72277761c6b3718c6205f1c4fa9a7face8ce43757a53f4ec4f721a41c93f8"), looks := true }, kinds := [], alts := [], laidByText := true, laidKinds := [.data, .pinned], laidTests := true, laidLooks := .later }
def PropsSetsCardSaid : Prop := Claim7.holds Tryd.pinned (.plain (OpenSpec.ofChange propsSetsSpec)) propsSetsCard

/-- THE TIED CARD OF 'cobweblaw03.PropsTakes'. -/
def propsTakesCard : Claim7 := { stood := { row := propsTakesRow, standIns := [], harness := (true, "8ab72277761c6b3718c6205f1c4fa9a7face8ce43757a53f4ec4f721a41c93f8"), looks := true }, kinds := [], alts := [], laidByText := true, laidKinds := [.data, .pinned], laidTests := true, laidLooks := .later }
def PropsTakesCardSaid : Prop := Claim7.holds Tryd.pinned (.plain (OpenSpec.ofChange propsTakesSpec)) propsTakesCard

/-- THE TIED CARD OF 'cobweblaw03.PropsOrder'. -/
def propsOrderCard : Claim7 := { stood := { row := propsOrderRow, standIns := [], harness := (true, "8ab72277761c6b3718c6205f1c4fa9a7face8ce43757a53f4ec4f721a41c93f8"), looks := true }, kinds := [], alts := [], laidByText := true, laidKinds := [.data, .pinned], laidTests := true, laidLooks := .later }
def PropsOrderCardSaid : Prop := Claim7.holds Tryd.pinned (.plain (OpenSpec.ofChange propsOrderSpec)) propsOrderCard

/-- THE TIED CARD OF 'cobweblaw03.PropsGets'. -/
def propsGetsCard : Claim7 := { stood := { row := propsGetsRow, standIns := [], harness := (true, "8ab72277761c6b3718c6205f1c4fa9a7face8ce43757a53f4ec4f721a41c93f8"), looks := true }, kinds := [], alts := [], laidByText := true, laidKinds := [.data, .pinned], laidTests := true, laidLooks := .later }
def PropsGetsCardSaid : Prop := Claim7.holds Tryd.pinned (.plain (OpenSpec.ofChange propsGetsSpec)) propsGetsCard

/-- THE TIED CARD OF 'cobweblaw03.PropsApart'. -/
def propsApartCard : Claim7 := { stood := { row := propsApartRow, standIns := [], harness := (true, "8ab72277761c6b3718c6205f1c4fa9a7face8ce43757a53f4ec4f721a41c93f8"), looks := true }, kinds := [], alts := [], laidByText := true, laidKinds := [.data, .pinned], laidTests := true, laidLooks := .later }
def PropsApartCardSaid : Prop := Claim7.holds Tryd.pinned (.plain (OpenSpec.ofChange propsApartSpec)) propsApartCard

/-- THE SECOND FORM's CARD OF 'cobweblaw03.PropsSets'. -/
def propsSetsUptoCard : Claim7 := { stood := { row := propsSetsUptoRow, standIns := [], harness := (true, "8ab72277761c6b3718c6205f1c4fa9a7face8ce43757a53f4ec4f721a41c93f8"), looks := true }, kinds := [], alts := [], laidByText := true, laidKinds := [.data, .pinned], laidTests := true, laidLooks := .later }
def PropsSetsUptoCardSaid : Prop := Claim7.holds Tryd.pinned (.plain (OpenSpec.upto propsSetsSpec)) propsSetsUptoCard

/-- THE SECOND FORM's CARD OF 'cobweblaw03.PropsTakes'. -/
def propsTakesUptoCard : Claim7 := { stood := { row := propsTakesUptoRow, standIns := [], harness := (true, "8ab72277761c6b3718c6205f1c4fa9a7face8ce43757a53f4ec4f721a41c93f8"), looks := true }, kinds := [], alts := [], laidByText := true, laidKinds := [.data, .pinned], laidTests := true, laidLooks := .later }
def PropsTakesUptoCardSaid : Prop := Claim7.holds Tryd.pinned (.plain (OpenSpec.upto propsTakesSpec)) propsTakesUptoCard

/-- THE SECOND FORM's CARD OF 'cobweblaw03.PropsOrder'. -/
def propsOrderUptoCard : Claim7 := { stood := { row := propsOrderUptoRow, standIns := [], harness := (true, "8ab72277761c6b3718c6205f1c4fa9a7face8ce43757a53f4ec4f721a41c93f8"), looks := true }, kinds := [], alts := [], laidByText := true, laidKinds := [.data, .pinned], laidTests := true, laidLooks := .later }
def PropsOrderUptoCardSaid : Prop := Claim7.holds Tryd.pinned (.plain (OpenSpec.upto propsOrderSpec)) propsOrderUptoCard

/-- THE SECOND FORM's CARD OF 'cobweblaw03.PropsGets'. -/
def propsGetsUptoCard : Claim7 := { stood := { row := propsGetsUptoRow, standIns := [], harness := (true, "8ab72277761c6b3718c6205f1c4fa9a7face8ce43757a53f4ec4f721a41c93f8"), looks := true }, kinds := [], alts := [], laidByText := true, laidKinds := [.data, .pinned], laidTests := true, laidLooks := .later }
def PropsGetsUptoCardSaid : Prop := Claim7.holds Tryd.pinned (.plain (OpenSpec.upto propsGetsSpec)) propsGetsUptoCard

/-- THE SECOND FORM's CARD OF 'cobweblaw03.PropsApart'. -/
def propsApartUptoCard : Claim7 := { stood := { row := propsApartUptoRow, standIns := [], harness := (true, "8ab72277761c6b3718c6205f1c4fa9a7face8ce43757a53f4ec4f721a41c93f8"), looks := true }, kinds := [], alts := [], laidByText := true, laidKinds := [.data, .pinned], laidTests := true, laidLooks := .later }
def PropsApartUptoCardSaid : Prop := Claim7.holds Tryd.pinned (.plain (OpenSpec.upto propsApartSpec)) propsApartUptoCard
end Rows
end Go.Proofs.YtgacphpkgaobkaaDoor
