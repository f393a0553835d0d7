/-
  DERIVED. GIVEN WITH THE SEED: THE CARDS: each row of YtlgabpcjhhihdaaDoorRows.lean that lists a variable, with what it lists TIED to the program's text (the seventh form; the later family's looks); each row that meets fmt, with fmt's text TOLD by the authors' own Lean function (tested against real Go, not proved from fmt's source: count such statements apart). THE CARD IS WHAT COUNTS. Prove the row's statement (the work); the ties are given (YtlgabpcjhhihdaaDoorTie.lean); close each card by the builder's one call (the guide's Derived/Test/ToyasCard.lean, 'card_holds'). Laid BY PROGRAM, IN A SANDBOX (cutbox-door.mjs). By AI agents, Wed Nov 11 2026. No macro, syntax, notation, axiom, sorry.
-/
import Derived.Test.YtlgabpcjhhihdaaDoorRows
import GoSem.ClaimSeven
namespace Go.Proofs.YtlgabpcjhhihdaaDoor
namespace Rows

/-- THE TIED CARD OF 'norialaw3.ValReads'. -/
def valReadsCard : Claim7 := { stood := { row := valReadsRow, standIns := [], harness := (true, "81810ded3d9ebda49db26646396c521e631553510d384b238b1281cc0f4d3493"), looks := true }, kinds := [], alts := [], laidByText := true, laidKinds := [.data, .data, .data, .sentinel, .sentinel], laidTests := true, laidLooks := .later }
def ValReadsCardSaid : Prop := Claim7.holds Tryd.pinned (.plain (OpenSpec.ofChange valReadsSpec)) valReadsCard

/-- THE TIED CARD OF 'norialaw3.ValBytes'. -/
def valBytesCard : Claim7 := { stood := { row := valBytesRow, standIns := [], harness := (true, "81810ded3d9ebda49db26646396c521e631553510d384b238b1281cc0f4d3493"), looks := true }, kinds := [], alts := [], laidByText := true, laidKinds := [.data, .data, .data, .sentinel, .sentinel], laidTests := true, laidLooks := .later }
def ValBytesCardSaid : Prop := Claim7.holds Tryd.pinned (.plain (OpenSpec.ofChange valBytesSpec)) valBytesCard

/-- THE TIED CARD OF 'norialaw3.ValNumbers'. -/
def valNumbersCard : Claim7 := { stood := { row := valNumbersRow, standIns := [], harness := (true, "81810ded3d9ebda49db26646396c521e631553510d384b238b1281cc0f4d3493"), looks := true }, kinds := [], alts := [], laidByText := true, laidKinds := [.data, .data, .data, .sentinel, .sentinel], laidTests := true, laidLooks := .later }
def ValNumbersCardSaid : Prop := Claim7.holds Tryd.pinned (.plain (OpenSpec.ofChange valNumbersSpec)) valNumbersCard

/-- THE SECOND FORM's CARD OF 'norialaw3.ValReads'. -/
def valReadsUptoCard : Claim7 := { stood := { row := valReadsUptoRow, standIns := [], harness := (true, "81810ded3d9ebda49db26646396c521e631553510d384b238b1281cc0f4d3493"), looks := true }, kinds := [], alts := [], laidByText := true, laidKinds := [.data, .data, .data, .sentinel, .sentinel], laidTests := true, laidLooks := .later }
def ValReadsUptoCardSaid : Prop := Claim7.holds Tryd.pinned (.plain (OpenSpec.upto valReadsSpec)) valReadsUptoCard

/-- THE SECOND FORM's CARD OF 'norialaw3.ValBytes'. -/
def valBytesUptoCard : Claim7 := { stood := { row := valBytesUptoRow, standIns := [], harness := (true, "81810ded3d9ebda49db26646396c521e631553510d384b238b1281cc0f4d3493"), looks := true }, kinds := [], alts := [], laidByText := true, laidKinds := [.data, .data, .data, .sentinel, .sentinel], laidTests := true, laidLooks := .later }
def ValBytesUptoCardSaid : Prop := Claim7.holds Tryd.pinned (.plain (OpenSpec.upto valBytesSpec)) valBytesUptoCard

/-- THE SECOND FORM's CARD OF 'norialaw3.ValNumbers'. -/
def valNumbersUptoCard : Claim7 := { stood := { row := valNumbersUptoRow, standIns := [], harness := (true, "81810ded3d9ebda49db26646396c521e631553510d384b238b1281cc0f4d3493"), looks := true }, kinds := [], alts := [], laidByText := true, laidKinds := [.data, .data, .data, .sentinel, .sentinel], laidTests := true, laidLooks := .later }
def ValNumbersUptoCardSaid : Prop := Claim7.holds Tryd.pinned (.plain (OpenSpec.upto valNumbersSpec)) valNumbersUptoCard
end Rows
end Go.Proofs.YtlgabpcjhhihdaaDoor
