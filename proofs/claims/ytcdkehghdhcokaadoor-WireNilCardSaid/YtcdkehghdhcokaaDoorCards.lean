/-
  DERIVED. GIVEN WITH THE SEED: THE CARDS: each row of YtcdkehghdhcokaaDoorRows.lean that lists a variable, with what it lists TIED to the program's text (the seventh form; the later family's looks); each row that meets fmt, with fmt's text TOLD by the authors' own Lean function (tested against real Go, not proved from fmt's source: count such statements apart). THE CARD IS WHAT COUNTS. Prove the row's statement (the work); the ties are given (YtcdkehghdhcokaaDoorTie.lean); close each card by the builder's one call (the guide's Derived/Test/ToyasCard.lean, 'card_holds'). Laid BY PROGRAM, IN A SANDBOX (cutbox-door.mjs). By AI agents, Wed Nov 11 2026. No macro, syntax, notation, axiom, sorry.
-/
import Derived.Test.YtcdkehghdhcokaaDoorRows
import GoSem.ClaimSeven
namespace Go.Proofs.YtcdkehghdhcokaaDoor
namespace Rows

/-- THE TIED CARD OF 'relucertlaw08.WireReads'. -/
def wireReadsCard : Claim7 := { stood := { row := wireReadsRow, standIns := [], harness := (true, "424b31b3a00ae6dd4b631c783845144b50c2dd2b60ae7d21362c7641859dd9f9"), looks := false }, kinds := [], alts := [], laidByText := true, laidKinds := [.data], laidTests := true, laidLooks := .later }
def WireReadsCardSaid : Prop := Claim7.holds Tryd.pinned (.plain (OpenSpec.ofChange wireReadsSpec)) wireReadsCard

/-- THE TIED CARD OF 'relucertlaw08.WireRoundTrip'. -/
def wireRoundTripCard : Claim7 := { stood := { row := wireRoundTripRow, standIns := [], harness := (true, "424b31b3a00ae6dd4b631c783845144b50c2dd2b60ae7d21362c7641859dd9f9"), looks := false }, kinds := [], alts := [], laidByText := true, laidKinds := [.data], laidTests := true, laidLooks := .later }
def WireRoundTripCardSaid : Prop := Claim7.holds Tryd.pinned (.plain (OpenSpec.ofChange wireRoundTripSpec)) wireRoundTripCard

/-- THE TIED CARD OF 'relucertlaw08.WireUnique'. -/
def wireUniqueCard : Claim7 := { stood := { row := wireUniqueRow, standIns := [], harness := (true, "424b31b3a00ae6dd4b631c783845144b50c2dd2b60ae7d21362c7641859dd9f9"), looks := false }, kinds := [], alts := [], laidByText := true, laidKinds := [.data], laidTests := true, laidLooks := .later }
def WireUniqueCardSaid : Prop := Claim7.holds Tryd.pinned (.plain (OpenSpec.ofChange wireUniqueSpec)) wireUniqueCard

/-- THE TIED CARD OF 'relucertlaw08.WireNil'. -/
def wireNilCard : Claim7 := { stood := { row := wireNilRow, standIns := [], harness := (true, "424b31b3a00ae6dd4b631c783845144b50c2dd2b60ae7d21362c7641859dd9f9"), looks := false }, kinds := [], alts := [], laidByText := true, laidKinds := [.data], laidTests := true, laidLooks := .later }
def WireNilCardSaid : Prop := Claim7.holds Tryd.pinned (.plain (OpenSpec.ofChange wireNilSpec)) wireNilCard

/-- THE SECOND FORM's CARD OF 'relucertlaw08.WireReads'. -/
def wireReadsUptoCard : Claim7 := { stood := { row := wireReadsUptoRow, standIns := [], harness := (true, "424b31b3a00ae6dd4b631c783845144b50c2dd2b60ae7d21362c7641859dd9f9"), looks := false }, kinds := [], alts := [], laidByText := true, laidKinds := [.data], laidTests := true, laidLooks := .later }
def WireReadsUptoCardSaid : Prop := Claim7.holds Tryd.pinned (.plain (OpenSpec.upto wireReadsSpec)) wireReadsUptoCard

/-- THE SECOND FORM's CARD OF 'relucertlaw08.WireRoundTrip'. -/
def wireRoundTripUptoCard : Claim7 := { stood := { row := wireRoundTripUptoRow, standIns := [], harness := (true, "424b31b3a00ae6dd4b631c783845144b50c2dd2b60ae7d21362c7641859dd9f9"), looks := false }, kinds := [], alts := [], laidByText := true, laidKinds := [.data], laidTests := true, laidLooks := .later }
def WireRoundTripUptoCardSaid : Prop := Claim7.holds Tryd.pinned (.plain (OpenSpec.upto wireRoundTripSpec)) wireRoundTripUptoCard

/-- THE SECOND FORM's CARD OF 'relucertlaw08.WireUnique'. -/
def wireUniqueUptoCard : Claim7 := { stood := { row := wireUniqueUptoRow, standIns := [], harness := (true, "424b31b3a00ae6dd4b631c783845144b50c2dd2b60ae7d21362c7641859dd9f9"), looks := false }, kinds := [], alts := [], laidByText := true, laidKinds := [.data], laidTests := true, laidLooks := .later }
def WireUniqueUptoCardSaid : Prop := Claim7.holds Tryd.pinned (.plain (OpenSpec.upto wireUniqueSpec)) wireUniqueUptoCard

/-- THE SECOND FORM's CARD OF 'relucertlaw08.WireNil'. -/
def wireNilUptoCard : Claim7 := { stood := { row := wireNilUptoRow, standIns := [], harness := (true, "424b31b3a00ae6dd4b631c783845144b50c2dd2b60ae7d21362c7641859dd9f9"), looks := false }, kinds := [], alts := [], laidByText := true, laidKinds := [.data], laidTests := true, laidLooks := .later }
def WireNilUptoCardSaid : Prop := Claim7.holds Tryd.pinned (.plain (OpenSpec.upto wireNilSpec)) wireNilUptoCard
end Rows
end Go.Proofs.YtcdkehghdhcokaaDoor
