/-
  DERIVED. GIVEN WITH THE SEED: THE CARDS: each row of YtnalmjbgkedcoaaDoorRows.lean that lists a variable, with what it lists TIED to the program's text (the seventh form; the later family's looks); each row that meets fmt, with fmt's text TOLD by the authors' own Lean function (tested against real Go, not proved from fmt's source: count such statements apart). THE CARD IS WHAT COUNTS. Prove the row's statement (the work); the ties are given (YtnalmjbgkedcoaaDoorTie.lean); close each card by the builder's one call (the guide's Derived/Test/ToyasCard.lean, 'card_holds'). Laid BY PROGRAM, IN A SANDBOX (cutbox-door.mjs). By AI agents, Wed Nov 11 2026. No macro, syntax, notation, axiom, sorry.
-/
import Derived.Test.YtnalmjbgkedcoaaDoorRows
import GoSem.ClaimSeven
namespace Go.Proofs.YtnalmjbgkedcoaaDoor
namespace Rows

/-- THE TIED CARD OF 'relucertlaw51.FixedRoundIsNearest'. -/
def fixedRoundIsNearestCard : Claim7 := { stood := { row := fixedRoundIsNearestRow, standIns := [], harness := (true, "6e9f04adc58e06cb056ab5b237534a667df2d049f99055ad3bc485db5d4028ed"), looks := false }, kinds := [], alts := [], laidByText := true, laidKinds := [.data], laidTests := true, laidLooks := .later }
def FixedRoundIsNearestCardSaid : Prop := Claim7.holds Tryd.pinned (.plain (OpenSpec.ofChange fixedRoundIsNearestSpec)) fixedRoundIsNearestCard

/-- THE TIED CARD OF 'relucertlaw51.FixedOrder'. -/
def fixedOrderCard : Claim7 := { stood := { row := fixedOrderRow, standIns := [], harness := (true, "6e9f04adc58e06cb056ab5b237534a667df2d049f99055ad3bc485db5d4028ed"), looks := false }, kinds := [], alts := [], laidByText := true, laidKinds := [.data], laidTests := true, laidLooks := .later }
def FixedOrderCardSaid : Prop := Claim7.holds Tryd.pinned (.plain (OpenSpec.ofChange fixedOrderSpec)) fixedOrderCard

/-- THE TIED CARD OF 'relucertlaw51.FixedSaturate'. -/
def fixedSaturateCard : Claim7 := { stood := { row := fixedSaturateRow, standIns := [], harness := (true, "6e9f04adc58e06cb056ab5b237534a667df2d049f99055ad3bc485db5d4028ed"), looks := false }, kinds := [], alts := [], laidByText := true, laidKinds := [.data], laidTests := true, laidLooks := .later }
def FixedSaturateCardSaid : Prop := Claim7.holds Tryd.pinned (.plain (OpenSpec.ofChange fixedSaturateSpec)) fixedSaturateCard

/-- THE SECOND FORM's CARD OF 'relucertlaw51.FixedRoundIsNearest'. -/
def fixedRoundIsNearestUptoCard : Claim7 := { stood := { row := fixedRoundIsNearestUptoRow, standIns := [], harness := (true, "6e9f04adc58e06cb056ab5b237534a667df2d049f99055ad3bc485db5d4028ed"), looks := false }, kinds := [], alts := [], laidByText := true, laidKinds := [.data], laidTests := true, laidLooks := .later }
def FixedRoundIsNearestUptoCardSaid : Prop := Claim7.holds Tryd.pinned (.plain (OpenSpec.upto fixedRoundIsNearestSpec)) fixedRoundIsNearestUptoCard

/-- THE SECOND FORM's CARD OF 'relucertlaw51.FixedOrder'. -/
def fixedOrderUptoCard : Claim7 := { stood := { row := fixedOrderUptoRow, standIns := [], harness := (true, "6e9f04adc58e06cb056ab5b237534a667df2d049f99055ad3bc485db5d4028ed"), looks := false }, kinds := [], alts := [], laidByText := true, laidKinds := [.data], laidTests := true, laidLooks := .later }
def FixedOrderUptoCardSaid : Prop := Claim7.holds Tryd.pinned (.plain (OpenSpec.upto fixedOrderSpec)) fixedOrderUptoCard

/-- THE SECOND FORM's CARD OF 'relucertlaw51.FixedSaturate'. -/
def fixedSaturateUptoCard : Claim7 := { stood := { row := fixedSaturateUptoRow, standIns := [], harness := (true, "6e9f04adc58e06cb056ab5b237534a667df2d049f99055ad3bc485db5d4028ed"), looks := false }, kinds := [], alts := [], laidByText := true, laidKinds := [.data], laidTests := true, laidLooks := .later }
def FixedSaturateUptoCardSaid : Prop := Claim7.holds Tryd.pinned (.plain (OpenSpec.upto fixedSaturateSpec)) fixedSaturateUptoCard
end Rows
end Go.Proofs.YtnalmjbgkedcoaaDoor
