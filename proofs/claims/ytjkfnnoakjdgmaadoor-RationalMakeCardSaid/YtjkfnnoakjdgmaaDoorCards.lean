/-
  DERIVED. GIVEN WITH THE SEED: THE CARDS: each row of YtjkfnnoakjdgmaaDoorRows.lean that lists a variable, with what it lists TIED to the program's text (the seventh form; the later family's looks); each row that meets fmt, with fmt's text TOLD by the authors' own Lean function (tested against real Go, not proved from fmt's source: count such statements apart). THE CARD IS WHAT COUNTS. Prove the row's statement (the work); the ties are given (YtjkfnnoakjdgmaaDoorTie.lean); close each card by the builder's one call (the guide's Derived/Test/ToyasCard.lean, 'card_holds'). Laid BY PROGRAM, IN A SANDBOX (cutbox-door.mjs). By AI agents, Wed Nov 11 2026. No macro, syntax, notation, axiom, sorry.
-/
import Derived.Test.YtjkfnnoakjdgmaaDoorRows
import GoSem.ClaimSeven
namespace Go.Proofs.YtjkfnnoakjdgmaaDoor
namespace Rows

/-- THE TIED CARD OF 'relucertlaw03.RationalCanon'. -/
def rationalCanonCard : Claim7 := { stood := { row := rationalCanonRow, standIns := [], harness := (true, "c260c6ed286a41b9c05b9aaba228c96e8f7ae04bafadff294279947892a59eb2"), looks := false }, kinds := [], alts := [], laidByText := true, laidKinds := [.data], laidTests := true, laidLooks := .later }
def RationalCanonCardSaid : Prop := Claim7.holds Tryd.pinned (.plain (OpenSpec.ofChange rationalCanonSpec)) rationalCanonCard

/-- THE TIED CARD OF 'relucertlaw03.RationalMake'. -/
def rationalMakeCard : Claim7 := { stood := { row := rationalMakeRow, standIns := [], harness := (true, "c260c6ed286a41b9c05b9aaba228c96e8f7ae04bafadff294279947892a59eb2"), looks := false }, kinds := [], alts := [], laidByText := true, laidKinds := [.data], laidTests := true, laidLooks := .later }
def RationalMakeCardSaid : Prop := Claim7.holds Tryd.pinned (.plain (OpenSpec.ofChange rationalMakeSpec)) rationalMakeCard

/-- THE TIED CARD OF 'relucertlaw03.RationalAdd'. -/
def rationalAddCard : Claim7 := { stood := { row := rationalAddRow, standIns := [], harness := (true, "c260c6ed286a41b9c05b9aaba228c96e8f7ae04bafadff294279947892a59eb2"), looks := false }, kinds := [], alts := [], laidByText := true, laidKinds := [.data], laidTests := true, laidLooks := .later }
def RationalAddCardSaid : Prop := Claim7.holds Tryd.pinned (.plain (OpenSpec.ofChange rationalAddSpec)) rationalAddCard

/-- THE TIED CARD OF 'relucertlaw03.RationalMul'. -/
def rationalMulCard : Claim7 := { stood := { row := rationalMulRow, standIns := [], harness := (true, "c260c6ed286a41b9c05b9aaba228c96e8f7ae04bafadff294279947892a59eb2"), looks := false }, kinds := [], alts := [], laidByText := true, laidKinds := [.data], laidTests := true, laidLooks := .later }
def RationalMulCardSaid : Prop := Claim7.holds Tryd.pinned (.plain (OpenSpec.ofChange rationalMulSpec)) rationalMulCard

/-- THE TIED CARD OF 'relucertlaw03.RationalCompare'. -/
def rationalCompareCard : Claim7 := { stood := { row := rationalCompareRow, standIns := [], harness := (true, "c260c6ed286a41b9c05b9aaba228c96e8f7ae04bafadff294279947892a59eb2"), looks := false }, kinds := [], alts := [], laidByText := true, laidKinds := [.data], laidTests := true, laidLooks := .later }
def RationalCompareCardSaid : Prop := Claim7.holds Tryd.pinned (.plain (OpenSpec.ofChange rationalCompareSpec)) rationalCompareCard

/-- THE TIED CARD OF 'relucertlaw03.RationalFloor'. -/
def rationalFloorCard : Claim7 := { stood := { row := rationalFloorRow, standIns := [], harness := (true, "c260c6ed286a41b9c05b9aaba228c96e8f7ae04bafadff294279947892a59eb2"), looks := false }, kinds := [], alts := [], laidByText := true, laidKinds := [.data], laidTests := true, laidLooks := .later }
def RationalFloorCardSaid : Prop := Claim7.holds Tryd.pinned (.plain (OpenSpec.ofChange rationalFloorSpec)) rationalFloorCard

/-- THE TIED CARD OF 'relucertlaw03.RationalSimpler'. -/
def rationalSimplerCard : Claim7 := { stood := { row := rationalSimplerRow, standIns := [], harness := (true, "c260c6ed286a41b9c05b9aaba228c96e8f7ae04bafadff294279947892a59eb2"), looks := false }, kinds := [], alts := [], laidByText := true, laidKinds := [.data], laidTests := true, laidLooks := .later }
def RationalSimplerCardSaid : Prop := Claim7.holds Tryd.pinned (.plain (OpenSpec.ofChange rationalSimplerSpec)) rationalSimplerCard

/-- THE TIED CARD OF 'relucertlaw03.RationalNeg'. -/
def rationalNegCard : Claim7 := { stood := { row := rationalNegRow, standIns := [], harness := (true, "c260c6ed286a41b9c05b9aaba228c96e8f7ae04bafadff294279947892a59eb2"), looks := false }, kinds := [], alts := [], laidByText := true, laidKinds := [.data], laidTests := true, laidLooks := .later }
def RationalNegCardSaid : Prop := Claim7.holds Tryd.pinned (.plain (OpenSpec.ofChange rationalNegSpec)) rationalNegCard

/-- THE SECOND FORM's CARD OF 'relucertlaw03.RationalCanon'. -/
def rationalCanonUptoCard : Claim7 := { stood := { row := rationalCanonUptoRow, standIns := [], harness := (true, "c260c6ed286a41b9c05b9aaba228c96e8f7ae04bafadff294279947892a59eb2"), looks := false }, kinds := [], alts := [], laidByText := true, laidKinds := [.data], laidTests := true, laidLooks := .later }
def RationalCanonUptoCardSaid : Prop := Claim7.holds Tryd.pinned (.plain (OpenSpec.upto rationalCanonSpec)) rationalCanonUptoCard

/-- THE SECOND FORM's CARD OF 'relucertlaw03.RationalMake'. -/
def rationalMakeUptoCard : Claim7 := { stood := { row := rationalMakeUptoRow, standIns := [], harness := (true, "c260c6ed286a41b9c05b9aaba228c96e8f7ae04bafadff294279947892a59eb2"), looks := false }, kinds := [], alts := [], laidByText := true, laidKinds := [.data], laidTests := true, laidLooks := .later }
def RationalMakeUptoCardSaid : Prop := Claim7.holds Tryd.pinned (.plain (OpenSpec.upto rationalMakeSpec)) rationalMakeUptoCard

/-- THE SECOND FORM's CARD OF 'relucertlaw03.RationalAdd'. -/
def rationalAddUptoCard : Claim7 := { stood := { row := rationalAddUptoRow, standIns := [], harness := (true, "c260c6ed286a41b9c05b9aaba228c96e8f7ae04bafadff294279947892a59eb2"), looks := false }, kinds := [], alts := [], laidByText := true, laidKinds := [.data], laidTests := true, laidLooks := .later }
def RationalAddUptoCardSaid : Prop := Claim7.holds Tryd.pinned (.plain (OpenSpec.upto rationalAddSpec)) rationalAddUptoCard

/-- THE SECOND FORM's CARD OF 'relucertlaw03.RationalMul'. -/
def rationalMulUptoCard : Claim7 := { stood := { row := rationalMulUptoRow, standIns := [], harness := (true, "c260c6ed286a41b9c05b9aaba228c96e8f7ae04bafadff294279947892a59eb2"), looks := false }, kinds := [], alts := [], laidByText := true, laidKinds := [.data], laidTests := true, laidLooks := .later }
def RationalMulUptoCardSaid : Prop := Claim7.holds Tryd.pinned (.plain (OpenSpec.upto rationalMulSpec)) rationalMulUptoCard

/-- THE SECOND FORM's CARD OF 'relucertlaw03.RationalCompare'. -/
def rationalCompareUptoCard : Claim7 := { stood := { row := rationalCompareUptoRow, standIns := [], harness := (true, "c260c6ed286a41b9c05b9aaba228c96e8f7ae04bafadff294279947892a59eb2"), looks := false }, kinds := [], alts := [], laidByText := true, laidKinds := [.data], laidTests := true, laidLooks := .later }
def RationalCompareUptoCardSaid : Prop := Claim7.holds Tryd.pinned (.plain (OpenSpec.upto rationalCompareSpec)) rationalCompareUptoCard

/-- THE SECOND FORM's CARD OF 'relucertlaw03.RationalFloor'. -/
def rationalFloorUptoCard : Claim7 := { stood := { row := rationalFloorUptoRow, standIns := [], harness := (true, "c260c6ed286a41b9c05b9aaba228c96e8f7ae04bafadff294279947892a59eb2"), looks := false }, kinds := [], alts := [], laidByText := true, laidKinds := [.data], laidTests := true, laidLooks := .later }
def RationalFloorUptoCardSaid : Prop := Claim7.holds Tryd.pinned (.plain (OpenSpec.upto rationalFloorSpec)) rationalFloorUptoCard

/-- THE SECOND FORM's CARD OF 'relucertlaw03.RationalSimpler'. -/
def rationalSimplerUptoCard : Claim7 := { stood := { row := rationalSimplerUptoRow, standIns := [], harness := (true, "c260c6ed286a41b9c05b9aaba228c96e8f7ae04bafadff294279947892a59eb2"), looks := false }, kinds := [], alts := [], laidByText := true, laidKinds := [.data], laidTests := true, laidLooks := .later }
def RationalSimplerUptoCardSaid : Prop := Claim7.holds Tryd.pinned (.plain (OpenSpec.upto rationalSimplerSpec)) rationalSimplerUptoCard

/-- THE SECOND FORM's CARD OF 'relucertlaw03.RationalNeg'. -/
def rationalNegUptoCard : Claim7 := { stood := { row := rationalNegUptoRow, standIns := [], harness := (true, "c260c6ed286a41b9c05b9aaba228c96e8f7ae04bafadff294279947892a59eb2"), looks := false }, kinds := [], alts := [], laidByText := true, laidKinds := [.data], laidTests := true, laidLooks := .later }
def RationalNegUptoCardSaid : Prop := Claim7.holds Tryd.pinned (.plain (OpenSpec.upto rationalNegSpec)) rationalNegUptoCard
end Rows
end Go.Proofs.YtjkfnnoakjdgmaaDoor
