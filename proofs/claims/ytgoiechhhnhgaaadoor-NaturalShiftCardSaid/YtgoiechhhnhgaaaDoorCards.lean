/-
  DERIVED. GIVEN WITH THE SEED: THE CARDS: each row of YtgoiechhhnhgaaaDoorRows.lean that lists a variable, with what it lists TIED to the program's text (the seventh form; the later family's looks); each row that meets fmt, with fmt's text TOLD by the authors' own Lean function (tested against real Go, not proved from fmt's source: count such statements apart). THE CARD IS WHAT COUNTS. Prove the row's statement (the work); the ties are given (YtgoiechhhnhgaaaDoorTie.lean); close each card by the builder's one call (the guide's Derived/Test/ToyasCard.lean, 'card_holds'). Laid BY PROGRAM, IN A SANDBOX (cutbox-door.mjs). By AI agents, Wed Nov 11 2026. No macro, syntax, notation, axiom, sorry.
-/
import Derived.Test.YtgoiechhhnhgaaaDoorRows
import GoSem.ClaimSeven
namespace Go.Proofs.YtgoiechhhnhgaaaDoor
namespace Rows

/-- THE TIED CARD OF 'relucertlaw01.NaturalMake'. -/
def naturalMakeCard : Claim7 := { stood := { row := naturalMakeRow, standIns := [], harness := (true, "53d0e1507de22fced2533d54543c388641d08d02e6fe637b676d02e0063be6f9"), looks := false }, kinds := [], alts := [], laidByText := true, laidKinds := [.data], laidTests := true, laidLooks := .later }
def NaturalMakeCardSaid : Prop := Claim7.holds Tryd.pinned (.plain (OpenSpec.ofChange naturalMakeSpec)) naturalMakeCard

/-- THE TIED CARD OF 'relucertlaw01.NaturalCompare'. -/
def naturalCompareCard : Claim7 := { stood := { row := naturalCompareRow, standIns := [], harness := (true, "53d0e1507de22fced2533d54543c388641d08d02e6fe637b676d02e0063be6f9"), looks := false }, kinds := [], alts := [], laidByText := true, laidKinds := [.data], laidTests := true, laidLooks := .later }
def NaturalCompareCardSaid : Prop := Claim7.holds Tryd.pinned (.plain (OpenSpec.ofChange naturalCompareSpec)) naturalCompareCard

/-- THE TIED CARD OF 'relucertlaw01.NaturalAdd'. -/
def naturalAddCard : Claim7 := { stood := { row := naturalAddRow, standIns := [], harness := (true, "53d0e1507de22fced2533d54543c388641d08d02e6fe637b676d02e0063be6f9"), looks := false }, kinds := [], alts := [], laidByText := true, laidKinds := [.data], laidTests := true, laidLooks := .later }
def NaturalAddCardSaid : Prop := Claim7.holds Tryd.pinned (.plain (OpenSpec.ofChange naturalAddSpec)) naturalAddCard

/-- THE TIED CARD OF 'relucertlaw01.NaturalSub'. -/
def naturalSubCard : Claim7 := { stood := { row := naturalSubRow, standIns := [], harness := (true, "53d0e1507de22fced2533d54543c388641d08d02e6fe637b676d02e0063be6f9"), looks := false }, kinds := [], alts := [], laidByText := true, laidKinds := [.data], laidTests := true, laidLooks := .later }
def NaturalSubCardSaid : Prop := Claim7.holds Tryd.pinned (.plain (OpenSpec.ofChange naturalSubSpec)) naturalSubCard

/-- THE TIED CARD OF 'relucertlaw01.NaturalMul'. -/
def naturalMulCard : Claim7 := { stood := { row := naturalMulRow, standIns := [], harness := (true, "53d0e1507de22fced2533d54543c388641d08d02e6fe637b676d02e0063be6f9"), looks := false }, kinds := [], alts := [], laidByText := true, laidKinds := [.data], laidTests := true, laidLooks := .later }
def NaturalMulCardSaid : Prop := Claim7.holds Tryd.pinned (.plain (OpenSpec.ofChange naturalMulSpec)) naturalMulCard

/-- THE TIED CARD OF 'relucertlaw01.NaturalShift'. -/
def naturalShiftCard : Claim7 := { stood := { row := naturalShiftRow, standIns := [], harness := (true, "53d0e1507de22fced2533d54543c388641d08d02e6fe637b676d02e0063be6f9"), looks := false }, kinds := [], alts := [], laidByText := true, laidKinds := [.data], laidTests := true, laidLooks := .later }
def NaturalShiftCardSaid : Prop := Claim7.holds Tryd.pinned (.plain (OpenSpec.ofChange naturalShiftSpec)) naturalShiftCard

/-- THE TIED CARD OF 'relucertlaw01.NaturalDivide'. -/
def naturalDivideCard : Claim7 := { stood := { row := naturalDivideRow, standIns := [], harness := (true, "53d0e1507de22fced2533d54543c388641d08d02e6fe637b676d02e0063be6f9"), looks := false }, kinds := [], alts := [], laidByText := true, laidKinds := [.data], laidTests := true, laidLooks := .later }
def NaturalDivideCardSaid : Prop := Claim7.holds Tryd.pinned (.plain (OpenSpec.ofChange naturalDivideSpec)) naturalDivideCard

/-- THE TIED CARD OF 'relucertlaw01.NaturalDivides'. -/
def naturalDividesCard : Claim7 := { stood := { row := naturalDividesRow, standIns := [], harness := (true, "53d0e1507de22fced2533d54543c388641d08d02e6fe637b676d02e0063be6f9"), looks := false }, kinds := [], alts := [], laidByText := true, laidKinds := [.data], laidTests := true, laidLooks := .later }
def NaturalDividesCardSaid : Prop := Claim7.holds Tryd.pinned (.plain (OpenSpec.ofChange naturalDividesSpec)) naturalDividesCard

/-- THE TIED CARD OF 'relucertlaw01.NaturalGcd'. -/
def naturalGcdCard : Claim7 := { stood := { row := naturalGcdRow, standIns := [], harness := (true, "53d0e1507de22fced2533d54543c388641d08d02e6fe637b676d02e0063be6f9"), looks := false }, kinds := [], alts := [], laidByText := true, laidKinds := [.data], laidTests := true, laidLooks := .later }
def NaturalGcdCardSaid : Prop := Claim7.holds Tryd.pinned (.plain (OpenSpec.ofChange naturalGcdSpec)) naturalGcdCard

/-- THE SECOND FORM's CARD OF 'relucertlaw01.NaturalMake'. -/
def naturalMakeUptoCard : Claim7 := { stood := { row := naturalMakeUptoRow, standIns := [], harness := (true, "53d0e1507de22fced2533d54543c388641d08d02e6fe637b676d02e0063be6f9"), looks := false }, kinds := [], alts := [], laidByText := true, laidKinds := [.data], laidTests := true, laidLooks := .later }
def NaturalMakeUptoCardSaid : Prop := Claim7.holds Tryd.pinned (.plain (OpenSpec.upto naturalMakeSpec)) naturalMakeUptoCard

/-- THE SECOND FORM's CARD OF 'relucertlaw01.NaturalCompare'. -/
def naturalCompareUptoCard : Claim7 := { stood := { row := naturalCompareUptoRow, standIns := [], harness := (true, "53d0e1507de22fced2533d54543c388641d08d02e6fe637b676d02e0063be6f9"), looks := false }, kinds := [], alts := [], laidByText := true, laidKinds := [.data], laidTests := true, laidLooks := .later }
def NaturalCompareUptoCardSaid : Prop := Claim7.holds Tryd.pinned (.plain (OpenSpec.upto naturalCompareSpec)) naturalCompareUptoCard

/-- THE SECOND FORM's CARD OF 'relucertlaw01.NaturalAdd'. -/
def naturalAddUptoCard : Claim7 := { stood := { row := naturalAddUptoRow, standIns := [], harness := (true, "53d0e1507de22fced2533d54543c388641d08d02e6fe637b676d02e0063be6f9"), looks := false }, kinds := [], alts := [], laidByText := true, laidKinds := [.data], laidTests := true, laidLooks := .later }
def NaturalAddUptoCardSaid : Prop := Claim7.holds Tryd.pinned (.plain (OpenSpec.upto naturalAddSpec)) naturalAddUptoCard

/-- THE SECOND FORM's CARD OF 'relucertlaw01.NaturalSub'. -/
def naturalSubUptoCard : Claim7 := { stood := { row := naturalSubUptoRow, standIns := [], harness := (true, "53d0e1507de22fced2533d54543c388641d08d02e6fe637b676d02e0063be6f9"), looks := false }, kinds := [], alts := [], laidByText := true, laidKinds := [.data], laidTests := true, laidLooks := .later }
def NaturalSubUptoCardSaid : Prop := Claim7.holds Tryd.pinned (.plain (OpenSpec.upto naturalSubSpec)) naturalSubUptoCard

/-- THE SECOND FORM's CARD OF 'relucertlaw01.NaturalMul'. -/
def naturalMulUptoCard : Claim7 := { stood := { row := naturalMulUptoRow, standIns := [], harness := (true, "53d0e1507de22fced2533d54543c388641d08d02e6fe637b676d02e0063be6f9"), looks := false }, kinds := [], alts := [], laidByText := true, laidKinds := [.data], laidTests := true, laidLooks := .later }
def NaturalMulUptoCardSaid : Prop := Claim7.holds Tryd.pinned (.plain (OpenSpec.upto naturalMulSpec)) naturalMulUptoCard

/-- THE SECOND FORM's CARD OF 'relucertlaw01.NaturalShift'. -/
def naturalShiftUptoCard : Claim7 := { stood := { row := naturalShiftUptoRow, standIns := [], harness := (true, "53d0e1507de22fced2533d54543c388641d08d02e6fe637b676d02e0063be6f9"), looks := false }, kinds := [], alts := [], laidByText := true, laidKinds := [.data], laidTests := true, laidLooks := .later }
def NaturalShiftUptoCardSaid : Prop := Claim7.holds Tryd.pinned (.plain (OpenSpec.upto naturalShiftSpec)) naturalShiftUptoCard

/-- THE SECOND FORM's CARD OF 'relucertlaw01.NaturalDivide'. -/
def naturalDivideUptoCard : Claim7 := { stood := { row := naturalDivideUptoRow, standIns := [], harness := (true, "53d0e1507de22fced2533d54543c388641d08d02e6fe637b676d02e0063be6f9"), looks := false }, kinds := [], alts := [], laidByText := true, laidKinds := [.data], laidTests := true, laidLooks := .later }
def NaturalDivideUptoCardSaid : Prop := Claim7.holds Tryd.pinned (.plain (OpenSpec.upto naturalDivideSpec)) naturalDivideUptoCard

/-- THE SECOND FORM's CARD OF 'relucertlaw01.NaturalDivides'. -/
def naturalDividesUptoCard : Claim7 := { stood := { row := naturalDividesUptoRow, standIns := [], harness := (true, "53d0e1507de22fced2533d54543c388641d08d02e6fe637b676d02e0063be6f9"), looks := false }, kinds := [], alts := [], laidByText := true, laidKinds := [.data], laidTests := true, laidLooks := .later }
def NaturalDividesUptoCardSaid : Prop := Claim7.holds Tryd.pinned (.plain (OpenSpec.upto naturalDividesSpec)) naturalDividesUptoCard

/-- THE SECOND FORM's CARD OF 'relucertlaw01.NaturalGcd'. -/
def naturalGcdUptoCard : Claim7 := { stood := { row := naturalGcdUptoRow, standIns := [], harness := (true, "53d0e1507de22fced2533d54543c388641d08d02e6fe637b676d02e0063be6f9"), looks := false }, kinds := [], alts := [], laidByText := true, laidKinds := [.data], laidTests := true, laidLooks := .later }
def NaturalGcdUptoCardSaid : Prop := Claim7.holds Tryd.pinned (.plain (OpenSpec.upto naturalGcdSpec)) naturalGcdUptoCard
end Rows
end Go.Proofs.YtgoiechhhnhgaaaDoor
