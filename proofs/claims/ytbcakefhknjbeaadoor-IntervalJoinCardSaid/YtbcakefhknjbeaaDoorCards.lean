/-
  DERIVED. GIVEN WITH THE SEED: THE CARDS: each row of YtbcakefhknjbeaaDoorRows.lean that lists a variable, with what it lists TIED to the program's text (the seventh form; the later family's looks); each row that meets fmt, with fmt's text TOLD by the authors' own Lean function (tested against real Go, not proved from fmt's source: count such statements apart). THE CARD IS WHAT COUNTS. Prove the row's statement (the work); the ties are given (YtbcakefhknjbeaaDoorTie.lean); close each card by the builder's one call (the guide's Derived/Test/ToyasCard.lean, 'card_holds'). Laid BY PROGRAM, IN A SANDBOX (cutbox-door.mjs). By AI agents, Wed Nov 11 2026. No macro, syntax, notation, axiom, sorry.
-/
import Derived.Test.YtbcakefhknjbeaaDoorRows
import GoSem.ClaimSeven
namespace Go.Proofs.YtbcakefhknjbeaaDoor
namespace Rows

/-- THE TIED CARD OF 'relucertlaw01.NaturalGcd'. -/
def naturalGcdCard : Claim7 := { stood := { row := naturalGcdRow, standIns := [], harness := (true, "2f71b802d2edf4f21b4d6a55cfb05de576d52bb0c6a67b330387bbf602f59e7c"), looks := false }, kinds := [], alts := [], laidByText := true, laidKinds := [.data], laidTests := true, laidLooks := .later }
def NaturalGcdCardSaid : Prop := Claim7.holds Tryd.pinned (.plain (OpenSpec.ofChange naturalGcdSpec)) naturalGcdCard

/-- THE TIED CARD OF 'relucertlaw06.IntervalMake'. -/
def intervalMakeCard : Claim7 := { stood := { row := intervalMakeRow, standIns := [], harness := (true, "2f71b802d2edf4f21b4d6a55cfb05de576d52bb0c6a67b330387bbf602f59e7c"), looks := false }, kinds := [], alts := [], laidByText := true, laidKinds := [.data], laidTests := true, laidLooks := .later }
def IntervalMakeCardSaid : Prop := Claim7.holds Tryd.pinned (.plain (OpenSpec.ofChange intervalMakeSpec)) intervalMakeCard

/-- THE TIED CARD OF 'relucertlaw06.IntervalMul'. -/
def intervalMulCard : Claim7 := { stood := { row := intervalMulRow, standIns := [], harness := (true, "2f71b802d2edf4f21b4d6a55cfb05de576d52bb0c6a67b330387bbf602f59e7c"), looks := false }, kinds := [], alts := [], laidByText := true, laidKinds := [.data], laidTests := true, laidLooks := .later }
def IntervalMulCardSaid : Prop := Claim7.holds Tryd.pinned (.plain (OpenSpec.ofChange intervalMulSpec)) intervalMulCard

/-- THE TIED CARD OF 'relucertlaw06.IntervalMulTight'. -/
def intervalMulTightCard : Claim7 := { stood := { row := intervalMulTightRow, standIns := [], harness := (true, "2f71b802d2edf4f21b4d6a55cfb05de576d52bb0c6a67b330387bbf602f59e7c"), looks := false }, kinds := [], alts := [], laidByText := true, laidKinds := [.data], laidTests := true, laidLooks := .later }
def IntervalMulTightCardSaid : Prop := Claim7.holds Tryd.pinned (.plain (OpenSpec.ofChange intervalMulTightSpec)) intervalMulTightCard

/-- THE TIED CARD OF 'relucertlaw06.IntervalJoin'. -/
def intervalJoinCard : Claim7 := { stood := { row := intervalJoinRow, standIns := [], harness := (true, "2f71b802d2edf4f21b4d6a55cfb05de576d52bb0c6a67b330387bbf602f59e7c"), looks := false }, kinds := [], alts := [], laidByText := true, laidKinds := [.data], laidTests := true, laidLooks := .later }
def IntervalJoinCardSaid : Prop := Claim7.holds Tryd.pinned (.plain (OpenSpec.ofChange intervalJoinSpec)) intervalJoinCard

/-- THE TIED CARD OF 'relucertlaw06.IntervalInclusion'. -/
def intervalInclusionCard : Claim7 := { stood := { row := intervalInclusionRow, standIns := [], harness := (true, "2f71b802d2edf4f21b4d6a55cfb05de576d52bb0c6a67b330387bbf602f59e7c"), looks := false }, kinds := [], alts := [], laidByText := true, laidKinds := [.data], laidTests := true, laidLooks := .later }
def IntervalInclusionCardSaid : Prop := Claim7.holds Tryd.pinned (.plain (OpenSpec.ofChange intervalInclusionSpec)) intervalInclusionCard

/-- THE SECOND FORM's CARD OF 'relucertlaw01.NaturalGcd'. -/
def naturalGcdUptoCard : Claim7 := { stood := { row := naturalGcdUptoRow, standIns := [], harness := (true, "2f71b802d2edf4f21b4d6a55cfb05de576d52bb0c6a67b330387bbf602f59e7c"), looks := false }, kinds := [], alts := [], laidByText := true, laidKinds := [.data], laidTests := true, laidLooks := .later }
def NaturalGcdUptoCardSaid : Prop := Claim7.holds Tryd.pinned (.plain (OpenSpec.upto naturalGcdSpec)) naturalGcdUptoCard

/-- THE SECOND FORM's CARD OF 'relucertlaw06.IntervalMake'. -/
def intervalMakeUptoCard : Claim7 := { stood := { row := intervalMakeUptoRow, standIns := [], harness := (true, "2f71b802d2edf4f21b4d6a55cfb05de576d52bb0c6a67b330387bbf602f59e7c"), looks := false }, kinds := [], alts := [], laidByText := true, laidKinds := [.data], laidTests := true, laidLooks := .later }
def IntervalMakeUptoCardSaid : Prop := Claim7.holds Tryd.pinned (.plain (OpenSpec.upto intervalMakeSpec)) intervalMakeUptoCard

/-- THE SECOND FORM's CARD OF 'relucertlaw06.IntervalMul'. -/
def intervalMulUptoCard : Claim7 := { stood := { row := intervalMulUptoRow, standIns := [], harness := (true, "2f71b802d2edf4f21b4d6a55cfb05de576d52bb0c6a67b330387bbf602f59e7c"), looks := false }, kinds := [], alts := [], laidByText := true, laidKinds := [.data], laidTests := true, laidLooks := .later }
def IntervalMulUptoCardSaid : Prop := Claim7.holds Tryd.pinned (.plain (OpenSpec.upto intervalMulSpec)) intervalMulUptoCard

/-- THE SECOND FORM's CARD OF 'relucertlaw06.IntervalMulTight'. -/
def intervalMulTightUptoCard : Claim7 := { stood := { row := intervalMulTightUptoRow, standIns := [], harness := (true, "2f71b802d2edf4f21b4d6a55cfb05de576d52bb0c6a67b330387bbf602f59e7c"), looks := false }, kinds := [], alts := [], laidByText := true, laidKinds := [.data], laidTests := true, laidLooks := .later }
def IntervalMulTightUptoCardSaid : Prop := Claim7.holds Tryd.pinned (.plain (OpenSpec.upto intervalMulTightSpec)) intervalMulTightUptoCard

/-- THE SECOND FORM's CARD OF 'relucertlaw06.IntervalJoin'. -/
def intervalJoinUptoCard : Claim7 := { stood := { row := intervalJoinUptoRow, standIns := [], harness := (true, "2f71b802d2edf4f21b4d6a55cfb05de576d52bb0c6a67b330387bbf602f59e7c"), looks := false }, kinds := [], alts := [], laidByText := true, laidKinds := [.data], laidTests := true, laidLooks := .later }
def IntervalJoinUptoCardSaid : Prop := Claim7.holds Tryd.pinned (.plain (OpenSpec.upto intervalJoinSpec)) intervalJoinUptoCard

/-- THE SECOND FORM's CARD OF 'relucertlaw06.IntervalInclusion'. -/
def intervalInclusionUptoCard : Claim7 := { stood := { row := intervalInclusionUptoRow, standIns := [], harness := (true, "2f71b802d2edf4f21b4d6a55cfb05de576d52bb0c6a67b330387bbf602f59e7c"), looks := false }, kinds := [], alts := [], laidByText := true, laidKinds := [.data], laidTests := true, laidLooks := .later }
def IntervalInclusionUptoCardSaid : Prop := Claim7.holds Tryd.pinned (.plain (OpenSpec.upto intervalInclusionSpec)) intervalInclusionUptoCard
end Rows
end Go.Proofs.YtbcakefhknjbeaaDoor
