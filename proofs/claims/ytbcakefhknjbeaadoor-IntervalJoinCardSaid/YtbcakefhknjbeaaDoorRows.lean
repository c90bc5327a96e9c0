/-
  NARROWER THAN 'FOR EVERY INPUT', by the rows' own cells (each row's printed sentence says how): NaturalGcd: laid · IntervalMake: laid · IntervalMul: laid · IntervalMulTight: laid · IntervalJoin: laid · IntervalInclusion: laid.
  DERIVED. THE GIVEN ROWS OF THIS SEAT. 6 by the template 'for every input the law returns true; each argument reads behind the call as it read before'; 0 by the template 'total and deterministic' (their statements: YtbcakefhknjbeaaDoorTotals.lean).
  GIVEN WITH THE SEED: the statements are not yours to turn. If you find one false, say at which input.
  Laid BY PROGRAM, IN A SANDBOX (cutbox-rows.mjs): the forced cells as the released guide's own fill.sh prints them over the translation afdc1f3567817e4d… (all of the seat's roots in one cut). By AI agents, Wed Nov 11 2026. No macro, syntax, notation, axiom, sorry.
-/
import Derived.Test.YtbcakefhknjbeaaDoorChecked
import GoSem.Claim
import GoSem.ClaimJoined
import GoSem.ClaimMapViews
import Derived.JoinedTies
import Derived.KernelRfl
namespace Go.Proofs.YtbcakefhknjbeaaDoor
/- THE CELL 'sum', in the pinned program and in every row, IS THE sha256 OF THE DUMP (.gsa) THAT YtbcakefhknjbeaaDoorProg.lean LOADS. Nothing in Lean hashes anything: it is a label: what it is worth is what the hold of that sum in a sandbox is worth. -/
noncomputable def Tryd.pinned : Pinned := { name := "ytbcakefhknjbeaadoor", sum := "afdc1f3567817e4d00b050d81021c461d8fbf1a6f0b58d088ab7a29081f0268d", checked := Tryd.checked }
namespace Rows
def none {H : Type} : Left H := { results := [], args := [] }

/- WHAT THE LISTED PACKAGE-LEVEL VARIABLES READ AS WHEN THE CALL BEGINS. Each datum BY PROGRAM (the guide's laid-datum.mjs) off the statement by which the dump's own 'gosem.cut.vars' lays the variable. In a bare row this is a premise. The card (YtbcakefhknjbeaaDoorCards.lean) ties it to the program's text. -/
def laid_math_bits_deBruijn64tab {H : Type} : DataW H := .agg [.lit (.int .u8 0), .lit (.int .u8 1), .lit (.int .u8 56), .lit (.int .u8 2), .lit (.int .u8 57), .lit (.int .u8 49), .lit (.int .u8 28), .lit (.int .u8 3), .lit (.int .u8 61), .lit (.int .u8 58), .lit (.int .u8 42), .lit (.int .u8 50), .lit (.int .u8 38), .lit (.int .u8 29), .lit (.int .u8 17), .lit (.int .u8 4), .lit (.int .u8 62), .lit (.int .u8 47), .lit (.int .u8 59), .lit (.int .u8 36), .lit (.int .u8 45), .lit (.int .u8 43), .lit (.int .u8 51), .lit (.int .u8 22), .lit (.int .u8 53), .lit (.int .u8 39), .lit (.int .u8 33), .lit (.int .u8 30), .lit (.int .u8 24), .lit (.int .u8 18), .lit (.int .u8 12), .lit (.int .u8 5), .lit (.int .u8 63), .lit (.int .u8 55), .lit (.int .u8 48), .lit (.int .u8 27), .lit (.int .u8 60), .lit (.int .u8 41), .lit (.int .u8 37), .lit (.int .u8 16), .lit (.int .u8 46), .lit (.int .u8 35), .lit (.int .u8 44), .lit (.int .u8 21), .lit (.int .u8 52), .lit (.int .u8 32), .lit (.int .u8 23), .lit (.int .u8 11), .lit (.int .u8 54), .lit (.int .u8 26), .lit (.int .u8 40), .lit (.int .u8 15), .lit (.int .u8 34), .lit (.int .u8 20), .lit (.int .u8 31), .lit (.int .u8 10), .lit (.int .u8 25), .lit (.int .u8 14), .lit (.int .u8 19), .lit (.int .u8 9), .lit (.int .u8 13), .lit (.int .u8 8), .lit (.int .u8 7), .lit (.int .u8 6)]

/-- 'relucertlaw01.NaturalGcd': WHATEVER THE INPUT: true; the input reads as it did. -/
def naturalGcdSpec : ChangeSpec := { name := "naturalGcd", fn := fun _ => fun
  | [d1, d2, d3] => { results := [.lit (.bool true)], args := [d1, d2, d3] }
  | _ => none }
def naturalGcdRow : OpenClaim := { program := "ytbcakefhknjbeaadoor", sum := "afdc1f3567817e4d00b050d81021c461d8fbf1a6f0b58d088ab7a29081f0268d", func := "relucert/relucertlaw01.NaturalGcd", spec := "naturalGcd", named := ["math/bits.deBruijn64tab"], apart := false, laid := [("math/bits.deBruijn64tab", laid_math_bits_deBruijn64tab)] }
def NaturalGcdSaid : Prop := naturalGcdRow.holds Tryd.pinned (OpenSpec.ofChange naturalGcdSpec)

/-- ITS FALSE NEIGHBOUR: 'it returns false'. Refute it at one input. -/
def naturalGcdWrong : ChangeSpec := { name := "naturalGcd", fn := fun _ => fun
  | [d1, d2, d3] => { results := [.lit (.bool false)], args := [d1, d2, d3] }
  | _ => none }
def NaturalGcdWrongFalsely : Prop := naturalGcdRow.holds Tryd.pinned (OpenSpec.ofChange naturalGcdWrong)

/-- 'relucertlaw06.IntervalMake': WHATEVER THE INPUT: true; the input reads as it did. -/
def intervalMakeSpec : ChangeSpec := { name := "intervalMake", fn := fun _ => fun
  | [d1, d2, d3] => { results := [.lit (.bool true)], args := [d1, d2, d3] }
  | _ => none }
def intervalMakeRow : OpenClaim := { program := "ytbcakefhknjbeaadoor", sum := "afdc1f3567817e4d00b050d81021c461d8fbf1a6f0b58d088ab7a29081f0268d", func := "relucert/relucertlaw06.IntervalMake", spec := "intervalMake", recurses := true, named := ["math/bits.deBruijn64tab"], apart := false, laid := [("math/bits.deBruijn64tab", laid_math_bits_deBruijn64tab)] }
def IntervalMakeSaid : Prop := intervalMakeRow.holds Tryd.pinned (OpenSpec.ofChange intervalMakeSpec)

/-- ITS FALSE NEIGHBOUR: 'it returns false'. Refute it at one input. -/
def intervalMakeWrong : ChangeSpec := { name := "intervalMake", fn := fun _ => fun
  | [d1, d2, d3] => { results := [.lit (.bool false)], args := [d1, d2, d3] }
  | _ => none }
def IntervalMakeWrongFalsely : Prop := intervalMakeRow.holds Tryd.pinned (OpenSpec.ofChange intervalMakeWrong)

/-- 'relucertlaw06.IntervalMul': WHATEVER THE INPUT: true; the input reads as it did. -/
def intervalMulSpec : ChangeSpec := { name := "intervalMul", fn := fun _ => fun
  | [d1, d2, d3] => { results := [.lit (.bool true)], args := [d1, d2, d3] }
  | _ => none }
def intervalMulRow : OpenClaim := { program := "ytbcakefhknjbeaadoor", sum := "afdc1f3567817e4d00b050d81021c461d8fbf1a6f0b58d088ab7a29081f0268d", func := "relucert/relucertlaw06.IntervalMul", spec := "intervalMul", recurses := true, named := ["math/bits.deBruijn64tab"], apart := false, laid := [("math/bits.deBruijn64tab", laid_math_bits_deBruijn64tab)] }
def IntervalMulSaid : Prop := intervalMulRow.holds Tryd.pinned (OpenSpec.ofChange intervalMulSpec)

/-- ITS FALSE NEIGHBOUR: 'it returns false'. Refute it at one input. -/
def intervalMulWrong : ChangeSpec := { name := "intervalMul", fn := fun _ => fun
  | [d1, d2, d3] => { results := [.lit (.bool false)], args := [d1, d2, d3] }
  | _ => none }
def IntervalMulWrongFalsely : Prop := intervalMulRow.holds Tryd.pinned (OpenSpec.ofChange intervalMulWrong)

/-- 'relucertlaw06.IntervalMulTight': WHATEVER THE INPUT: true; the input reads as it did. -/
def intervalMulTightSpec : ChangeSpec := { name := "intervalMulTight", fn := fun _ => fun
  | [d1, d2] => { results := [.lit (.bool true)], args := [d1, d2] }
  | _ => none }
def intervalMulTightRow : OpenClaim := { program := "ytbcakefhknjbeaadoor", sum := "afdc1f3567817e4d00b050d81021c461d8fbf1a6f0b58d088ab7a29081f0268d", func := "relucert/relucertlaw06.IntervalMulTight", spec := "intervalMulTight", recurses := true, named := ["math/bits.deBruijn64tab"], apart := false, laid := [("math/bits.deBruijn64tab", laid_math_bits_deBruijn64tab)] }
def IntervalMulTightSaid : Prop := intervalMulTightRow.holds Tryd.pinned (OpenSpec.ofChange intervalMulTightSpec)

/-- ITS FALSE NEIGHBOUR: 'it returns false'. Refute it at one input. -/
def intervalMulTightWrong : ChangeSpec := { name := "intervalMulTight", fn := fun _ => fun
  | [d1, d2] => { results := [.lit (.bool false)], args := [d1, d2] }
  | _ => none }
def IntervalMulTightWrongFalsely : Prop := intervalMulTightRow.holds Tryd.pinned (OpenSpec.ofChange intervalMulTightWrong)

/-- 'relucertlaw06.IntervalJoin': WHATEVER THE INPUT: true; the input reads as it did. -/
def intervalJoinSpec : ChangeSpec := { name := "intervalJoin", fn := fun _ => fun
  | [d1, d2, d3] => { results := [.lit (.bool true)], args := [d1, d2, d3] }
  | _ => none }
def intervalJoinRow : OpenClaim := { program := "ytbcakefhknjbeaadoor", sum := "afdc1f3567817e4d00b050d81021c461d8fbf1a6f0b58d088ab7a29081f0268d", func := "relucert/relucertlaw06.IntervalJoin", spec := "intervalJoin", recurses := true, named := ["math/bits.deBruijn64tab"], apart := false, laid := [("math/bits.deBruijn64tab", laid_math_bits_deBruijn64tab)] }
def IntervalJoinSaid : Prop := intervalJoinRow.holds Tryd.pinned (OpenSpec.ofChange intervalJoinSpec)

/-- ITS FALSE NEIGHBOUR: 'it returns false'. Refute it at one input. -/
def intervalJoinWrong : ChangeSpec := { name := "intervalJoin", fn := fun _ => fun
  | [d1, d2, d3] => { results := [.lit (.bool false)], args := [d1, d2, d3] }
  | _ => none }
def IntervalJoinWrongFalsely : Prop := intervalJoinRow.holds Tryd.pinned (OpenSpec.ofChange intervalJoinWrong)

/-- 'relucertlaw06.IntervalInclusion': WHATEVER THE INPUT: true; the input reads as it did. -/
def intervalInclusionSpec : ChangeSpec := { name := "intervalInclusion", fn := fun _ => fun
  | [d1, d2, d3] => { results := [.lit (.bool true)], args := [d1, d2, d3] }
  | _ => none }
def intervalInclusionRow : OpenClaim := { program := "ytbcakefhknjbeaadoor", sum := "afdc1f3567817e4d00b050d81021c461d8fbf1a6f0b58d088ab7a29081f0268d", func := "relucert/relucertlaw06.IntervalInclusion", spec := "intervalInclusion", inPlace := ["math/bits.Add64"], recurses := true, named := ["math/bits.deBruijn64tab"], apart := false, laid := [("math/bits.deBruijn64tab", laid_math_bits_deBruijn64tab)] }
def IntervalInclusionSaid : Prop := intervalInclusionRow.holds Tryd.pinned (OpenSpec.ofChange intervalInclusionSpec)

/-- ITS FALSE NEIGHBOUR: 'it returns false'. Refute it at one input. -/
def intervalInclusionWrong : ChangeSpec := { name := "intervalInclusion", fn := fun _ => fun
  | [d1, d2, d3] => { results := [.lit (.bool false)], args := [d1, d2, d3] }
  | _ => none }
def IntervalInclusionWrongFalsely : Prop := intervalInclusionRow.holds Tryd.pinned (OpenSpec.ofChange intervalInclusionWrong)

/- THE SECOND FORM. 'bulk': how many values and letters a reading holds, each counted each time it is reached (what is shared counts as often as it is met; a slice's spare places count too). A statement '..UptoSaid' is the law's where the arguments, and the package variables that the reading takes, are together of bulk at most 1048576: NARROWER than '..Said'. Prove '..Said' where nothing that the law and all that it calls make is longer than what came in: it says more and counts as full. Else prove '..UptoSaid'. A law counts once. -/
mutual
def uptoBulk {H : Type} : DataW H → Nat
  | .lit (.string bytes) => bytes.length + 1
  | .lit _ => 1
  | .nil => 1
  | .ptr d => uptoBulk d + 1
  | .slice elems spare => uptoBulkAll elems + uptoBulkAll spare + 1
  | .agg parts => uptoBulkAll parts + 1
  | .iface _ d => uptoBulk d + 1
  | .map entries => uptoBulkEntries entries + 1
  | .held _ => 1
def uptoBulkAll {H : Type} : List (DataW H) → Nat
  | [] => 0
  | d :: r => uptoBulk d + uptoBulkAll r
def uptoBulkEntries {H : Type} : List (Lit × DataW H) → Nat
  | [] => 0
  | x :: r => uptoBulkEntry x + uptoBulkEntries r
def uptoBulkEntry {H : Type} : Lit × DataW H → Nat
  | (.string bytes, d) => bytes.length + uptoBulk d + 1
  | (_, d) => uptoBulk d + 1
 end
def uptoSmall : (H : Type) → List (DataW H) → Bool := fun _ ds => decide (uptoBulkAll ds ≤ 1048576)
def OpenSpec.upto (s : _root_.Go.ChangeSpec) : _root_.Go.OpenSpec := { _root_.Go.OpenSpec.ofChange s with cond := some uptoSmall }

/-- 'relucertlaw01.NaturalGcd', WHERE WHAT IT READS IS OF BULK AT MOST 1048576: true; the input reads as it did. -/
def naturalGcdUptoRow : OpenClaim := { program := "ytbcakefhknjbeaadoor", sum := "afdc1f3567817e4d00b050d81021c461d8fbf1a6f0b58d088ab7a29081f0268d", func := "relucert/relucertlaw01.NaturalGcd", spec := "naturalGcd", named := ["math/bits.deBruijn64tab"], apart := false, laid := [("math/bits.deBruijn64tab", laid_math_bits_deBruijn64tab)], narrowed := true }
def NaturalGcdUptoSaid : Prop := naturalGcdUptoRow.holds Tryd.pinned (OpenSpec.upto naturalGcdSpec)

/-- 'relucertlaw06.IntervalMake', WHERE WHAT IT READS IS OF BULK AT MOST 1048576: true; the input reads as it did. -/
def intervalMakeUptoRow : OpenClaim := { program := "ytbcakefhknjbeaadoor", sum := "afdc1f3567817e4d00b050d81021c461d8fbf1a6f0b58d088ab7a29081f0268d", func := "relucert/relucertlaw06.IntervalMake", spec := "intervalMake", recurses := true, named := ["math/bits.deBruijn64tab"], apart := false, laid := [("math/bits.deBruijn64tab", laid_math_bits_deBruijn64tab)], narrowed := true }
def IntervalMakeUptoSaid : Prop := intervalMakeUptoRow.holds Tryd.pinned (OpenSpec.upto intervalMakeSpec)

/-- 'relucertlaw06.IntervalMul', WHERE WHAT IT READS IS OF BULK AT MOST 1048576: true; the input reads as it did. -/
def intervalMulUptoRow : OpenClaim := { program := "ytbcakefhknjbeaadoor", sum := "afdc1f3567817e4d00b050d81021c461d8fbf1a6f0b58d088ab7a29081f0268d", func := "relucert/relucertlaw06.IntervalMul", spec := "intervalMul", recurses := true, named := ["math/bits.deBruijn64tab"], apart := false, laid := [("math/bits.deBruijn64tab", laid_math_bits_deBruijn64tab)], narrowed := true }
def IntervalMulUptoSaid : Prop := intervalMulUptoRow.holds Tryd.pinned (OpenSpec.upto intervalMulSpec)

/-- 'relucertlaw06.IntervalMulTight', WHERE WHAT IT READS IS OF BULK AT MOST 1048576: true; the input reads as it did. -/
def intervalMulTightUptoRow : OpenClaim := { program := "ytbcakefhknjbeaadoor", sum := "afdc1f3567817e4d00b050d81021c461d8fbf1a6f0b58d088ab7a29081f0268d", func := "relucert/relucertlaw06.IntervalMulTight", spec := "intervalMulTight", recurses := true, named := ["math/bits.deBruijn64tab"], apart := false, laid := [("math/bits.deBruijn64tab", laid_math_bits_deBruijn64tab)], narrowed := true }
def IntervalMulTightUptoSaid : Prop := intervalMulTightUptoRow.holds Tryd.pinned (OpenSpec.upto intervalMulTightSpec)

/-- 'relucertlaw06.IntervalJoin', WHERE WHAT IT READS IS OF BULK AT MOST 1048576: true; the input reads as it did. -/
def intervalJoinUptoRow : OpenClaim := { program := "ytbcakefhknjbeaadoor", sum := "afdc1f3567817e4d00b050d81021c461d8fbf1a6f0b58d088ab7a29081f0268d", func := "relucert/relucertlaw06.IntervalJoin", spec := "intervalJoin", recurses := true, named := ["math/bits.deBruijn64tab"], apart := false, laid := [("math/bits.deBruijn64tab", laid_math_bits_deBruijn64tab)], narrowed := true }
def IntervalJoinUptoSaid : Prop := intervalJoinUptoRow.holds Tryd.pinned (OpenSpec.upto intervalJoinSpec)

/-- 'relucertlaw06.IntervalInclusion', WHERE WHAT IT READS IS OF BULK AT MOST 1048576: true; the input reads as it did. -/
def intervalInclusionUptoRow : OpenClaim := { program := "ytbcakefhknjbeaadoor", sum := "afdc1f3567817e4d00b050d81021c461d8fbf1a6f0b58d088ab7a29081f0268d", func := "relucert/relucertlaw06.IntervalInclusion", spec := "intervalInclusion", inPlace := ["math/bits.Add64"], recurses := true, named := ["math/bits.deBruijn64tab"], apart := false, laid := [("math/bits.deBruijn64tab", laid_math_bits_deBruijn64tab)], narrowed := true }
def IntervalInclusionUptoSaid : Prop := intervalInclusionUptoRow.holds Tryd.pinned (OpenSpec.upto intervalInclusionSpec)

end Rows
end Go.Proofs.YtbcakefhknjbeaaDoor
