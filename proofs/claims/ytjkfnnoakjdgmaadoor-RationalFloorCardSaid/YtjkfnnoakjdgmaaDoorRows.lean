/-
  NARROWER THAN 'FOR EVERY INPUT', by the rows' own cells (each row's printed sentence says how): RationalCanon: laid · RationalMake: laid · RationalAdd: laid · RationalMul: laid · RationalCompare: laid · RationalFloor: laid · RationalSimpler: laid · RationalNeg: laid.
  DERIVED. THE GIVEN ROWS OF THIS SEAT. 8 by the template 'for every input the law returns true; each argument reads behind the call as it read before'; 0 by the template 'total and deterministic' (their statements: YtjkfnnoakjdgmaaDoorTotals.lean).
  GIVEN WITH THE SEED: the statements are not yours to turn. If you find one false, say at which input.
  Laid BY PROGRAM, IN A SANDBOX (cutbox-rows.mjs): the forced cells as the released guide's own fill.sh prints them over the translation 62b5243df153222a… (all of the seat's roots in one cut). By AI agents, Wed Nov 11 2026. No macro, syntax, notation, axiom, sorry.
-/
import Derived.Test.YtjkfnnoakjdgmaaDoorChecked
import GoSem.Claim
import GoSem.ClaimJoined
import GoSem.ClaimMapViews
import Derived.JoinedTies
import Derived.KernelRfl
namespace Go.Proofs.YtjkfnnoakjdgmaaDoor
/- THE CELL 'sum', in the pinned program and in every row, IS THE sha256 OF THE DUMP (.gsa) THAT YtjkfnnoakjdgmaaDoorProg.lean LOADS. Nothing in Lean hashes anything: it is a label: what it is worth is what the hold of that sum in a sandbox is worth. -/
noncomputable def Tryd.pinned : Pinned := { name := "ytjkfnnoakjdgmaadoor", sum := "62b5243df153222ab070a99285d8bb5e1f438fe0f6a62eba4ef95162e4359b33", checked := Tryd.checked }
namespace Rows
def none {H : Type} : Left H := { results := [], args := [] }

/- WHAT THE LISTED PACKAGE-LEVEL VARIABLES READ AS WHEN THE CALL BEGINS. Each datum BY PROGRAM (the guide's laid-datum.mjs) off the statement by which the dump's own 'gosem.cut.vars' lays the variable. In a bare row this is a premise. The card (YtjkfnnoakjdgmaaDoorCards.lean) ties it to the program's text. -/
def laid_math_bits_deBruijn64tab {H : Type} : DataW H := .agg [.lit (.int .u8 0), .lit (.int .u8 1), .lit (.int .u8 56), .lit (.int .u8 2), .lit (.int .u8 57), .lit (.int .u8 49), .lit (.int .u8 28), .lit (.int .u8 3), .lit (.int .u8 61), .lit (.int .u8 58), .lit (.int .u8 42), .lit (.int .u8 50), .lit (.int .u8 38), .lit (.int .u8 29), .lit (.int .u8 17), .lit (.int .u8 4), .lit (.int .u8 62), .lit (.int .u8 47), .lit (.int .u8 59), .lit (.int .u8 36), .lit (.int .u8 45), .lit (.int .u8 43), .lit (.int .u8 51), .lit (.int .u8 22), .lit (.int .u8 53), .lit (.int .u8 39), .lit (.int .u8 33), .lit (.int .u8 30), .lit (.int .u8 24), .lit (.int .u8 18), .lit (.int .u8 12), .lit (.int .u8 5), .lit (.int .u8 63), .lit (.int .u8 55), .lit (.int .u8 48), .lit (.int .u8 27), .lit (.int .u8 60), .lit (.int .u8 41), .lit (.int .u8 37), .lit (.int .u8 16), .lit (.int .u8 46), .lit (.int .u8 35), .lit (.int .u8 44), .lit (.int .u8 21), .lit (.int .u8 52), .lit (.int .u8 32), .lit (.int .u8 23), .lit (.int .u8 11), .lit (.int .u8 54), .lit (.int .u8 26), .lit (.int .u8 40), .lit (.int .u8 15), .lit (.int .u8 34), .lit (.int .u8 20), .lit (.int .u8 31), .lit (.int .u8 10), .lit (.int .u8 25), .lit (.int .u8 14), .lit (.int .u8 19), .lit (.int .u8 9), .lit (.int .u8 13), .lit (.int .u8 8), .lit (.int .u8 7), .lit (.int .u8 6)]

/-- 'relucertlaw03.RationalCanon': WHATEVER THE INPUT: true; the input reads as it did. -/
def rationalCanonSpec : ChangeSpec := { name := "rationalCanon", fn := fun _ => fun
  | [d] => { results := [.lit (.bool true)], args := [d] }
  | _ => none }
def rationalCanonRow : OpenClaim := { program := "ytjkfnnoakjdgmaadoor", sum := "62b5243df153222ab070a99285d8bb5e1f438fe0f6a62eba4ef95162e4359b33", func := "relucert/relucertlaw03.RationalCanon", spec := "rationalCanon", inPlace := ["math/bits.Add64"], recurses := true, named := ["math/bits.deBruijn64tab"], apart := false, laid := [("math/bits.deBruijn64tab", laid_math_bits_deBruijn64tab)] }
def RationalCanonSaid : Prop := rationalCanonRow.holds Tryd.pinned (OpenSpec.ofChange rationalCanonSpec)

/-- ITS FALSE NEIGHBOUR: 'it returns false'. Refute it at one input. -/
def rationalCanonWrong : ChangeSpec := { name := "rationalCanon", fn := fun _ => fun
  | [d] => { results := [.lit (.bool false)], args := [d] }
  | _ => none }
def RationalCanonWrongFalsely : Prop := rationalCanonRow.holds Tryd.pinned (OpenSpec.ofChange rationalCanonWrong)

/-- 'relucertlaw03.RationalMake': WHATEVER THE INPUT: true; the input reads as it did. -/
def rationalMakeSpec : ChangeSpec := { name := "rationalMake", fn := fun _ => fun
  | [d1, d2, d3] => { results := [.lit (.bool true)], args := [d1, d2, d3] }
  | _ => none }
def rationalMakeRow : OpenClaim := { program := "ytjkfnnoakjdgmaadoor", sum := "62b5243df153222ab070a99285d8bb5e1f438fe0f6a62eba4ef95162e4359b33", func := "relucert/relucertlaw03.RationalMake", spec := "rationalMake", inPlace := ["math/bits.Add64"], recurses := true, named := ["math/bits.deBruijn64tab"], apart := false, laid := [("math/bits.deBruijn64tab", laid_math_bits_deBruijn64tab)] }
def RationalMakeSaid : Prop := rationalMakeRow.holds Tryd.pinned (OpenSpec.ofChange rationalMakeSpec)

/-- ITS FALSE NEIGHBOUR: 'it returns false'. Refute it at one input. -/
def rationalMakeWrong : ChangeSpec := { name := "rationalMake", fn := fun _ => fun
  | [d1, d2, d3] => { results := [.lit (.bool false)], args := [d1, d2, d3] }
  | _ => none }
def RationalMakeWrongFalsely : Prop := rationalMakeRow.holds Tryd.pinned (OpenSpec.ofChange rationalMakeWrong)

/-- 'relucertlaw03.RationalAdd': WHATEVER THE INPUT: true; the input reads as it did. -/
def rationalAddSpec : ChangeSpec := { name := "rationalAdd", fn := fun _ => fun
  | [d1, d2, d3] => { results := [.lit (.bool true)], args := [d1, d2, d3] }
  | _ => none }
def rationalAddRow : OpenClaim := { program := "ytjkfnnoakjdgmaadoor", sum := "62b5243df153222ab070a99285d8bb5e1f438fe0f6a62eba4ef95162e4359b33", func := "relucert/relucertlaw03.RationalAdd", spec := "rationalAdd", inPlace := ["math/bits.Add64"], recurses := true, named := ["math/bits.deBruijn64tab"], apart := false, laid := [("math/bits.deBruijn64tab", laid_math_bits_deBruijn64tab)] }
def RationalAddSaid : Prop := rationalAddRow.holds Tryd.pinned (OpenSpec.ofChange rationalAddSpec)

/-- ITS FALSE NEIGHBOUR: 'it returns false'. Refute it at one input. -/
def rationalAddWrong : ChangeSpec := { name := "rationalAdd", fn := fun _ => fun
  | [d1, d2, d3] => { results := [.lit (.bool false)], args := [d1, d2, d3] }
  | _ => none }
def RationalAddWrongFalsely : Prop := rationalAddRow.holds Tryd.pinned (OpenSpec.ofChange rationalAddWrong)

/-- 'relucertlaw03.RationalMul': WHATEVER THE INPUT: true; the input reads as it did. -/
def rationalMulSpec : ChangeSpec := { name := "rationalMul", fn := fun _ => fun
  | [d1, d2, d3] => { results := [.lit (.bool true)], args := [d1, d2, d3] }
  | _ => none }
def rationalMulRow : OpenClaim := { program := "ytjkfnnoakjdgmaadoor", sum := "62b5243df153222ab070a99285d8bb5e1f438fe0f6a62eba4ef95162e4359b33", func := "relucert/relucertlaw03.RationalMul", spec := "rationalMul", inPlace := ["math/bits.Add64"], recurses := true, named := ["math/bits.deBruijn64tab"], apart := false, laid := [("math/bits.deBruijn64tab", laid_math_bits_deBruijn64tab)] }
def RationalMulSaid : Prop := rationalMulRow.holds Tryd.pinned (OpenSpec.ofChange rationalMulSpec)

/-- ITS FALSE NEIGHBOUR: 'it returns false'. Refute it at one input. -/
def rationalMulWrong : ChangeSpec := { name := "rationalMul", fn := fun _ => fun
  | [d1, d2, d3] => { results := [.lit (.bool false)], args := [d1, d2, d3] }
  | _ => none }
def RationalMulWrongFalsely : Prop := rationalMulRow.holds Tryd.pinned (OpenSpec.ofChange rationalMulWrong)

/-- 'relucertlaw03.RationalCompare': WHATEVER THE INPUT: true; the input reads as it did. -/
def rationalCompareSpec : ChangeSpec := { name := "rationalCompare", fn := fun _ => fun
  | [d1, d2, d3] => { results := [.lit (.bool true)], args := [d1, d2, d3] }
  | _ => none }
def rationalCompareRow : OpenClaim := { program := "ytjkfnnoakjdgmaadoor", sum := "62b5243df153222ab070a99285d8bb5e1f438fe0f6a62eba4ef95162e4359b33", func := "relucert/relucertlaw03.RationalCompare", spec := "rationalCompare", inPlace := ["math/bits.Add64"], recurses := true, named := ["math/bits.deBruijn64tab"], apart := false, laid := [("math/bits.deBruijn64tab", laid_math_bits_deBruijn64tab)] }
def RationalCompareSaid : Prop := rationalCompareRow.holds Tryd.pinned (OpenSpec.ofChange rationalCompareSpec)

/-- ITS FALSE NEIGHBOUR: 'it returns false'. Refute it at one input. -/
def rationalCompareWrong : ChangeSpec := { name := "rationalCompare", fn := fun _ => fun
  | [d1, d2, d3] => { results := [.lit (.bool false)], args := [d1, d2, d3] }
  | _ => none }
def RationalCompareWrongFalsely : Prop := rationalCompareRow.holds Tryd.pinned (OpenSpec.ofChange rationalCompareWrong)

/-- 'relucertlaw03.RationalFloor': WHATEVER THE INPUT: true; the input reads as it did. -/
def rationalFloorSpec : ChangeSpec := { name := "rationalFloor", fn := fun _ => fun
  | [d] => { results := [.lit (.bool true)], args := [d] }
  | _ => none }
def rationalFloorRow : OpenClaim := { program := "ytjkfnnoakjdgmaadoor", sum := "62b5243df153222ab070a99285d8bb5e1f438fe0f6a62eba4ef95162e4359b33", func := "relucert/relucertlaw03.RationalFloor", spec := "rationalFloor", inPlace := ["math/bits.Add64"], recurses := true, named := ["math/bits.deBruijn64tab"], apart := false, laid := [("math/bits.deBruijn64tab", laid_math_bits_deBruijn64tab)] }
def RationalFloorSaid : Prop := rationalFloorRow.holds Tryd.pinned (OpenSpec.ofChange rationalFloorSpec)

/-- ITS FALSE NEIGHBOUR: 'it returns false'. Refute it at one input. -/
def rationalFloorWrong : ChangeSpec := { name := "rationalFloor", fn := fun _ => fun
  | [d] => { results := [.lit (.bool false)], args := [d] }
  | _ => none }
def RationalFloorWrongFalsely : Prop := rationalFloorRow.holds Tryd.pinned (OpenSpec.ofChange rationalFloorWrong)

/-- 'relucertlaw03.RationalSimpler': WHATEVER THE INPUT: true; the input reads as it did. -/
def rationalSimplerSpec : ChangeSpec := { name := "rationalSimpler", fn := fun _ => fun
  | [d1, d2, d3] => { results := [.lit (.bool true)], args := [d1, d2, d3] }
  | _ => none }
def rationalSimplerRow : OpenClaim := { program := "ytjkfnnoakjdgmaadoor", sum := "62b5243df153222ab070a99285d8bb5e1f438fe0f6a62eba4ef95162e4359b33", func := "relucert/relucertlaw03.RationalSimpler", spec := "rationalSimpler", inPlace := ["math/bits.Add64"], recurses := true, named := ["math/bits.deBruijn64tab"], apart := false, laid := [("math/bits.deBruijn64tab", laid_math_bits_deBruijn64tab)] }
def RationalSimplerSaid : Prop := rationalSimplerRow.holds Tryd.pinned (OpenSpec.ofChange rationalSimplerSpec)

/-- ITS FALSE NEIGHBOUR: 'it returns false'. Refute it at one input. -/
def rationalSimplerWrong : ChangeSpec := { name := "rationalSimpler", fn := fun _ => fun
  | [d1, d2, d3] => { results := [.lit (.bool false)], args := [d1, d2, d3] }
  | _ => none }
def RationalSimplerWrongFalsely : Prop := rationalSimplerRow.holds Tryd.pinned (OpenSpec.ofChange rationalSimplerWrong)

/-- 'relucertlaw03.RationalNeg': WHATEVER THE INPUT: true; the input reads as it did. -/
def rationalNegSpec : ChangeSpec := { name := "rationalNeg", fn := fun _ => fun
  | [d] => { results := [.lit (.bool true)], args := [d] }
  | _ => none }
def rationalNegRow : OpenClaim := { program := "ytjkfnnoakjdgmaadoor", sum := "62b5243df153222ab070a99285d8bb5e1f438fe0f6a62eba4ef95162e4359b33", func := "relucert/relucertlaw03.RationalNeg", spec := "rationalNeg", inPlace := ["math/bits.Add64"], recurses := true, named := ["math/bits.deBruijn64tab"], apart := false, laid := [("math/bits.deBruijn64tab", laid_math_bits_deBruijn64tab)] }
def RationalNegSaid : Prop := rationalNegRow.holds Tryd.pinned (OpenSpec.ofChange rationalNegSpec)

/-- ITS FALSE NEIGHBOUR: 'it returns false'. Refute it at one input. -/
def rationalNegWrong : ChangeSpec := { name := "rationalNeg", fn := fun _ => fun
  | [d] => { results := [.lit (.bool false)], args := [d] }
  | _ => none }
def RationalNegWrongFalsely : Prop := rationalNegRow.holds Tryd.pinned (OpenSpec.ofChange rationalNegWrong)

/- THE SECOND FORM. 'bulk': how many values and letters a reading holds, each counted each time it is reached (what is shared counts as often as it is met; a slice's spare places count too). A statement '..UptoSaid' is the law's where the arguments, and the package variables that the reading takes, are together of bulk at most 1048576: NARROWER than '..Said'. Prove '..Said' where nothing that the law and all that it calls make is longer than what came in: it says more and counts as full. Else prove '..UptoSaid'. A law counts once. -/
mutual
def uptoBulk {H : Type} : DataW H → Nat
  | .lit (.string bytes) => bytes.length + 1
  | .lit _ => 1
  | .nil => 1
  | .ptr d => uptoBulk d + 1
  | .slice elems spare => uptoBulkAll elems + uptoBulkAll spare + 1
  | .agg parts => uptoBulkAll parts + 1
  | .iface _ d => uptoBulk d + 1
  | .map entries => uptoBulkEntries entries + 1
  | .held _ => 1
def uptoBulkAll {H : Type} : List (DataW H) → Nat
  | [] => 0
  | d :: r => uptoBulk d + uptoBulkAll r
def uptoBulkEntries {H : Type} : List (Lit × DataW H) → Nat
  | [] => 0
  | x :: r => uptoBulkEntry x + uptoBulkEntries r
def uptoBulkEntry {H : Type} : Lit × DataW H → Nat
  | (.string bytes, d) => bytes.length + uptoBulk d + 1
  | (_, d) => uptoBulk d + 1
 end
def uptoSmall : (H : Type) → List (DataW H) → Bool := fun _ ds => decide (uptoBulkAll ds ≤ 1048576)
def OpenSpec.upto (s : _root_.Go.ChangeSpec) : _root_.Go.OpenSpec := { _root_.Go.OpenSpec.ofChange s with cond := some uptoSmall }

/-- 'relucertlaw03.RationalCanon', WHERE WHAT IT READS IS OF BULK AT MOST 1048576: true; the input reads as it did. -/
def rationalCanonUptoRow : OpenClaim := { program := "ytjkfnnoakjdgmaadoor", sum := "62b5243df153222ab070a99285d8bb5e1f438fe0f6a62eba4ef95162e4359b33", func := "relucert/relucertlaw03.RationalCanon", spec := "rationalCanon", inPlace := ["math/bits.Add64"], recurses := true, named := ["math/bits.deBruijn64tab"], apart := false, laid := [("math/bits.deBruijn64tab", laid_math_bits_deBruijn64tab)], narrowed := true }
def RationalCanonUptoSaid : Prop := rationalCanonUptoRow.holds Tryd.pinned (OpenSpec.upto rationalCanonSpec)

/-- 'relucertlaw03.RationalMake', WHERE WHAT IT READS IS OF BULK AT MOST 1048576: true; the input reads as it did. -/
def rationalMakeUptoRow : OpenClaim := { program := "ytjkfnnoakjdgmaadoor", sum := "62b5243df153222ab070a99285d8bb5e1f438fe0f6a62eba4ef95162e4359b33", func := "relucert/relucertlaw03.RationalMake", spec := "rationalMake", inPlace := ["math/bits.Add64"], recurses := true, named := ["math/bits.deBruijn64tab"], apart := false, laid := [("math/bits.deBruijn64tab", laid_math_bits_deBruijn64tab)], narrowed := true }
def RationalMakeUptoSaid : Prop := rationalMakeUptoRow.holds Tryd.pinned (OpenSpec.upto rationalMakeSpec)

/-- 'relucertlaw03.RationalAdd', WHERE WHAT IT READS IS OF BULK AT MOST 1048576: true; the input reads as it did. -/
def rationalAddUptoRow : OpenClaim := { program := "ytjkfnnoakjdgmaadoor", sum := "62b5243df153222ab070a99285d8bb5e1f438fe0f6a62eba4ef95162e4359b33", func := "relucert/relucertlaw03.RationalAdd", spec := "rationalAdd", inPlace := ["math/bits.Add64"], recurses := true, named := ["math/bits.deBruijn64tab"], apart := false, laid := [("math/bits.deBruijn64tab", laid_math_bits_deBruijn64tab)], narrowed := true }
def RationalAddUptoSaid : Prop := rationalAddUptoRow.holds Tryd.pinned (OpenSpec.upto rationalAddSpec)

/-- 'relucertlaw03.RationalMul', WHERE WHAT IT READS IS OF BULK AT MOST 1048576: true; the input reads as it did. -/
def rationalMulUptoRow : OpenClaim := { program := "ytjkfnnoakjdgmaadoor", sum := "62b5243df153222ab070a99285d8bb5e1f438fe0f6a62eba4ef95162e4359b33", func := "relucert/relucertlaw03.RationalMul", spec := "rationalMul", inPlace := ["math/bits.Add64"], recurses := true, named := ["math/bits.deBruijn64tab"], apart := false, laid := [("math/bits.deBruijn64tab", laid_math_bits_deBruijn64tab)], narrowed := true }
def RationalMulUptoSaid : Prop := rationalMulUptoRow.holds Tryd.pinned (OpenSpec.upto rationalMulSpec)

/-- 'relucertlaw03.RationalCompare', WHERE WHAT IT READS IS OF BULK AT MOST 1048576: true; the input reads as it did. -/
def rationalCompareUptoRow : OpenClaim := { program := "ytjkfnnoakjdgmaadoor", sum := "62b5243df153222ab070a99285d8bb5e1f438fe0f6a62eba4ef95162e4359b33", func := "relucert/relucertlaw03.RationalCompare", spec := "rationalCompare", inPlace := ["math/bits.Add64"], recurses := true, named := ["math/bits.deBruijn64tab"], apart := false, laid := [("math/bits.deBruijn64tab", laid_math_bits_deBruijn64tab)], narrowed := true }
def RationalCompareUptoSaid : Prop := rationalCompareUptoRow.holds Tryd.pinned (OpenSpec.upto rationalCompareSpec)

/-- 'relucertlaw03.RationalFloor', WHERE WHAT IT READS IS OF BULK AT MOST 1048576: true; the input reads as it did. -/
def rationalFloorUptoRow : OpenClaim := { program := "ytjkfnnoakjdgmaadoor", sum := "62b5243df153222ab070a99285d8bb5e1f438fe0f6a62eba4ef95162e4359b33", func := "relucert/relucertlaw03.RationalFloor", spec := "rationalFloor", inPlace := ["math/bits.Add64"], recurses := true, named := ["math/bits.deBruijn64tab"], apart := false, laid := [("math/bits.deBruijn64tab", laid_math_bits_deBruijn64tab)], narrowed := true }
def RationalFloorUptoSaid : Prop := rationalFloorUptoRow.holds Tryd.pinned (OpenSpec.upto rationalFloorSpec)

/-- 'relucertlaw03.RationalSimpler', WHERE WHAT IT READS IS OF BULK AT MOST 1048576: true; the input reads as it did. -/
def rationalSimplerUptoRow : OpenClaim := { program := "ytjkfnnoakjdgmaadoor", sum := "62b5243df153222ab070a99285d8bb5e1f438fe0f6a62eba4ef95162e4359b33", func := "relucert/relucertlaw03.RationalSimpler", spec := "rationalSimpler", inPlace := ["math/bits.Add64"], recurses := true, named := ["math/bits.deBruijn64tab"], apart := false, laid := [("math/bits.deBruijn64tab", laid_math_bits_deBruijn64tab)], narrowed := true }
def RationalSimplerUptoSaid : Prop := rationalSimplerUptoRow.holds Tryd.pinned (OpenSpec.upto rationalSimplerSpec)

/-- 'relucertlaw03.RationalNeg', WHERE WHAT IT READS IS OF BULK AT MOST 1048576: true; the input reads as it did. -/
def rationalNegUptoRow : OpenClaim := { program := "ytjkfnnoakjdgmaadoor", sum := "62b5243df153222ab070a99285d8bb5e1f438fe0f6a62eba4ef95162e4359b33", func := "relucert/relucertlaw03.RationalNeg", spec := "rationalNeg", inPlace := ["math/bits.Add64"], recurses := true, named := ["math/bits.deBruijn64tab"], apart := false, laid := [("math/bits.deBruijn64tab", laid_math_bits_deBruijn64tab)], narrowed := true }
def RationalNegUptoSaid : Prop := rationalNegUptoRow.holds Tryd.pinned (OpenSpec.upto rationalNegSpec)

end Rows
end Go.Proofs.YtjkfnnoakjdgmaaDoor
