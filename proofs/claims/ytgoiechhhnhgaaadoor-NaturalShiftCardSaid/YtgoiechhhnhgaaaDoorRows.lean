/-
  NARROWER THAN 'FOR EVERY INPUT', by the rows' own cells (each row's printed sentence says how): NaturalMake: laid · NaturalCompare: laid · NaturalAdd: laid · NaturalSub: laid · NaturalMul: laid · NaturalShift: laid · NaturalDivide: laid · NaturalDivides: laid · NaturalGcd: laid.
  DERIVED. THE GIVEN ROWS OF THIS SEAT. 9 by the template 'for every input the law returns true; each argument reads behind the call as it read before'; 0 by the template 'total and deterministic' (their statements: YtgoiechhhnhgaaaDoorTotals.lean).
  GIVEN WITH THE SEED: the statements are not yours to turn. If you find one false, say at which input.
  Laid BY PROGRAM, IN A SANDBOX (cutbox-rows.mjs): the forced cells as the released guide's own fill.sh prints them over the translation f7853b9617c6c9f4… (all of the seat's roots in one cut). By AI agents, Wed Nov 11 2026. No macro, syntax, notation, axiom, sorry.
-/
import Derived.Test.YtgoiechhhnhgaaaDoorChecked
import GoSem.Claim
import GoSem.ClaimJoined
import GoSem.ClaimMapViews
import Derived.JoinedTies
import Derived.KernelRfl
namespace Go.Proofs.YtgoiechhhnhgaaaDoor
/- THE CELL 'sum', in the pinned program and in every row, IS THE sha256 OF THE DUMP (.gsa) THAT YtgoiechhhnhgaaaDoorProg.lean LOADS. Nothing in Lean hashes anything: it is a label: what it is worth is what the hold of that sum in a sandbox is worth. -/
noncomputable def Tryd.pinned : Pinned := { name := "ytgoiechhhnhgaaadoor", sum := "f7853b9617c6c9f4b3258ccec96fa15dfdf36af3797a074c9a9e55e39f480a4e", checked := Tryd.checked }
namespace Rows
def none {H : Type} : Left H := { results := [], args := [] }

/- WHAT THE LISTED PACKAGE-LEVEL VARIABLES READ AS WHEN THE CALL BEGINS. Each datum BY PROGRAM (the guide's laid-datum.mjs) off the statement by which the dump's own 'gosem.cut.vars' lays the variable. In a bare row this is a premise. The card (YtgoiechhhnhgaaaDoorCards.lean) ties it to the program's text. -/
def laid_math_bits_deBruijn64tab {H : Type} : DataW H := .agg [.lit (.int .u8 0), .lit (.int .u8 1), .lit (.int .u8 56), .lit (.int .u8 2), .lit (.int .u8 57), .lit (.int .u8 49), .lit (.int .u8 28), .lit (.int .u8 3), .lit (.int .u8 61), .lit (.int .u8 58), .lit (.int .u8 42), .lit (.int .u8 50), .lit (.int .u8 38), .lit (.int .u8 29), .lit (.int .u8 17), .lit (.int .u8 4), .lit (.int .u8 62), .lit (.int .u8 47), .lit (.int .u8 59), .lit (.int .u8 36), .lit (.int .u8 45), .lit (.int .u8 43), .lit (.int .u8 51), .lit (.int .u8 22), .lit (.int .u8 53), .lit (.int .u8 39), .lit (.int .u8 33), .lit (.int .u8 30), .lit (.int .u8 24), .lit (.int .u8 18), .lit (.int .u8 12), .lit (.int .u8 5), .lit (.int .u8 63), .lit (.int .u8 55), .lit (.int .u8 48), .lit (.int .u8 27), .lit (.int .u8 60), .lit (.int .u8 41), .lit (.int .u8 37), .lit (.int .u8 16), .lit (.int .u8 46), .lit (.int .u8 35), .lit (.int .u8 44), .lit (.int .u8 21), .lit (.int .u8 52), .lit (.int .u8 32), .lit (.int .u8 23), .lit (.int .u8 11), .lit (.int .u8 54), .lit (.int .u8 26), .lit (.int .u8 40), .lit (.int .u8 15), .lit (.int .u8 34), .lit (.int .u8 20), .lit (.int .u8 31), .lit (.int .u8 10), .lit (.int .u8 25), .lit (.int .u8 14), .lit (.int .u8 19), .lit (.int .u8 9), .lit (.int .u8 13), .lit (.int .u8 8), .lit (.int .u8 7), .lit (.int .u8 6)]

/-- 'relucertlaw01.NaturalMake': WHATEVER THE INPUT: true; the input reads as it did. -/
def naturalMakeSpec : ChangeSpec := { name := "naturalMake", fn := fun _ => fun
  | [d1, d2] => { results := [.lit (.bool true)], args := [d1, d2] }
  | _ => none }
def naturalMakeRow : OpenClaim := { program := "ytgoiechhhnhgaaadoor", sum := "f7853b9617c6c9f4b3258ccec96fa15dfdf36af3797a074c9a9e55e39f480a4e", func := "relucert/relucertlaw01.NaturalMake", spec := "naturalMake", named := ["math/bits.deBruijn64tab"], apart := false, laid := [("math/bits.deBruijn64tab", laid_math_bits_deBruijn64tab)] }
def NaturalMakeSaid : Prop := naturalMakeRow.holds Tryd.pinned (OpenSpec.ofChange naturalMakeSpec)

/-- ITS FALSE NEIGHBOUR: 'it returns false'. Refute it at one input. -/
def naturalMakeWrong : ChangeSpec := { name := "naturalMake", fn := fun _ => fun
  | [d1, d2] => { results := [.lit (.bool false)], args := [d1, d2] }
  | _ => none }
def NaturalMakeWrongFalsely : Prop := naturalMakeRow.holds Tryd.pinned (OpenSpec.ofChange naturalMakeWrong)

/-- 'relucertlaw01.NaturalCompare': WHATEVER THE INPUT: true; the input reads as it did. -/
def naturalCompareSpec : ChangeSpec := { name := "naturalCompare", fn := fun _ => fun
  | [d1, d2, d3] => { results := [.lit (.bool true)], args := [d1, d2, d3] }
  | _ => none }
def naturalCompareRow : OpenClaim := { program := "ytgoiechhhnhgaaadoor", sum := "f7853b9617c6c9f4b3258ccec96fa15dfdf36af3797a074c9a9e55e39f480a4e", func := "relucert/relucertlaw01.NaturalCompare", spec := "naturalCompare", named := ["math/bits.deBruijn64tab"], apart := false, laid := [("math/bits.deBruijn64tab", laid_math_bits_deBruijn64tab)] }
def NaturalCompareSaid : Prop := naturalCompareRow.holds Tryd.pinned (OpenSpec.ofChange naturalCompareSpec)

/-- ITS FALSE NEIGHBOUR: 'it returns false'. Refute it at one input. -/
def naturalCompareWrong : ChangeSpec := { name := "naturalCompare", fn := fun _ => fun
  | [d1, d2, d3] => { results := [.lit (.bool false)], args := [d1, d2, d3] }
  | _ => none }
def NaturalCompareWrongFalsely : Prop := naturalCompareRow.holds Tryd.pinned (OpenSpec.ofChange naturalCompareWrong)

/-- 'relucertlaw01.NaturalAdd': WHATEVER THE INPUT: true; the input reads as it did. -/
def naturalAddSpec : ChangeSpec := { name := "naturalAdd", fn := fun _ => fun
  | [d1, d2, d3] => { results := [.lit (.bool true)], args := [d1, d2, d3] }
  | _ => none }
def naturalAddRow : OpenClaim := { program := "ytgoiechhhnhgaaadoor", sum := "f7853b9617c6c9f4b3258ccec96fa15dfdf36af3797a074c9a9e55e39f480a4e", func := "relucert/relucertlaw01.NaturalAdd", spec := "naturalAdd", named := ["math/bits.deBruijn64tab"], apart := false, laid := [("math/bits.deBruijn64tab", laid_math_bits_deBruijn64tab)] }
def NaturalAddSaid : Prop := naturalAddRow.holds Tryd.pinned (OpenSpec.ofChange naturalAddSpec)

/-- ITS FALSE NEIGHBOUR: 'it returns false'. Refute it at one input. -/
def naturalAddWrong : ChangeSpec := { name := "naturalAdd", fn := fun _ => fun
  | [d1, d2, d3] => { results := [.lit (.bool false)], args := [d1, d2, d3] }
  | _ => none }
def NaturalAddWrongFalsely : Prop := naturalAddRow.holds Tryd.pinned (OpenSpec.ofChange naturalAddWrong)

/-- 'relucertlaw01.NaturalSub': WHATEVER THE INPUT: true; the input reads as it did. -/
def naturalSubSpec : ChangeSpec := { name := "naturalSub", fn := fun _ => fun
  | [d1, d2] => { results := [.lit (.bool true)], args := [d1, d2] }
  | _ => none }
def naturalSubRow : OpenClaim := { program := "ytgoiechhhnhgaaadoor", sum := "f7853b9617c6c9f4b3258ccec96fa15dfdf36af3797a074c9a9e55e39f480a4e", func := "relucert/relucertlaw01.NaturalSub", spec := "naturalSub", named := ["math/bits.deBruijn64tab"], apart := false, laid := [("math/bits.deBruijn64tab", laid_math_bits_deBruijn64tab)] }
def NaturalSubSaid : Prop := naturalSubRow.holds Tryd.pinned (OpenSpec.ofChange naturalSubSpec)

/-- ITS FALSE NEIGHBOUR: 'it returns false'. Refute it at one input. -/
def naturalSubWrong : ChangeSpec := { name := "naturalSub", fn := fun _ => fun
  | [d1, d2] => { results := [.lit (.bool false)], args := [d1, d2] }
  | _ => none }
def NaturalSubWrongFalsely : Prop := naturalSubRow.holds Tryd.pinned (OpenSpec.ofChange naturalSubWrong)

/-- 'relucertlaw01.NaturalMul': WHATEVER THE INPUT: true; the input reads as it did. -/
def naturalMulSpec : ChangeSpec := { name := "naturalMul", fn := fun _ => fun
  | [d1, d2, d3] => { results := [.lit (.bool true)], args := [d1, d2, d3] }
  | _ => none }
def naturalMulRow : OpenClaim := { program := "ytgoiechhhnhgaaadoor", sum := "f7853b9617c6c9f4b3258ccec96fa15dfdf36af3797a074c9a9e55e39f480a4e", func := "relucert/relucertlaw01.NaturalMul", spec := "naturalMul", recurses := true, named := ["math/bits.deBruijn64tab"], apart := false, laid := [("math/bits.deBruijn64tab", laid_math_bits_deBruijn64tab)] }
def NaturalMulSaid : Prop := naturalMulRow.holds Tryd.pinned (OpenSpec.ofChange naturalMulSpec)

/-- ITS FALSE NEIGHBOUR: 'it returns false'. Refute it at one input. -/
def naturalMulWrong : ChangeSpec := { name := "naturalMul", fn := fun _ => fun
  | [d1, d2, d3] => { results := [.lit (.bool false)], args := [d1, d2, d3] }
  | _ => none }
def NaturalMulWrongFalsely : Prop := naturalMulRow.holds Tryd.pinned (OpenSpec.ofChange naturalMulWrong)

/-- 'relucertlaw01.NaturalShift': WHATEVER THE INPUT: true; the input reads as it did. -/
def naturalShiftSpec : ChangeSpec := { name := "naturalShift", fn := fun _ => fun
  | [d1, d2] => { results := [.lit (.bool true)], args := [d1, d2] }
  | _ => none }
def naturalShiftRow : OpenClaim := { program := "ytgoiechhhnhgaaadoor", sum := "f7853b9617c6c9f4b3258ccec96fa15dfdf36af3797a074c9a9e55e39f480a4e", func := "relucert/relucertlaw01.NaturalShift", spec := "naturalShift", recurses := true, named := ["math/bits.deBruijn64tab"], apart := false, laid := [("math/bits.deBruijn64tab", laid_math_bits_deBruijn64tab)] }
def NaturalShiftSaid : Prop := naturalShiftRow.holds Tryd.pinned (OpenSpec.ofChange naturalShiftSpec)

/-- ITS FALSE NEIGHBOUR: 'it returns false'. Refute it at one input. -/
def naturalShiftWrong : ChangeSpec := { name := "naturalShift", fn := fun _ => fun
  | [d1, d2] => { results := [.lit (.bool false)], args := [d1, d2] }
  | _ => none }
def NaturalShiftWrongFalsely : Prop := naturalShiftRow.holds Tryd.pinned (OpenSpec.ofChange naturalShiftWrong)

/-- 'relucertlaw01.NaturalDivide': WHATEVER THE INPUT: true; the input reads as it did. -/
def naturalDivideSpec : ChangeSpec := { name := "naturalDivide", fn := fun _ => fun
  | [d1, d2] => { results := [.lit (.bool true)], args := [d1, d2] }
  | _ => none }
def naturalDivideRow : OpenClaim := { program := "ytgoiechhhnhgaaadoor", sum := "f7853b9617c6c9f4b3258ccec96fa15dfdf36af3797a074c9a9e55e39f480a4e", func := "relucert/relucertlaw01.NaturalDivide", spec := "naturalDivide", named := ["math/bits.deBruijn64tab"], apart := false, laid := [("math/bits.deBruijn64tab", laid_math_bits_deBruijn64tab)] }
def NaturalDivideSaid : Prop := naturalDivideRow.holds Tryd.pinned (OpenSpec.ofChange naturalDivideSpec)

/-- ITS FALSE NEIGHBOUR: 'it returns false'. Refute it at one input. -/
def naturalDivideWrong : ChangeSpec := { name := "naturalDivide", fn := fun _ => fun
  | [d1, d2] => { results := [.lit (.bool false)], args := [d1, d2] }
  | _ => none }
def NaturalDivideWrongFalsely : Prop := naturalDivideRow.holds Tryd.pinned (OpenSpec.ofChange naturalDivideWrong)

/-- 'relucertlaw01.NaturalDivides': WHATEVER THE INPUT: true; the input reads as it did. -/
def naturalDividesSpec : ChangeSpec := { name := "naturalDivides", fn := fun _ => fun
  | [d1, d2, d3] => { results := [.lit (.bool true)], args := [d1, d2, d3] }
  | _ => none }
def naturalDividesRow : OpenClaim := { program := "ytgoiechhhnhgaaadoor", sum := "f7853b9617c6c9f4b3258ccec96fa15dfdf36af3797a074c9a9e55e39f480a4e", func := "relucert/relucertlaw01.NaturalDivides", spec := "naturalDivides", recurses := true, named := ["math/bits.deBruijn64tab"], apart := false, laid := [("math/bits.deBruijn64tab", laid_math_bits_deBruijn64tab)] }
def NaturalDividesSaid : Prop := naturalDividesRow.holds Tryd.pinned (OpenSpec.ofChange naturalDividesSpec)

/-- ITS FALSE NEIGHBOUR: 'it returns false'. Refute it at one input. -/
def naturalDividesWrong : ChangeSpec := { name := "naturalDivides", fn := fun _ => fun
  | [d1, d2, d3] => { results := [.lit (.bool false)], args := [d1, d2, d3] }
  | _ => none }
def NaturalDividesWrongFalsely : Prop := naturalDividesRow.holds Tryd.pinned (OpenSpec.ofChange naturalDividesWrong)

/-- 'relucertlaw01.NaturalGcd': WHATEVER THE INPUT: true; the input reads as it did. -/
def naturalGcdSpec : ChangeSpec := { name := "naturalGcd", fn := fun _ => fun
  | [d1, d2, d3] => { results := [.lit (.bool true)], args := [d1, d2, d3] }
  | _ => none }
def naturalGcdRow : OpenClaim := { program := "ytgoiechhhnhgaaadoor", sum := "f7853b9617c6c9f4b3258ccec96fa15dfdf36af3797a074c9a9e55e39f480a4e", func := "relucert/relucertlaw01.NaturalGcd", spec := "naturalGcd", named := ["math/bits.deBruijn64tab"], apart := false, laid := [("math/bits.deBruijn64tab", laid_math_bits_deBruijn64tab)] }
def NaturalGcdSaid : Prop := naturalGcdRow.holds Tryd.pinned (OpenSpec.ofChange naturalGcdSpec)

/-- ITS FALSE NEIGHBOUR: 'it returns false'. Refute it at one input. -/
def naturalGcdWrong : ChangeSpec := { name := "naturalGcd", fn := fun _ => fun
  | [d1, d2, d3] => { results := [.lit (.bool false)], args := [d1, d2, d3] }
  | _ => none }
def NaturalGcdWrongFalsely : Prop := naturalGcdRow.holds Tryd.pinned (OpenSpec.ofChange naturalGcdWrong)

/- THE SECOND FORM. 'bulk': how many values and letters a reading holds, each counted each time it is reached (what is shared counts as often as it is met; a slice's spare places count too). A statement '..UptoSaid' is the law's where the arguments, and the package variables that the reading takes, are together of bulk at most 1048576: NARROWER than '..Said'. Prove '..Said' where nothing that the law and all that it calls make is longer than what came in: it says more and counts as full. Else prove '..UptoSaid'. A law counts once. -/
mutual
def uptoBulk {H : Type} : DataW H → Nat
  | .lit (.string bytes) => bytes.length + 1
  | .lit _ => 1
  | .nil => 1
  | .ptr d => uptoBulk d + 1
  | .slice elems spare => uptoBulkAll elems + uptoBulkAll spare + 1
  | .agg parts => uptoBulkAll parts + 1
  | .iface _ d => uptoBulk d + 1
  | .map entries => uptoBulkEntries entries + 1
  | .held _ => 1
def uptoBulkAll {H : Type} : List (DataW H) → Nat
  | [] => 0
  | d :: r => uptoBulk d + uptoBulkAll r
def uptoBulkEntries {H : Type} : List (Lit × DataW H) → Nat
  | [] => 0
  | x :: r => uptoBulkEntry x + uptoBulkEntries r
def uptoBulkEntry {H : Type} : Lit × DataW H → Nat
  | (.string bytes, d) => bytes.length + uptoBulk d + 1
  | (_, d) => uptoBulk d + 1
 end
def uptoSmall : (H : Type) → List (DataW H) → Bool := fun _ ds => decide (uptoBulkAll ds ≤ 1048576)
def OpenSpec.upto (s : _root_.Go.ChangeSpec) : _root_.Go.OpenSpec := { _root_.Go.OpenSpec.ofChange s with cond := some uptoSmall }

/-- 'relucertlaw01.NaturalMake', WHERE WHAT IT READS IS OF BULK AT MOST 1048576: true; the input reads as it did. -/
def naturalMakeUptoRow : OpenClaim := { program := "ytgoiechhhnhgaaadoor", sum := "f7853b9617c6c9f4b3258ccec96fa15dfdf36af3797a074c9a9e55e39f480a4e", func := "relucert/relucertlaw01.NaturalMake", spec := "naturalMake", named := ["math/bits.deBruijn64tab"], apart := false, laid := [("math/bits.deBruijn64tab", laid_math_bits_deBruijn64tab)], narrowed := true }
def NaturalMakeUptoSaid : Prop := naturalMakeUptoRow.holds Tryd.pinned (OpenSpec.upto naturalMakeSpec)

/-- 'relucertlaw01.NaturalCompare', WHERE WHAT IT READS IS OF BULK AT MOST 1048576: true; the input reads as it did. -/
def naturalCompareUptoRow : OpenClaim := { program := "ytgoiechhhnhgaaadoor", sum := "f7853b9617c6c9f4b3258ccec96fa15dfdf36af3797a074c9a9e55e39f480a4e", func := "relucert/relucertlaw01.NaturalCompare", spec := "naturalCompare", named := ["math/bits.deBruijn64tab"], apart := false, laid := [("math/bits.deBruijn64tab", laid_math_bits_deBruijn64tab)], narrowed := true }
def NaturalCompareUptoSaid : Prop := naturalCompareUptoRow.holds Tryd.pinned (OpenSpec.upto naturalCompareSpec)

/-- 'relucertlaw01.NaturalAdd', WHERE WHAT IT READS IS OF BULK AT MOST 1048576: true; the input reads as it did. -/
def naturalAddUptoRow : OpenClaim := { program := "ytgoiechhhnhgaaadoor", sum := "f7853b9617c6c9f4b3258ccec96fa15dfdf36af3797a074c9a9e55e39f480a4e", func := "relucert/relucertlaw01.NaturalAdd", spec := "naturalAdd", named := ["math/bits.deBruijn64tab"], apart := false, laid := [("math/bits.deBruijn64tab", laid_math_bits_deBruijn64tab)], narrowed := true }
def NaturalAddUptoSaid : Prop := naturalAddUptoRow.holds Tryd.pinned (OpenSpec.upto naturalAddSpec)

/-- 'relucertlaw01.NaturalSub', WHERE WHAT IT READS IS OF BULK AT MOST 1048576: true; the input reads as it did. -/
def naturalSubUptoRow : OpenClaim := { program := "ytgoiechhhnhgaaadoor", sum := "f7853b9617c6c9f4b3258ccec96fa15dfdf36af3797a074c9a9e55e39f480a4e", func := "relucert/relucertlaw01.NaturalSub", spec := "naturalSub", named := ["math/bits.deBruijn64tab"], apart := false, laid := [("math/bits.deBruijn64tab", laid_math_bits_deBruijn64tab)], narrowed := true }
def NaturalSubUptoSaid : Prop := naturalSubUptoRow.holds Tryd.pinned (OpenSpec.upto naturalSubSpec)

/-- 'relucertlaw01.NaturalMul', WHERE WHAT IT READS IS OF BULK AT MOST 1048576: true; the input reads as it did. -/
def naturalMulUptoRow : OpenClaim := { program := "ytgoiechhhnhgaaadoor", sum := "f7853b9617c6c9f4b3258ccec96fa15dfdf36af3797a074c9a9e55e39f480a4e", func := "relucert/relucertlaw01.NaturalMul", spec := "naturalMul", recurses := true, named := ["math/bits.deBruijn64tab"], apart := false, laid := [("math/bits.deBruijn64tab", laid_math_bits_deBruijn64tab)], narrowed := true }
def NaturalMulUptoSaid : Prop := naturalMulUptoRow.holds Tryd.pinned (OpenSpec.upto naturalMulSpec)

/-- 'relucertlaw01.NaturalShift', WHERE WHAT IT READS IS OF BULK AT MOST 1048576: true; the input reads as it did. -/
def naturalShiftUptoRow : OpenClaim := { program := "ytgoiechhhnhgaaadoor", sum := "f7853b9617c6c9f4b3258ccec96fa15dfdf36af3797a074c9a9e55e39f480a4e", func := "relucert/relucertlaw01.NaturalShift", spec := "naturalShift", recurses := true, named := ["math/bits.deBruijn64tab"], apart := false, laid := [("math/bits.deBruijn64tab", laid_math_bits_deBruijn64tab)], narrowed := true }
def NaturalShiftUptoSaid : Prop := naturalShiftUptoRow.holds Tryd.pinned (OpenSpec.upto naturalShiftSpec)

/-- 'relucertlaw01.NaturalDivide', WHERE WHAT IT READS IS OF BULK AT MOST 1048576: true; the input reads as it did. -/
def naturalDivideUptoRow : OpenClaim := { program := "ytgoiechhhnhgaaadoor", sum := "f7853b9617c6c9f4b3258ccec96fa15dfdf36af3797a074c9a9e55e39f480a4e", func := "relucert/relucertlaw01.NaturalDivide", spec := "naturalDivide", named := ["math/bits.deBruijn64tab"], apart := false, laid := [("math/bits.deBruijn64tab", laid_math_bits_deBruijn64tab)], narrowed := true }
def NaturalDivideUptoSaid : Prop := naturalDivideUptoRow.holds Tryd.pinned (OpenSpec.upto naturalDivideSpec)

/-- 'relucertlaw01.NaturalDivides', WHERE WHAT IT READS IS OF BULK AT MOST 1048576: true; the input reads as it did. -/
def naturalDividesUptoRow : OpenClaim := { program := "ytgoiechhhnhgaaadoor", sum := "f7853b9617c6c9f4b3258ccec96fa15dfdf36af3797a074c9a9e55e39f480a4e", func := "relucert/relucertlaw01.NaturalDivides", spec := "naturalDivides", recurses := true, named := ["math/bits.deBruijn64tab"], apart := false, laid := [("math/bits.deBruijn64tab", laid_math_bits_deBruijn64tab)], narrowed := true }
def NaturalDividesUptoSaid : Prop := naturalDividesUptoRow.holds Tryd.pinned (OpenSpec.upto naturalDividesSpec)

/-- 'relucertlaw01.NaturalGcd', WHERE WHAT IT READS IS OF BULK AT MOST 1048576: true; the input reads as it did. -/
def naturalGcdUptoRow : OpenClaim := { program := "ytgoiechhhnhgaaadoor", sum := "f7853b9617c6c9f4b3258ccec96fa15dfdf36af3797a074c9a9e55e39f480a4e", func := "relucert/relucertlaw01.NaturalGcd", spec := "naturalGcd", named := ["math/bits.deBruijn64tab"], apart := false, laid := [("math/bits.deBruijn64tab", laid_math_bits_deBruijn64tab)], narrowed := true }
def NaturalGcdUptoSaid : Prop := naturalGcdUptoRow.holds Tryd.pinned (OpenSpec.upto naturalGcdSpec)

end Rows
end Go.Proofs.YtgoiechhhnhgaaaDoor
