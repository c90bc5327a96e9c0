/-
  No cell of these rows narrows 'for every input' (looked for: loops, veiled, ifaces, maps, wideKeys, modest, calm, conditions, laid).
  DERIVED. THE GIVEN ROWS OF THIS SEAT. 7 by the template 'for every input the law returns true; each argument reads behind the call as it read before'; 0 by the template 'total and deterministic' (their statements: YtjkfnnoakjdgmaaTotals.lean).
  GIVEN WITH THE SEED: the statements are not yours to turn. If you find one false, say at which input.
  Laid BY PROGRAM, IN A SANDBOX (cutbox-rows.mjs): the forced cells as the released guide's own fill.sh prints them over the translation 0f3b744176c91ef0… (all of the seat's roots in one cut). By AI agents, Wed Nov 11 2026. No macro, syntax, notation, axiom, sorry.
-/
import Derived.Test.YtjkfnnoakjdgmaaChecked
import GoSem.Claim
import GoSem.ClaimJoined
import GoSem.ClaimMapViews
import Derived.JoinedTies
import Derived.KernelRfl
namespace Go.Proofs.Ytjkfnnoakjdgmaa
/- THE CELL 'sum', in the pinned program and in every row, IS THE sha256 OF THE DUMP (.gsa) THAT YtjkfnnoakjdgmaaProg.lean LOADS. Nothing in Lean hashes anything: it is a label: what it is worth is what the hold of that sum in a sandbox is worth. -/
noncomputable def Try.pinned : Pinned := { name := "ytjkfnnoakjdgmaa", sum := "0f3b744176c91ef02f9a9a0b2b92dde1ebb6e475cada5acc1cb9da9b9037dc71", checked := Try.checked }
namespace Rows
def none {H : Type} : Left H := { results := [], args := [] }

/-- 'relucertlaw02.IntegerMake': WHATEVER THE INPUT: true; the input reads as it did. -/
def integerMakeSpec : ChangeSpec := { name := "integerMake", fn := fun _ => fun
  | [d] => { results := [.lit (.bool true)], args := [d] }
  | _ => none }
def integerMakeRow : OpenClaim := { program := "ytjkfnnoakjdgmaa", sum := "0f3b744176c91ef02f9a9a0b2b92dde1ebb6e475cada5acc1cb9da9b9037dc71", func := "relucert/relucertlaw02.IntegerMake", spec := "integerMake", apart := false }
def IntegerMakeSaid : Prop := integerMakeRow.holds Try.pinned (OpenSpec.ofChange integerMakeSpec)

/-- ITS FALSE NEIGHBOUR: 'it returns false'. Refute it at one input. -/
def integerMakeWrong : ChangeSpec := { name := "integerMake", fn := fun _ => fun
  | [d] => { results := [.lit (.bool false)], args := [d] }
  | _ => none }
def IntegerMakeWrongFalsely : Prop := integerMakeRow.holds Try.pinned (OpenSpec.ofChange integerMakeWrong)

/-- 'relucertlaw02.IntegerInt': WHATEVER THE INPUT: true; the input reads as it did. -/
def integerIntSpec : ChangeSpec := { name := "integerInt", fn := fun _ => fun
  | [d1, d2] => { results := [.lit (.bool true)], args := [d1, d2] }
  | _ => none }
def integerIntRow : OpenClaim := { program := "ytjkfnnoakjdgmaa", sum := "0f3b744176c91ef02f9a9a0b2b92dde1ebb6e475cada5acc1cb9da9b9037dc71", func := "relucert/relucertlaw02.IntegerInt", spec := "integerInt", apart := false }
def IntegerIntSaid : Prop := integerIntRow.holds Try.pinned (OpenSpec.ofChange integerIntSpec)

/-- ITS FALSE NEIGHBOUR: 'it returns false'. Refute it at one input. -/
def integerIntWrong : ChangeSpec := { name := "integerInt", fn := fun _ => fun
  | [d1, d2] => { results := [.lit (.bool false)], args := [d1, d2] }
  | _ => none }
def IntegerIntWrongFalsely : Prop := integerIntRow.holds Try.pinned (OpenSpec.ofChange integerIntWrong)

/-- 'relucertlaw02.IntegerAdd': WHATEVER THE INPUT: true; the input reads as it did. -/
def integerAddSpec : ChangeSpec := { name := "integerAdd", fn := fun _ => fun
  | [d1, d2, d3] => { results := [.lit (.bool true)], args := [d1, d2, d3] }
  | _ => none }
def integerAddRow : OpenClaim := { program := "ytjkfnnoakjdgmaa", sum := "0f3b744176c91ef02f9a9a0b2b92dde1ebb6e475cada5acc1cb9da9b9037dc71", func := "relucert/relucertlaw02.IntegerAdd", spec := "integerAdd", apart := false }
def IntegerAddSaid : Prop := integerAddRow.holds Try.pinned (OpenSpec.ofChange integerAddSpec)

/-- ITS FALSE NEIGHBOUR: 'it returns false'. Refute it at one input. -/
def integerAddWrong : ChangeSpec := { name := "integerAdd", fn := fun _ => fun
  | [d1, d2, d3] => { results := [.lit (.bool false)], args := [d1, d2, d3] }
  | _ => none }
def IntegerAddWrongFalsely : Prop := integerAddRow.holds Try.pinned (OpenSpec.ofChange integerAddWrong)

/-- 'relucertlaw02.IntegerMul': WHATEVER THE INPUT: true; the input reads as it did. -/
def integerMulSpec : ChangeSpec := { name := "integerMul", fn := fun _ => fun
  | [d1, d2, d3] => { results := [.lit (.bool true)], args := [d1, d2, d3] }
  | _ => none }
def integerMulRow : OpenClaim := { program := "ytjkfnnoakjdgmaa", sum := "0f3b744176c91ef02f9a9a0b2b92dde1ebb6e475cada5acc1cb9da9b9037dc71", func := "relucert/relucertlaw02.IntegerMul", spec := "integerMul", recurses := true, apart := false }
def IntegerMulSaid : Prop := integerMulRow.holds Try.pinned (OpenSpec.ofChange integerMulSpec)

/-- ITS FALSE NEIGHBOUR: 'it returns false'. Refute it at one input. -/
def integerMulWrong : ChangeSpec := { name := "integerMul", fn := fun _ => fun
  | [d1, d2, d3] => { results := [.lit (.bool false)], args := [d1, d2, d3] }
  | _ => none }
def IntegerMulWrongFalsely : Prop := integerMulRow.holds Try.pinned (OpenSpec.ofChange integerMulWrong)

/-- 'relucertlaw02.IntegerCompare': WHATEVER THE INPUT: true; the input reads as it did. -/
def integerCompareSpec : ChangeSpec := { name := "integerCompare", fn := fun _ => fun
  | [d1, d2, d3] => { results := [.lit (.bool true)], args := [d1, d2, d3] }
  | _ => none }
def integerCompareRow : OpenClaim := { program := "ytjkfnnoakjdgmaa", sum := "0f3b744176c91ef02f9a9a0b2b92dde1ebb6e475cada5acc1cb9da9b9037dc71", func := "relucert/relucertlaw02.IntegerCompare", spec := "integerCompare", recurses := true, apart := false }
def IntegerCompareSaid : Prop := integerCompareRow.holds Try.pinned (OpenSpec.ofChange integerCompareSpec)

/-- ITS FALSE NEIGHBOUR: 'it returns false'. Refute it at one input. -/
def integerCompareWrong : ChangeSpec := { name := "integerCompare", fn := fun _ => fun
  | [d1, d2, d3] => { results := [.lit (.bool false)], args := [d1, d2, d3] }
  | _ => none }
def IntegerCompareWrongFalsely : Prop := integerCompareRow.holds Try.pinned (OpenSpec.ofChange integerCompareWrong)

/-- 'relucertlaw02.IntegerDivide': WHATEVER THE INPUT: true; the input reads as it did. -/
def integerDivideSpec : ChangeSpec := { name := "integerDivide", fn := fun _ => fun
  | [d1, d2] => { results := [.lit (.bool true)], args := [d1, d2] }
  | _ => none }
def integerDivideRow : OpenClaim := { program := "ytjkfnnoakjdgmaa", sum := "0f3b744176c91ef02f9a9a0b2b92dde1ebb6e475cada5acc1cb9da9b9037dc71", func := "relucert/relucertlaw02.IntegerDivide", spec := "integerDivide", apart := false }
def IntegerDivideSaid : Prop := integerDivideRow.holds Try.pinned (OpenSpec.ofChange integerDivideSpec)

/-- ITS FALSE NEIGHBOUR: 'it returns false'. Refute it at one input. -/
def integerDivideWrong : ChangeSpec := { name := "integerDivide", fn := fun _ => fun
  | [d1, d2] => { results := [.lit (.bool false)], args := [d1, d2] }
  | _ => none }
def IntegerDivideWrongFalsely : Prop := integerDivideRow.holds Try.pinned (OpenSpec.ofChange integerDivideWrong)

/-- 'relucertlaw02.IntegerNeg': WHATEVER THE INPUT: true; the input reads as it did. -/
def integerNegSpec : ChangeSpec := { name := "integerNeg", fn := fun _ => fun
  | [d] => { results := [.lit (.bool true)], args := [d] }
  | _ => none }
def integerNegRow : OpenClaim := { program := "ytjkfnnoakjdgmaa", sum := "0f3b744176c91ef02f9a9a0b2b92dde1ebb6e475cada5acc1cb9da9b9037dc71", func := "relucert/relucertlaw02.IntegerNeg", spec := "integerNeg", apart := false }
def IntegerNegSaid : Prop := integerNegRow.holds Try.pinned (OpenSpec.ofChange integerNegSpec)

/-- ITS FALSE NEIGHBOUR: 'it returns false'. Refute it at one input. -/
def integerNegWrong : ChangeSpec := { name := "integerNeg", fn := fun _ => fun
  | [d] => { results := [.lit (.bool false)], args := [d] }
  | _ => none }
def IntegerNegWrongFalsely : Prop := integerNegRow.holds Try.pinned (OpenSpec.ofChange integerNegWrong)

/- THE SECOND FORM. 'bulk': how many values and letters a reading holds, each counted each time it is reached (what is shared counts as often as it is met; a slice's spare places count too). A statement '..UptoSaid' is the law's where the arguments, and the package variables that the reading takes, are together of bulk at most 1048576: NARROWER than '..Said'. Prove '..Said' where nothing that the law and all that it calls make is longer than what came in: it says more and counts as full. Else prove '..UptoSaid'. A law counts once. -/
mutual
def uptoBulk {H : Type} : DataW H → Nat
  | .lit (.string bytes) => bytes.length + 1
  | .lit _ => 1
  | .nil => 1
  | .ptr d => uptoBulk d + 1
  | .slice elems spare => uptoBulkAll elems + uptoBulkAll spare + 1
  | .agg parts => uptoBulkAll parts + 1
  | .iface _ d => uptoBulk d + 1
  | .map entries => uptoBulkEntries entries + 1
  | .held _ => 1
def uptoBulkAll {H : Type} : List (DataW H) → Nat
  | [] => 0
  | d :: r => uptoBulk d + uptoBulkAll r
def uptoBulkEntries {H : Type} : List (Lit × DataW H) → Nat
  | [] => 0
  | x :: r => uptoBulkEntry x + uptoBulkEntries r
def uptoBulkEntry {H : Type} : Lit × DataW H → Nat
  | (.string bytes, d) => bytes.length + uptoBulk d + 1
  | (_, d) => uptoBulk d + 1
 end
def uptoSmall : (H : Type) → List (DataW H) → Bool := fun _ ds => decide (uptoBulkAll ds ≤ 1048576)
def OpenSpec.upto (s : _root_.Go.ChangeSpec) : _root_.Go.OpenSpec := { _root_.Go.OpenSpec.ofChange s with cond := some uptoSmall }

/-- 'relucertlaw02.IntegerMake', WHERE WHAT IT READS IS OF BULK AT MOST 1048576: true; the input reads as it did. -/
def integerMakeUptoRow : OpenClaim := { program := "ytjkfnnoakjdgmaa", sum := "0f3b744176c91ef02f9a9a0b2b92dde1ebb6e475cada5acc1cb9da9b9037dc71", func := "relucert/relucertlaw02.IntegerMake", spec := "integerMake", apart := false, narrowed := true }
def IntegerMakeUptoSaid : Prop := integerMakeUptoRow.holds Try.pinned (OpenSpec.upto integerMakeSpec)

/-- 'relucertlaw02.IntegerInt', WHERE WHAT IT READS IS OF BULK AT MOST 1048576: true; the input reads as it did. -/
def integerIntUptoRow : OpenClaim := { program := "ytjkfnnoakjdgmaa", sum := "0f3b744176c91ef02f9a9a0b2b92dde1ebb6e475cada5acc1cb9da9b9037dc71", func := "relucert/relucertlaw02.IntegerInt", spec := "integerInt", apart := false, narrowed := true }
def IntegerIntUptoSaid : Prop := integerIntUptoRow.holds Try.pinned (OpenSpec.upto integerIntSpec)

/-- 'relucertlaw02.IntegerAdd', WHERE WHAT IT READS IS OF BULK AT MOST 1048576: true; the input reads as it did. -/
def integerAddUptoRow : OpenClaim := { program := "ytjkfnnoakjdgmaa", sum := "0f3b744176c91ef02f9a9a0b2b92dde1ebb6e475cada5acc1cb9da9b9037dc71", func := "relucert/relucertlaw02.IntegerAdd", spec := "integerAdd", apart := false, narrowed := true }
def IntegerAddUptoSaid : Prop := integerAddUptoRow.holds Try.pinned (OpenSpec.upto integerAddSpec)

/-- 'relucertlaw02.IntegerMul', WHERE WHAT IT READS IS OF BULK AT MOST 1048576: true; the input reads as it did. -/
def integerMulUptoRow : OpenClaim := { program := "ytjkfnnoakjdgmaa", sum := "0f3b744176c91ef02f9a9a0b2b92dde1ebb6e475cada5acc1cb9da9b9037dc71", func := "relucert/relucertlaw02.IntegerMul", spec := "integerMul", recurses := true, apart := false, narrowed := true }
def IntegerMulUptoSaid : Prop := integerMulUptoRow.holds Try.pinned (OpenSpec.upto integerMulSpec)

/-- 'relucertlaw02.IntegerCompare', WHERE WHAT IT READS IS OF BULK AT MOST 1048576: true; the input reads as it did. -/
def integerCompareUptoRow : OpenClaim := { program := "ytjkfnnoakjdgmaa", sum := "0f3b744176c91ef02f9a9a0b2b92dde1ebb6e475cada5acc1cb9da9b9037dc71", func := "relucert/relucertlaw02.IntegerCompare", spec := "integerCompare", recurses := true, apart := false, narrowed := true }
def IntegerCompareUptoSaid : Prop := integerCompareUptoRow.holds Try.pinned (OpenSpec.upto integerCompareSpec)

/-- 'relucertlaw02.IntegerDivide', WHERE WHAT IT READS IS OF BULK AT MOST 1048576: true; the input reads as it did. -/
def integerDivideUptoRow : OpenClaim := { program := "ytjkfnnoakjdgmaa", sum := "0f3b744176c91ef02f9a9a0b2b92dde1ebb6e475cada5acc1cb9da9b9037dc71", func := "relucert/relucertlaw02.IntegerDivide", spec := "integerDivide", apart := false, narrowed := true }
def IntegerDivideUptoSaid : Prop := integerDivideUptoRow.holds Try.pinned (OpenSpec.upto integerDivideSpec)

/-- 'relucertlaw02.IntegerNeg', WHERE WHAT IT READS IS OF BULK AT MOST 1048576: true; the input reads as it did. -/
def integerNegUptoRow : OpenClaim := { program := "ytjkfnnoakjdgmaa", sum := "0f3b744176c91ef02f9a9a0b2b92dde1ebb6e475cada5acc1cb9da9b9037dc71", func := "relucert/relucertlaw02.IntegerNeg", spec := "integerNeg", apart := false, narrowed := true }
def IntegerNegUptoSaid : Prop := integerNegUptoRow.holds Try.pinned (OpenSpec.upto integerNegSpec)

end Rows
end Go.Proofs.Ytjkfnnoakjdgmaa
