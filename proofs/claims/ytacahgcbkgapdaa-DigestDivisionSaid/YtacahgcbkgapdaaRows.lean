/-
  No cell of these rows narrows 'for every input' (looked for: loops, veiled, ifaces, maps, wideKeys, modest, calm, conditions, laid).
  DERIVED. THE GIVEN ROWS OF THIS SEAT. 6 by the template 'for every input the law returns true; each argument reads behind the call as it read before'; 0 by the template 'total and deterministic' (their statements: YtacahgcbkgapdaaTotals.lean).
  GIVEN WITH THE SEED: the statements are not yours to turn. If you find one false, say at which input.
  Laid BY PROGRAM, IN A SANDBOX (cutbox-rows.mjs): the forced cells as the released guide's own fill.sh prints them over the translation 55c35e98cdf1f74e… (all of the seat's roots in one cut). By AI agents, Wed Nov 11 2026. No macro, syntax, notation, axiom, sorry.
-/
import Derived.Test.YtacahgcbkgapdaaChecked
import GoSem.Claim
import GoSem.ClaimJoined
import GoSem.ClaimMapViews
import Derived.JoinedTies
import Derived.KernelRfl
namespace Go.Proofs.Ytacahgcbkgapdaa
/- THE CELL 'sum', in the pinned program and in every row, IS THE sha256 OF THE DUMP (.gsa) THAT YtacahgcbkgapdaaProg.lean LOADS. Nothing in Lean hashes anything: it is a label: what it is worth is what the hold of that sum in a sandbox is worth. -/
noncomputable def Try.pinned : Pinned := { name := "ytacahgcbkgapdaa", sum := "55c35e98cdf1f74ebc9d54338bc761364026ada71c2b88b98b72ebccddb45995", checked := Try.checked }
namespace Rows
def none {H : Type} : Left H := { results := [], args := [] }

/-- 'relucertlaw09.DigestSum': WHATEVER THE INPUT: true; the input reads as it did. -/
def digestSumSpec : ChangeSpec := { name := "digestSum", fn := fun _ => fun
  | [d] => { results := [.lit (.bool true)], args := [d] }
  | _ => none }
def digestSumRow : OpenClaim := { program := "ytacahgcbkgapdaa", sum := "55c35e98cdf1f74ebc9d54338bc761364026ada71c2b88b98b72ebccddb45995", func := "relucert/relucertlaw09.DigestSum", spec := "digestSum", recurses := true, apart := false }
def DigestSumSaid : Prop := digestSumRow.holds Try.pinned (OpenSpec.ofChange digestSumSpec)

/-- ITS FALSE NEIGHBOUR: 'it returns false'. Refute it at one input. -/
def digestSumWrong : ChangeSpec := { name := "digestSum", fn := fun _ => fun
  | [d] => { results := [.lit (.bool false)], args := [d] }
  | _ => none }
def DigestSumWrongFalsely : Prop := digestSumRow.holds Try.pinned (OpenSpec.ofChange digestSumWrong)

/-- 'relucertlaw09.DigestLengths': WHATEVER THE INPUT: true; the input reads as it did. -/
def digestLengthsSpec : ChangeSpec := { name := "digestLengths", fn := fun _ => fun
  | [d1, d2] => { results := [.lit (.bool true)], args := [d1, d2] }
  | _ => none }
def digestLengthsRow : OpenClaim := { program := "ytacahgcbkgapdaa", sum := "55c35e98cdf1f74ebc9d54338bc761364026ada71c2b88b98b72ebccddb45995", func := "relucert/relucertlaw09.DigestLengths", spec := "digestLengths", recurses := true, apart := false }
def DigestLengthsSaid : Prop := digestLengthsRow.holds Try.pinned (OpenSpec.ofChange digestLengthsSpec)

/-- ITS FALSE NEIGHBOUR: 'it returns false'. Refute it at one input. -/
def digestLengthsWrong : ChangeSpec := { name := "digestLengths", fn := fun _ => fun
  | [d1, d2] => { results := [.lit (.bool false)], args := [d1, d2] }
  | _ => none }
def DigestLengthsWrongFalsely : Prop := digestLengthsRow.holds Try.pinned (OpenSpec.ofChange digestLengthsWrong)

/-- 'relucertlaw09.DigestDivision': WHATEVER THE INPUT: true; the input reads as it did. -/
def digestDivisionSpec : ChangeSpec := { name := "digestDivision", fn := fun _ => fun
  | [d] => { results := [.lit (.bool true)], args := [d] }
  | _ => none }
def digestDivisionRow : OpenClaim := { program := "ytacahgcbkgapdaa", sum := "55c35e98cdf1f74ebc9d54338bc761364026ada71c2b88b98b72ebccddb45995", func := "relucert/relucertlaw09.DigestDivision", spec := "digestDivision", recurses := true, apart := false }
def DigestDivisionSaid : Prop := digestDivisionRow.holds Try.pinned (OpenSpec.ofChange digestDivisionSpec)

/-- ITS FALSE NEIGHBOUR: 'it returns false'. Refute it at one input. -/
def digestDivisionWrong : ChangeSpec := { name := "digestDivision", fn := fun _ => fun
  | [d] => { results := [.lit (.bool false)], args := [d] }
  | _ => none }
def DigestDivisionWrongFalsely : Prop := digestDivisionRow.holds Try.pinned (OpenSpec.ofChange digestDivisionWrong)

/-- 'relucertlaw09.DigestClone': WHATEVER THE INPUT: true; the input reads as it did. -/
def digestCloneSpec : ChangeSpec := { name := "digestClone", fn := fun _ => fun
  | [d1, d2, d3] => { results := [.lit (.bool true)], args := [d1, d2, d3] }
  | _ => none }
def digestCloneRow : OpenClaim := { program := "ytacahgcbkgapdaa", sum := "55c35e98cdf1f74ebc9d54338bc761364026ada71c2b88b98b72ebccddb45995", func := "relucert/relucertlaw09.DigestClone", spec := "digestClone", recurses := true, apart := false }
def DigestCloneSaid : Prop := digestCloneRow.holds Try.pinned (OpenSpec.ofChange digestCloneSpec)

/-- ITS FALSE NEIGHBOUR: 'it returns false'. Refute it at one input. -/
def digestCloneWrong : ChangeSpec := { name := "digestClone", fn := fun _ => fun
  | [d1, d2, d3] => { results := [.lit (.bool false)], args := [d1, d2, d3] }
  | _ => none }
def DigestCloneWrongFalsely : Prop := digestCloneRow.holds Try.pinned (OpenSpec.ofChange digestCloneWrong)

/-- 'relucertlaw09.DigestNil': WHATEVER THE INPUT: true; the input reads as it did. -/
def digestNilSpec : ChangeSpec := { name := "digestNil", fn := fun _ => fun
  | [d] => { results := [.lit (.bool true)], args := [d] }
  | _ => none }
def digestNilRow : OpenClaim := { program := "ytacahgcbkgapdaa", sum := "55c35e98cdf1f74ebc9d54338bc761364026ada71c2b88b98b72ebccddb45995", func := "relucert/relucertlaw09.DigestNil", spec := "digestNil", recurses := true, apart := false }
def DigestNilSaid : Prop := digestNilRow.holds Try.pinned (OpenSpec.ofChange digestNilSpec)

/-- ITS FALSE NEIGHBOUR: 'it returns false'. Refute it at one input. -/
def digestNilWrong : ChangeSpec := { name := "digestNil", fn := fun _ => fun
  | [d] => { results := [.lit (.bool false)], args := [d] }
  | _ => none }
def DigestNilWrongFalsely : Prop := digestNilRow.holds Try.pinned (OpenSpec.ofChange digestNilWrong)

/-- 'relucertlaw09.DigestPrefixes': WHATEVER THE INPUT: true; the input reads as it did. -/
def digestPrefixesSpec : ChangeSpec := { name := "digestPrefixes", fn := fun _ => fun
  | [d] => { results := [.lit (.bool true)], args := [d] }
  | _ => none }
def digestPrefixesRow : OpenClaim := { program := "ytacahgcbkgapdaa", sum := "55c35e98cdf1f74ebc9d54338bc761364026ada71c2b88b98b72ebccddb45995", func := "relucert/relucertlaw09.DigestPrefixes", spec := "digestPrefixes", recurses := true, apart := false }
def DigestPrefixesSaid : Prop := digestPrefixesRow.holds Try.pinned (OpenSpec.ofChange digestPrefixesSpec)

/-- ITS FALSE NEIGHBOUR: 'it returns false'. Refute it at one input. -/
def digestPrefixesWrong : ChangeSpec := { name := "digestPrefixes", fn := fun _ => fun
  | [d] => { results := [.lit (.bool false)], args := [d] }
  | _ => none }
def DigestPrefixesWrongFalsely : Prop := digestPrefixesRow.holds Try.pinned (OpenSpec.ofChange digestPrefixesWrong)

/- THE SECOND FORM. 'bulk': how many values and letters a reading holds, each counted each time it is reached (what is shared counts as often as it is met; a slice's spare places count too). A statement '..UptoSaid' is the law's where the arguments, and the package variables that the reading takes, are together of bulk at most 1048576: NARROWER than '..Said'. Prove '..Said' where nothing that the law and all that it calls make is longer than what came in: it says more and counts as full. Else prove '..UptoSaid'. A law counts once. -/
mutual
def uptoBulk {H : Type} : DataW H → Nat
  | .lit (.string bytes) => bytes.length + 1
  | .lit _ => 1
  | .nil => 1
  | .ptr d => uptoBulk d + 1
  | .slice elems spare => uptoBulkAll elems + uptoBulkAll spare + 1
  | .agg parts => uptoBulkAll parts + 1
  | .iface _ d => uptoBulk d + 1
  | .map entries => uptoBulkEntries entries + 1
  | .held _ => 1
def uptoBulkAll {H : Type} : List (DataW H) → Nat
  | [] => 0
  | d :: r => uptoBulk d + uptoBulkAll r
def uptoBulkEntries {H : Type} : List (Lit × DataW H) → Nat
  | [] => 0
  | x :: r => uptoBulkEntry x + uptoBulkEntries r
def uptoBulkEntry {H : Type} : Lit × DataW H → Nat
  | (.string bytes, d) => bytes.length + uptoBulk d + 1
  | (_, d) => uptoBulk d + 1
 end
def uptoSmall : (H : Type) → List (DataW H) → Bool := fun _ ds => decide (uptoBulkAll ds ≤ 1048576)
def OpenSpec.upto (s : _root_.Go.ChangeSpec) : _root_.Go.OpenSpec := { _root_.Go.OpenSpec.ofChange s with cond := some uptoSmall }

/-- 'relucertlaw09.DigestSum', WHERE WHAT IT READS IS OF BULK AT MOST 1048576: true; the input reads as it did. -/
def digestSumUptoRow : OpenClaim := { program := "ytacahgcbkgapdaa", sum := "55c35e98cdf1f74ebc9d54338bc761364026ada71c2b88b98b72ebccddb45995", func := "relucert/relucertlaw09.DigestSum", spec := "digestSum", recurses := true, apart := false, narrowed := true }
def DigestSumUptoSaid : Prop := digestSumUptoRow.holds Try.pinned (OpenSpec.upto digestSumSpec)

/-- 'relucertlaw09.DigestLengths', WHERE WHAT IT READS IS OF BULK AT MOST 1048576: true; the input reads as it did. -/
def digestLengthsUptoRow : OpenClaim := { program := "ytacahgcbkgapdaa", sum := "55c35e98cdf1f74ebc9d54338bc761364026ada71c2b88b98b72ebccddb45995", func := "relucert/relucertlaw09.DigestLengths", spec := "digestLengths", recurses := true, apart := false, narrowed := true }
def DigestLengthsUptoSaid : Prop := digestLengthsUptoRow.holds Try.pinned (OpenSpec.upto digestLengthsSpec)

/-- 'relucertlaw09.DigestDivision', WHERE WHAT IT READS IS OF BULK AT MOST 1048576: true; the input reads as it did. -/
def digestDivisionUptoRow : OpenClaim := { program := "ytacahgcbkgapdaa", sum := "55c35e98cdf1f74ebc9d54338bc761364026ada71c2b88b98b72ebccddb45995", func := "relucert/relucertlaw09.DigestDivision", spec := "digestDivision", recurses := true, apart := false, narrowed := true }
def DigestDivisionUptoSaid : Prop := digestDivisionUptoRow.holds Try.pinned (OpenSpec.upto digestDivisionSpec)

/-- 'relucertlaw09.DigestClone', WHERE WHAT IT READS IS OF BULK AT MOST 1048576: true; the input reads as it did. -/
def digestCloneUptoRow : OpenClaim := { program := "ytacahgcbkgapdaa", sum := "55c35e98cdf1f74ebc9d54338bc761364026ada71c2b88b98b72ebccddb45995", func := "relucert/relucertlaw09.DigestClone", spec := "digestClone", recurses := true, apart := false, narrowed := true }
def DigestCloneUptoSaid : Prop := digestCloneUptoRow.holds Try.pinned (OpenSpec.upto digestCloneSpec)

/-- 'relucertlaw09.DigestNil', WHERE WHAT IT READS IS OF BULK AT MOST 1048576: true; the input reads as it did. -/
def digestNilUptoRow : OpenClaim := { program := "ytacahgcbkgapdaa", sum := "55c35e98cdf1f74ebc9d54338bc761364026ada71c2b88b98b72ebccddb45995", func := "relucert/relucertlaw09.DigestNil", spec := "digestNil", recurses := true, apart := false, narrowed := true }
def DigestNilUptoSaid : Prop := digestNilUptoRow.holds Try.pinned (OpenSpec.upto digestNilSpec)

/-- 'relucertlaw09.DigestPrefixes', WHERE WHAT IT READS IS OF BULK AT MOST 1048576: true; the input reads as it did. -/
def digestPrefixesUptoRow : OpenClaim := { program := "ytacahgcbkgapdaa", sum := "55c35e98cdf1f74ebc9d54338bc761364026ada71c2b88b98b72ebccddb45995", func := "relucert/relucertlaw09.DigestPrefixes", spec := "digestPrefixes", recurses := true, apart := false, narrowed := true }
def DigestPrefixesUptoSaid : Prop := digestPrefixesUptoRow.holds Try.pinned (OpenSpec.upto digestPrefixesSpec)

end Rows
end Go.Proofs.Ytacahgcbkgapdaa
