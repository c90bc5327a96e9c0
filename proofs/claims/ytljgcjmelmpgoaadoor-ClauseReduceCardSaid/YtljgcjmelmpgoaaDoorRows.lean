/-
  NARROWER THAN 'FOR EVERY INPUT', by the rows' own cells (each row's printed sentence says how): ClauseMake: laid · ClauseSubsumes: laid · ClauseResolve: laid · ClauseSound: laid · ClauseStatus: laid · ClauseImplies: laid · ClauseReduce: laid · ClauseText: laid.
  DERIVED. THE GIVEN ROWS OF THIS SEAT. 8 by the template 'for every input the law returns true; each argument reads behind the call as it read before'; 0 by the template 'total and deterministic' (their statements: YtljgcjmelmpgoaaDoorTotals.lean).
  GIVEN WITH THE SEED: the statements are not yours to turn. If you find one false, say at which input.
  Laid BY PROGRAM, IN A SANDBOX (cutbox-rows.mjs): the forced cells as the released guide's own fill.sh prints them over the translation f1a86f8ac2e78ed3… (all of the seat's roots in one cut). By AI agents, Wed Nov 11 2026. No macro, syntax, notation, axiom, sorry.
-/
import Derived.Test.YtljgcjmelmpgoaaDoorChecked
import GoSem.Claim
import GoSem.ClaimJoined
import GoSem.ClaimMapViews
import Derived.JoinedTies
import Derived.KernelRfl
namespace Go.Proofs.YtljgcjmelmpgoaaDoor
/- THE CELL 'sum', in the pinned program and in every row, IS THE sha256 OF THE DUMP (.gsa) THAT YtljgcjmelmpgoaaDoorProg.lean LOADS. Nothing in Lean hashes anything: it is a label: what it is worth is what the hold of that sum in a sandbox is worth. -/
noncomputable def Tryd.pinned : Pinned := { name := "ytljgcjmelmpgoaadoor", sum := "f1a86f8ac2e78ed309086ec8bb5490492712caf967029351735a2bb50481fa31", checked := Tryd.checked }
namespace Rows
def none {H : Type} : Left H := { results := [], args := [] }

/- WHAT THE LISTED PACKAGE-LEVEL VARIABLES READ AS WHEN THE CALL BEGINS. Each datum BY PROGRAM (the guide's laid-datum.mjs) off the statement by which the dump's own 'gosem.cut.vars' lays the variable. In a bare row this is a premise. The card (YtljgcjmelmpgoaaDoorCards.lean) ties it to the program's text. -/
def laid_math_bits_deBruijn32tab {H : Type} : DataW H := .agg [.lit (.int .u8 0), .lit (.int .u8 1), .lit (.int .u8 28), .lit (.int .u8 2), .lit (.int .u8 29), .lit (.int .u8 14), .lit (.int .u8 24), .lit (.int .u8 3), .lit (.int .u8 30), .lit (.int .u8 22), .lit (.int .u8 20), .lit (.int .u8 15), .lit (.int .u8 25), .lit (.int .u8 17), .lit (.int .u8 4), .lit (.int .u8 8), .lit (.int .u8 31), .lit (.int .u8 27), .lit (.int .u8 13), .lit (.int .u8 23), .lit (.int .u8 21), .lit (.int .u8 19), .lit (.int .u8 16), .lit (.int .u8 7), .lit (.int .u8 26), .lit (.int .u8 12), .lit (.int .u8 18), .lit (.int .u8 6), .lit (.int .u8 11), .lit (.int .u8 5), .lit (.int .u8 10), .lit (.int .u8 9)]
def laid_math_bits_deBruijn64tab {H : Type} : DataW H := .agg [.lit (.int .u8 0), .lit (.int .u8 1), .lit (.int .u8 56), .lit (.int .u8 2), .lit (.int .u8 57), .lit (.int .u8 49), .lit (.int .u8 28), .lit (.int .u8 3), .lit (.int .u8 61), .lit (.int .u8 58), .lit (.int .u8 42), .lit (.int .u8 50), .lit (.int .u8 38), .lit (.int .u8 29), .lit (.int .u8 17), .lit (.int .u8 4), .lit (.int .u8 62), .lit (.int .u8 47), .lit (.int .u8 59), .lit (.int .u8 36), .lit (.int .u8 45), .lit (.int .u8 43), .lit (.int .u8 51), .lit (.int .u8 22), .lit (.int .u8 53), .lit (.int .u8 39), .lit (.int .u8 33), .lit (.int .u8 30), .lit (.int .u8 24), .lit (.int .u8 18), .lit (.int .u8 12), .lit (.int .u8 5), .lit (.int .u8 63), .lit (.int .u8 55), .lit (.int .u8 48), .lit (.int .u8 27), .lit (.int .u8 60), .lit (.int .u8 41), .lit (.int .u8 37), .lit (.int .u8 16), .lit (.int .u8 46), .lit (.int .u8 35), .lit (.int .u8 44), .lit (.int .u8 21), .lit (.int .u8 52), .lit (.int .u8 32), .lit (.int .u8 23), .lit (.int .u8 11), .lit (.int .u8 54), .lit (.int .u8 26), .lit (.int .u8 40), .lit (.int .u8 15), .lit (.int .u8 34), .lit (.int .u8 20), .lit (.int .u8 31), .lit (.int .u8 10), .lit (.int .u8 25), .lit (.int .u8 14), .lit (.int .u8 19), .lit (.int .u8 9), .lit (.int .u8 13), .lit (.int .u8 8), .lit (.int .u8 7), .lit (.int .u8 6)]
def laid_internal_strconv_uint64pow10 {H : Type} : DataW H := .agg [.lit (.int .u64 1), .lit (.int .u64 10), .lit (.int .u64 100), .lit (.int .u64 1000), .lit (.int .u64 10000), .lit (.int .u64 100000), .lit (.int .u64 1000000), .lit (.int .u64 10000000), .lit (.int .u64 100000000), .lit (.int .u64 1000000000), .lit (.int .u64 10000000000), .lit (.int .u64 100000000000), .lit (.int .u64 1000000000000), .lit (.int .u64 10000000000000), .lit (.int .u64 100000000000000), .lit (.int .u64 1000000000000000), .lit (.int .u64 10000000000000000), .lit (.int .u64 100000000000000000), .lit (.int .u64 1000000000000000000), .lit (.int .u64 10000000000000000000)]

/-- 'relucertlaw35.ClauseMake': WHATEVER THE INPUT: true; the input reads as it did. -/
def clauseMakeSpec : ChangeSpec := { name := "clauseMake", fn := fun _ => fun
  | [d] => { results := [.lit (.bool true)], args := [d] }
  | _ => none }
def clauseMakeRow : OpenClaim := { program := "ytljgcjmelmpgoaadoor", sum := "f1a86f8ac2e78ed309086ec8bb5490492712caf967029351735a2bb50481fa31", func := "relucert/relucertlaw35.ClauseMake", spec := "clauseMake", inPlace := ["internal/abi.NoEscape", "internal/bytealg.MakeNoZero"], unfollowed := true, recurses := true, named := ["internal/strconv.uint64pow10", "math/bits.deBruijn32tab", "math/bits.deBruijn64tab"], apart := false, laid := [("math/bits.deBruijn32tab", laid_math_bits_deBruijn32tab), ("math/bits.deBruijn64tab", laid_math_bits_deBruijn64tab), ("internal/strconv.uint64pow10", laid_internal_strconv_uint64pow10)] }
def ClauseMakeSaid : Prop := clauseMakeRow.holds Tryd.pinned (OpenSpec.ofChange clauseMakeSpec)

/-- ITS FALSE NEIGHBOUR: 'it returns false'. Refute it at one input. -/
def clauseMakeWrong : ChangeSpec := { name := "clauseMake", fn := fun _ => fun
  | [d] => { results := [.lit (.bool false)], args := [d] }
  | _ => none }
def ClauseMakeWrongFalsely : Prop := clauseMakeRow.holds Tryd.pinned (OpenSpec.ofChange clauseMakeWrong)

/-- 'relucertlaw35.ClauseSubsumes': WHATEVER THE INPUT: true; the input reads as it did. -/
def clauseSubsumesSpec : ChangeSpec := { name := "clauseSubsumes", fn := fun _ => fun
  | [d1, d2] => { results := [.lit (.bool true)], args := [d1, d2] }
  | _ => none }
def clauseSubsumesRow : OpenClaim := { program := "ytljgcjmelmpgoaadoor", sum := "f1a86f8ac2e78ed309086ec8bb5490492712caf967029351735a2bb50481fa31", func := "relucert/relucertlaw35.ClauseSubsumes", spec := "clauseSubsumes", inPlace := ["internal/abi.NoEscape", "internal/bytealg.MakeNoZero"], unfollowed := true, recurses := true, named := ["internal/strconv.uint64pow10", "math/bits.deBruijn32tab", "math/bits.deBruijn64tab"], apart := false, laid := [("math/bits.deBruijn32tab", laid_math_bits_deBruijn32tab), ("math/bits.deBruijn64tab", laid_math_bits_deBruijn64tab), ("internal/strconv.uint64pow10", laid_internal_strconv_uint64pow10)] }
def ClauseSubsumesSaid : Prop := clauseSubsumesRow.holds Tryd.pinned (OpenSpec.ofChange clauseSubsumesSpec)

/-- ITS FALSE NEIGHBOUR: 'it returns false'. Refute it at one input. -/
def clauseSubsumesWrong : ChangeSpec := { name := "clauseSubsumes", fn := fun _ => fun
  | [d1, d2] => { results := [.lit (.bool false)], args := [d1, d2] }
  | _ => none }
def ClauseSubsumesWrongFalsely : Prop := clauseSubsumesRow.holds Tryd.pinned (OpenSpec.ofChange clauseSubsumesWrong)

/-- 'relucertlaw35.ClauseResolve': WHATEVER THE INPUT: true; the input reads as it did. -/
def clauseResolveSpec : ChangeSpec := { name := "clauseResolve", fn := fun _ => fun
  | [d1, d2, d3] => { results := [.lit (.bool true)], args := [d1, d2, d3] }
  | _ => none }
def clauseResolveRow : OpenClaim := { program := "ytljgcjmelmpgoaadoor", sum := "f1a86f8ac2e78ed309086ec8bb5490492712caf967029351735a2bb50481fa31", func := "relucert/relucertlaw35.ClauseResolve", spec := "clauseResolve", inPlace := ["internal/abi.NoEscape", "internal/bytealg.MakeNoZero"], unfollowed := true, recurses := true, named := ["internal/strconv.uint64pow10", "math/bits.deBruijn32tab", "math/bits.deBruijn64tab"], apart := false, laid := [("math/bits.deBruijn32tab", laid_math_bits_deBruijn32tab), ("math/bits.deBruijn64tab", laid_math_bits_deBruijn64tab), ("internal/strconv.uint64pow10", laid_internal_strconv_uint64pow10)] }
def ClauseResolveSaid : Prop := clauseResolveRow.holds Tryd.pinned (OpenSpec.ofChange clauseResolveSpec)

/-- ITS FALSE NEIGHBOUR: 'it returns false'. Refute it at one input. -/
def clauseResolveWrong : ChangeSpec := { name := "clauseResolve", fn := fun _ => fun
  | [d1, d2, d3] => { results := [.lit (.bool false)], args := [d1, d2, d3] }
  | _ => none }
def ClauseResolveWrongFalsely : Prop := clauseResolveRow.holds Tryd.pinned (OpenSpec.ofChange clauseResolveWrong)

/-- 'relucertlaw35.ClauseSound': WHATEVER THE INPUT: true; the input reads as it did. -/
def clauseSoundSpec : ChangeSpec := { name := "clauseSound", fn := fun _ => fun
  | [d1, d2, d3] => { results := [.lit (.bool true)], args := [d1, d2, d3] }
  | _ => none }
def clauseSoundRow : OpenClaim := { program := "ytljgcjmelmpgoaadoor", sum := "f1a86f8ac2e78ed309086ec8bb5490492712caf967029351735a2bb50481fa31", func := "relucert/relucertlaw35.ClauseSound", spec := "clauseSound", inPlace := ["internal/abi.NoEscape", "internal/bytealg.MakeNoZero"], unfollowed := true, recurses := true, named := ["internal/strconv.uint64pow10", "math/bits.deBruijn32tab", "math/bits.deBruijn64tab"], apart := false, laid := [("math/bits.deBruijn32tab", laid_math_bits_deBruijn32tab), ("math/bits.deBruijn64tab", laid_math_bits_deBruijn64tab), ("internal/strconv.uint64pow10", laid_internal_strconv_uint64pow10)] }
def ClauseSoundSaid : Prop := clauseSoundRow.holds Tryd.pinned (OpenSpec.ofChange clauseSoundSpec)

/-- ITS FALSE NEIGHBOUR: 'it returns false'. Refute it at one input. -/
def clauseSoundWrong : ChangeSpec := { name := "clauseSound", fn := fun _ => fun
  | [d1, d2, d3] => { results := [.lit (.bool false)], args := [d1, d2, d3] }
  | _ => none }
def ClauseSoundWrongFalsely : Prop := clauseSoundRow.holds Tryd.pinned (OpenSpec.ofChange clauseSoundWrong)

/-- 'relucertlaw35.ClauseStatus': WHATEVER THE INPUT: true; the input reads as it did. -/
def clauseStatusSpec : ChangeSpec := { name := "clauseStatus", fn := fun _ => fun
  | [d1, d2] => { results := [.lit (.bool true)], args := [d1, d2] }
  | _ => none }
def clauseStatusRow : OpenClaim := { program := "ytljgcjmelmpgoaadoor", sum := "f1a86f8ac2e78ed309086ec8bb5490492712caf967029351735a2bb50481fa31", func := "relucert/relucertlaw35.ClauseStatus", spec := "clauseStatus", inPlace := ["internal/abi.NoEscape", "internal/bytealg.MakeNoZero"], unfollowed := true, recurses := true, named := ["internal/strconv.uint64pow10", "math/bits.deBruijn32tab", "math/bits.deBruijn64tab"], apart := false, laid := [("math/bits.deBruijn32tab", laid_math_bits_deBruijn32tab), ("math/bits.deBruijn64tab", laid_math_bits_deBruijn64tab), ("internal/strconv.uint64pow10", laid_internal_strconv_uint64pow10)] }
def ClauseStatusSaid : Prop := clauseStatusRow.holds Tryd.pinned (OpenSpec.ofChange clauseStatusSpec)

/-- ITS FALSE NEIGHBOUR: 'it returns false'. Refute it at one input. -/
def clauseStatusWrong : ChangeSpec := { name := "clauseStatus", fn := fun _ => fun
  | [d1, d2] => { results := [.lit (.bool false)], args := [d1, d2] }
  | _ => none }
def ClauseStatusWrongFalsely : Prop := clauseStatusRow.holds Tryd.pinned (OpenSpec.ofChange clauseStatusWrong)

/-- 'relucertlaw35.ClauseImplies': WHATEVER THE INPUT: true; the input reads as it did. -/
def clauseImpliesSpec : ChangeSpec := { name := "clauseImplies", fn := fun _ => fun
  | [d1, d2] => { results := [.lit (.bool true)], args := [d1, d2] }
  | _ => none }
def clauseImpliesRow : OpenClaim := { program := "ytljgcjmelmpgoaadoor", sum := "f1a86f8ac2e78ed309086ec8bb5490492712caf967029351735a2bb50481fa31", func := "relucert/relucertlaw35.ClauseImplies", spec := "clauseImplies", inPlace := ["internal/abi.NoEscape", "internal/bytealg.MakeNoZero"], unfollowed := true, recurses := true, named := ["internal/strconv.uint64pow10", "math/bits.deBruijn32tab", "math/bits.deBruijn64tab"], apart := false, laid := [("math/bits.deBruijn32tab", laid_math_bits_deBruijn32tab), ("math/bits.deBruijn64tab", laid_math_bits_deBruijn64tab), ("internal/strconv.uint64pow10", laid_internal_strconv_uint64pow10)] }
def ClauseImpliesSaid : Prop := clauseImpliesRow.holds Tryd.pinned (OpenSpec.ofChange clauseImpliesSpec)

/-- ITS FALSE NEIGHBOUR: 'it returns false'. Refute it at one input. -/
def clauseImpliesWrong : ChangeSpec := { name := "clauseImplies", fn := fun _ => fun
  | [d1, d2] => { results := [.lit (.bool false)], args := [d1, d2] }
  | _ => none }
def ClauseImpliesWrongFalsely : Prop := clauseImpliesRow.holds Tryd.pinned (OpenSpec.ofChange clauseImpliesWrong)

/-- 'relucertlaw35.ClauseReduce': WHATEVER THE INPUT: true; the input reads as it did. -/
def clauseReduceSpec : ChangeSpec := { name := "clauseReduce", fn := fun _ => fun
  | [d] => { results := [.lit (.bool true)], args := [d] }
  | _ => none }
def clauseReduceRow : OpenClaim := { program := "ytljgcjmelmpgoaadoor", sum := "f1a86f8ac2e78ed309086ec8bb5490492712caf967029351735a2bb50481fa31", func := "relucert/relucertlaw35.ClauseReduce", spec := "clauseReduce", inPlace := ["internal/abi.NoEscape", "internal/bytealg.MakeNoZero"], unfollowed := true, recurses := true, named := ["internal/strconv.uint64pow10", "math/bits.deBruijn32tab", "math/bits.deBruijn64tab"], apart := false, laid := [("math/bits.deBruijn32tab", laid_math_bits_deBruijn32tab), ("math/bits.deBruijn64tab", laid_math_bits_deBruijn64tab), ("internal/strconv.uint64pow10", laid_internal_strconv_uint64pow10)] }
def ClauseReduceSaid : Prop := clauseReduceRow.holds Tryd.pinned (OpenSpec.ofChange clauseReduceSpec)

/-- ITS FALSE NEIGHBOUR: 'it returns false'. Refute it at one input. -/
def clauseReduceWrong : ChangeSpec := { name := "clauseReduce", fn := fun _ => fun
  | [d] => { results := [.lit (.bool false)], args := [d] }
  | _ => none }
def ClauseReduceWrongFalsely : Prop := clauseReduceRow.holds Tryd.pinned (OpenSpec.ofChange clauseReduceWrong)

/-- 'relucertlaw35.ClauseText': WHATEVER THE INPUT: true; the input reads as it did. -/
def clauseTextSpec : ChangeSpec := { name := "clauseText", fn := fun _ => fun
  | [d1, d2] => { results := [.lit (.bool true)], args := [d1, d2] }
  | _ => none }
def clauseTextRow : OpenClaim := { program := "ytljgcjmelmpgoaadoor", sum := "f1a86f8ac2e78ed309086ec8bb5490492712caf967029351735a2bb50481fa31", func := "relucert/relucertlaw35.ClauseText", spec := "clauseText", inPlace := ["internal/abi.NoEscape", "internal/bytealg.MakeNoZero"], unfollowed := true, recurses := true, named := ["internal/strconv.uint64pow10", "math/bits.deBruijn32tab", "math/bits.deBruijn64tab"], apart := false, laid := [("math/bits.deBruijn32tab", laid_math_bits_deBruijn32tab), ("math/bits.deBruijn64tab", laid_math_bits_deBruijn64tab), ("internal/strconv.uint64pow10", laid_internal_strconv_uint64pow10)] }
def ClauseTextSaid : Prop := clauseTextRow.holds Tryd.pinned (OpenSpec.ofChange clauseTextSpec)

/-- ITS FALSE NEIGHBOUR: 'it returns false'. Refute it at one input. -/
def clauseTextWrong : ChangeSpec := { name := "clauseText", fn := fun _ => fun
  | [d1, d2] => { results := [.lit (.bool false)], args := [d1, d2] }
  | _ => none }
def ClauseTextWrongFalsely : Prop := clauseTextRow.holds Tryd.pinned (OpenSpec.ofChange clauseTextWrong)

/- THE SECOND FORM. 'bulk': how many values and letters a reading holds, each counted each time it is reached (what is shared counts as often as it is met; a slice's spare places count too). A statement '..UptoSaid' is the law's where the arguments, and the package variables that the reading takes, are together of bulk at most 1048576: NARROWER than '..Said'. Prove '..Said' where nothing that the law and all that it calls make is longer than what came in: it says more and counts as full. Else prove '..UptoSaid'. A law counts once. -/
mutual
def uptoBulk {H : Type} : DataW H → Nat
  | .lit (.string bytes) => bytes.length + 1
  | .lit _ => 1
  | .nil => 1
  | .ptr d => uptoBulk d + 1
  | .slice elems spare => uptoBulkAll elems + uptoBulkAll spare + 1
  | .agg parts => uptoBulkAll parts + 1
  | .iface _ d => uptoBulk d + 1
  | .map entries => uptoBulkEntries entries + 1
  | .held _ => 1
def uptoBulkAll {H : Type} : List (DataW H) → Nat
  | [] => 0
  | d :: r => uptoBulk d + uptoBulkAll r
def uptoBulkEntries {H : Type} : List (Lit × DataW H) → Nat
  | [] => 0
  | x :: r => uptoBulkEntry x + uptoBulkEntries r
def uptoBulkEntry {H : Type} : Lit × DataW H → Nat
  | (.string bytes, d) => bytes.length + uptoBulk d + 1
  | (_, d) => uptoBulk d + 1
 end
def uptoSmall : (H : Type) → List (DataW H) → Bool := fun _ ds => decide (uptoBulkAll ds ≤ 1048576)
def OpenSpec.upto (s : _root_.Go.ChangeSpec) : _root_.Go.OpenSpec := { _root_.Go.OpenSpec.ofChange s with cond := some uptoSmall }

/-- 'relucertlaw35.ClauseMake', WHERE WHAT IT READS IS OF BULK AT MOST 1048576: true; the input reads as it did. -/
def clauseMakeUptoRow : OpenClaim := { program := "ytljgcjmelmpgoaadoor", sum := "f1a86f8ac2e78ed309086ec8bb5490492712caf967029351735a2bb50481fa31", func := "relucert/relucertlaw35.ClauseMake", spec := "clauseMake", inPlace := ["internal/abi.NoEscape", "internal/bytealg.MakeNoZero"], unfollowed := true, recurses := true, named := ["internal/strconv.uint64pow10", "math/bits.deBruijn32tab", "math/bits.deBruijn64tab"], apart := false, laid := [("math/bits.deBruijn32tab", laid_math_bits_deBruijn32tab), ("math/bits.deBruijn64tab", laid_math_bits_deBruijn64tab), ("internal/strconv.uint64pow10", laid_internal_strconv_uint64pow10)], narrowed := true }
def ClauseMakeUptoSaid : Prop := clauseMakeUptoRow.holds Tryd.pinned (OpenSpec.upto clauseMakeSpec)

/-- 'relucertlaw35.ClauseSubsumes', WHERE WHAT IT READS IS OF BULK AT MOST 1048576: true; the input reads as it did. -/
def clauseSubsumesUptoRow : OpenClaim := { program := "ytljgcjmelmpgoaadoor", sum := "f1a86f8ac2e78ed309086ec8bb5490492712caf967029351735a2bb50481fa31", func := "relucert/relucertlaw35.ClauseSubsumes", spec := "clauseSubsumes", inPlace := ["internal/abi.NoEscape", "internal/bytealg.MakeNoZero"], unfollowed := true, recurses := true, named := ["internal/strconv.uint64pow10", "math/bits.deBruijn32tab", "math/bits.deBruijn64tab"], apart := false, laid := [("math/bits.deBruijn32tab", laid_math_bits_deBruijn32tab), ("math/bits.deBruijn64tab", laid_math_bits_deBruijn64tab), ("internal/strconv.uint64pow10", laid_internal_strconv_uint64pow10)], narrowed := true }
def ClauseSubsumesUptoSaid : Prop := clauseSubsumesUptoRow.holds Tryd.pinned (OpenSpec.upto clauseSubsumesSpec)

/-- 'relucertlaw35.ClauseResolve', WHERE WHAT IT READS IS OF BULK AT MOST 1048576: true; the input reads as it did. -/
def clauseResolveUptoRow : OpenClaim := { program := "ytljgcjmelmpgoaadoor", sum := "f1a86f8ac2e78ed309086ec8bb5490492712caf967029351735a2bb50481fa31", func := "relucert/relucertlaw35.ClauseResolve", spec := "clauseResolve", inPlace := ["internal/abi.NoEscape", "internal/bytealg.MakeNoZero"], unfollowed := true, recurses := true, named := ["internal/strconv.uint64pow10", "math/bits.deBruijn32tab", "math/bits.deBruijn64tab"], apart := false, laid := [("math/bits.deBruijn32tab", laid_math_bits_deBruijn32tab), ("math/bits.deBruijn64tab", laid_math_bits_deBruijn64tab), ("internal/strconv.uint64pow10", laid_internal_strconv_uint64pow10)], narrowed := true }
def ClauseResolveUptoSaid : Prop := clauseResolveUptoRow.holds Tryd.pinned (OpenSpec.upto clauseResolveSpec)

/-- 'relucertlaw35.ClauseSound', WHERE WHAT IT READS IS OF BULK AT MOST 1048576: true; the input reads as it did. -/
def clauseSoundUptoRow : OpenClaim := { program := "ytljgcjmelmpgoaadoor", sum := "f1a86f8ac2e78ed309086ec8bb5490492712caf967029351735a2bb50481fa31", func := "relucert/relucertlaw35.ClauseSound", spec := "clauseSound", inPlace := ["internal/abi.NoEscape", "internal/bytealg.MakeNoZero"], unfollowed := true, recurses := true, named := ["internal/strconv.uint64pow10", "math/bits.deBruijn32tab", "math/bits.deBruijn64tab"], apart := false, laid := [("math/bits.deBruijn32tab", laid_math_bits_deBruijn32tab), ("math/bits.deBruijn64tab", laid_math_bits_deBruijn64tab), ("internal/strconv.uint64pow10", laid_internal_strconv_uint64pow10)], narrowed := true }
def ClauseSoundUptoSaid : Prop := clauseSoundUptoRow.holds Tryd.pinned (OpenSpec.upto clauseSoundSpec)

/-- 'relucertlaw35.ClauseStatus', WHERE WHAT IT READS IS OF BULK AT MOST 1048576: true; the input reads as it did. -/
def clauseStatusUptoRow : OpenClaim := { program := "ytljgcjmelmpgoaadoor", sum := "f1a86f8ac2e78ed309086ec8bb5490492712caf967029351735a2bb50481fa31", func := "relucert/relucertlaw35.ClauseStatus", spec := "clauseStatus", inPlace := ["internal/abi.NoEscape", "internal/bytealg.MakeNoZero"], unfollowed := true, recurses := true, named := ["internal/strconv.uint64pow10", "math/bits.deBruijn32tab", "math/bits.deBruijn64tab"], apart := false, laid := [("math/bits.deBruijn32tab", laid_math_bits_deBruijn32tab), ("math/bits.deBruijn64tab", laid_math_bits_deBruijn64tab), ("internal/strconv.uint64pow10", laid_internal_strconv_uint64pow10)], narrowed := true }
def ClauseStatusUptoSaid : Prop := clauseStatusUptoRow.holds Tryd.pinned (OpenSpec.upto clauseStatusSpec)

/-- 'relucertlaw35.ClauseImplies', WHERE WHAT IT READS IS OF BULK AT MOST 1048576: true; the input reads as it did. -/
def clauseImpliesUptoRow : OpenClaim := { program := "ytljgcjmelmpgoaadoor", sum := "f1a86f8ac2e78ed309086ec8bb5490492712caf967029351735a2bb50481fa31", func := "relucert/relucertlaw35.ClauseImplies", spec := "clauseImplies", inPlace := ["internal/abi.NoEscape", "internal/bytealg.MakeNoZero"], unfollowed := true, recurses := true, named := ["internal/strconv.uint64pow10", "math/bits.deBruijn32tab", "math/bits.deBruijn64tab"], apart := false, laid := [("math/bits.deBruijn32tab", laid_math_bits_deBruijn32tab), ("math/bits.deBruijn64tab", laid_math_bits_deBruijn64tab), ("internal/strconv.uint64pow10", laid_internal_strconv_uint64pow10)], narrowed := true }
def ClauseImpliesUptoSaid : Prop := clauseImpliesUptoRow.holds Tryd.pinned (OpenSpec.upto clauseImpliesSpec)

/-- 'relucertlaw35.ClauseReduce', WHERE WHAT IT READS IS OF BULK AT MOST 1048576: true; the input reads as it did. -/
def clauseReduceUptoRow : OpenClaim := { program := "ytljgcjmelmpgoaadoor", sum := "f1a86f8ac2e78ed309086ec8bb5490492712caf967029351735a2bb50481fa31", func := "relucert/relucertlaw35.ClauseReduce", spec := "clauseReduce", inPlace := ["internal/abi.NoEscape", "internal/bytealg.MakeNoZero"], unfollowed := true, recurses := true, named := ["internal/strconv.uint64pow10", "math/bits.deBruijn32tab", "math/bits.deBruijn64tab"], apart := false, laid := [("math/bits.deBruijn32tab", laid_math_bits_deBruijn32tab), ("math/bits.deBruijn64tab", laid_math_bits_deBruijn64tab), ("internal/strconv.uint64pow10", laid_internal_strconv_uint64pow10)], narrowed := true }
def ClauseReduceUptoSaid : Prop := clauseReduceUptoRow.holds Tryd.pinned (OpenSpec.upto clauseReduceSpec)

/-- 'relucertlaw35.ClauseText', WHERE WHAT IT READS IS OF BULK AT MOST 1048576: true; the input reads as it did. -/
def clauseTextUptoRow : OpenClaim := { program := "ytljgcjmelmpgoaadoor", sum := "f1a86f8ac2e78ed309086ec8bb5490492712caf967029351735a2bb50481fa31", func := "relucert/relucertlaw35.ClauseText", spec := "clauseText", inPlace := ["internal/abi.NoEscape", "internal/bytealg.MakeNoZero"], unfollowed := true, recurses := true, named := ["internal/strconv.uint64pow10", "math/bits.deBruijn32tab", "math/bits.deBruijn64tab"], apart := false, laid := [("math/bits.deBruijn32tab", laid_math_bits_deBruijn32tab), ("math/bits.deBruijn64tab", laid_math_bits_deBruijn64tab), ("internal/strconv.uint64pow10", laid_internal_strconv_uint64pow10)], narrowed := true }
def ClauseTextUptoSaid : Prop := clauseTextUptoRow.holds Tryd.pinned (OpenSpec.upto clauseTextSpec)

end Rows
end Go.Proofs.YtljgcjmelmpgoaaDoor
