/-
  No cell of these rows narrows 'for every input' (looked for: loops, veiled, ifaces, maps, wideKeys, modest, calm, conditions, laid).
  DERIVED. THE GIVEN ROWS OF THIS SEAT. 8 by the template 'for every input the law returns true; each argument reads behind the call as it read before'; 0 by the template 'total and deterministic' (their statements: YtlbmllhjmgccaaaTotals.lean).
  GIVEN WITH THE SEED: the statements are not yours to turn. If you find one false, say at which input.
  Laid BY PROGRAM, IN A SANDBOX (cutbox-rows.mjs): the forced cells as the released guide's own fill.sh prints them over the translation f1ff4082e7c3b091… (all of the seat's roots in one cut). By AI agents, Wed Nov 11 2026. No macro, syntax, notation, axiom, sorry.
-/
import Derived.Test.YtlbmllhjmgccaaaChecked
import GoSem.Claim
import GoSem.ClaimJoined
import GoSem.ClaimMapViews
import Derived.JoinedTies
import Derived.KernelRfl
namespace Go.Proofs.Ytlbmllhjmgccaaa
/- THE CELL 'sum', in the pinned program and in every row, IS THE sha256 OF THE DUMP (.gsa) THAT YtlbmllhjmgccaaaProg.lean LOADS. Nothing in Lean hashes anything: it is a label: what it is worth is what the hold of that sum in a sandbox is worth. -/
noncomputable def Try.pinned : Pinned := { name := "ytlbmllhjmgccaaa", sum := "f1ff4082e7c3b0917007ae0e2a55b59c576d4a14363985dd903b4c275633b4e9", checked := Try.checked }
namespace Rows
def none {H : Type} : Left H := { results := [], args := [] }

/-- 'relucertlaw11.TensorValid': WHATEVER THE INPUT: true; the input reads as it did. -/
def tensorValidSpec : ChangeSpec := { name := "tensorValid", fn := fun _ => fun
  | [d] => { results := [.lit (.bool true)], args := [d] }
  | _ => none }
def tensorValidRow : OpenClaim := { program := "ytlbmllhjmgccaaa", sum := "f1ff4082e7c3b0917007ae0e2a55b59c576d4a14363985dd903b4c275633b4e9", func := "relucert/relucertlaw11.TensorValid", spec := "tensorValid", apart := false }
def TensorValidSaid : Prop := tensorValidRow.holds Try.pinned (OpenSpec.ofChange tensorValidSpec)

/-- ITS FALSE NEIGHBOUR: 'it returns false'. Refute it at one input. -/
def tensorValidWrong : ChangeSpec := { name := "tensorValid", fn := fun _ => fun
  | [d] => { results := [.lit (.bool false)], args := [d] }
  | _ => none }
def TensorValidWrongFalsely : Prop := tensorValidRow.holds Try.pinned (OpenSpec.ofChange tensorValidWrong)

/-- 'relucertlaw11.TensorIndex': WHATEVER THE INPUT: true; the input reads as it did. -/
def tensorIndexSpec : ChangeSpec := { name := "tensorIndex", fn := fun _ => fun
  | [d1, d2] => { results := [.lit (.bool true)], args := [d1, d2] }
  | _ => none }
def tensorIndexRow : OpenClaim := { program := "ytlbmllhjmgccaaa", sum := "f1ff4082e7c3b0917007ae0e2a55b59c576d4a14363985dd903b4c275633b4e9", func := "relucert/relucertlaw11.TensorIndex", spec := "tensorIndex", apart := false }
def TensorIndexSaid : Prop := tensorIndexRow.holds Try.pinned (OpenSpec.ofChange tensorIndexSpec)

/-- ITS FALSE NEIGHBOUR: 'it returns false'. Refute it at one input. -/
def tensorIndexWrong : ChangeSpec := { name := "tensorIndex", fn := fun _ => fun
  | [d1, d2] => { results := [.lit (.bool false)], args := [d1, d2] }
  | _ => none }
def TensorIndexWrongFalsely : Prop := tensorIndexRow.holds Try.pinned (OpenSpec.ofChange tensorIndexWrong)

/-- 'relucertlaw11.TensorAt': WHATEVER THE INPUT: true; the input reads as it did. -/
def tensorAtSpec : ChangeSpec := { name := "tensorAt", fn := fun _ => fun
  | [d1, d2] => { results := [.lit (.bool true)], args := [d1, d2] }
  | _ => none }
def tensorAtRow : OpenClaim := { program := "ytlbmllhjmgccaaa", sum := "f1ff4082e7c3b0917007ae0e2a55b59c576d4a14363985dd903b4c275633b4e9", func := "relucert/relucertlaw11.TensorAt", spec := "tensorAt", apart := false }
def TensorAtSaid : Prop := tensorAtRow.holds Try.pinned (OpenSpec.ofChange tensorAtSpec)

/-- ITS FALSE NEIGHBOUR: 'it returns false'. Refute it at one input. -/
def tensorAtWrong : ChangeSpec := { name := "tensorAt", fn := fun _ => fun
  | [d1, d2] => { results := [.lit (.bool false)], args := [d1, d2] }
  | _ => none }
def TensorAtWrongFalsely : Prop := tensorAtRow.holds Try.pinned (OpenSpec.ofChange tensorAtWrong)

/-- 'relucertlaw11.TensorInverse': WHATEVER THE INPUT: true; the input reads as it did. -/
def tensorInverseSpec : ChangeSpec := { name := "tensorInverse", fn := fun _ => fun
  | [d] => { results := [.lit (.bool true)], args := [d] }
  | _ => none }
def tensorInverseRow : OpenClaim := { program := "ytlbmllhjmgccaaa", sum := "f1ff4082e7c3b0917007ae0e2a55b59c576d4a14363985dd903b4c275633b4e9", func := "relucert/relucertlaw11.TensorInverse", spec := "tensorInverse", apart := false }
def TensorInverseSaid : Prop := tensorInverseRow.holds Try.pinned (OpenSpec.ofChange tensorInverseSpec)

/-- ITS FALSE NEIGHBOUR: 'it returns false'. Refute it at one input. -/
def tensorInverseWrong : ChangeSpec := { name := "tensorInverse", fn := fun _ => fun
  | [d] => { results := [.lit (.bool false)], args := [d] }
  | _ => none }
def TensorInverseWrongFalsely : Prop := tensorInverseRow.holds Try.pinned (OpenSpec.ofChange tensorInverseWrong)

/-- 'relucertlaw11.TensorAll': WHATEVER THE INPUT: true; the input reads as it did. -/
def tensorAllSpec : ChangeSpec := { name := "tensorAll", fn := fun _ => fun
  | [d1, d2] => { results := [.lit (.bool true)], args := [d1, d2] }
  | _ => none }
def tensorAllRow : OpenClaim := { program := "ytlbmllhjmgccaaa", sum := "f1ff4082e7c3b0917007ae0e2a55b59c576d4a14363985dd903b4c275633b4e9", func := "relucert/relucertlaw11.TensorAll", spec := "tensorAll", unfollowed := true, recurses := true, apart := false }
def TensorAllSaid : Prop := tensorAllRow.holds Try.pinned (OpenSpec.ofChange tensorAllSpec)

/-- ITS FALSE NEIGHBOUR: 'it returns false'. Refute it at one input. -/
def tensorAllWrong : ChangeSpec := { name := "tensorAll", fn := fun _ => fun
  | [d1, d2] => { results := [.lit (.bool false)], args := [d1, d2] }
  | _ => none }
def TensorAllWrongFalsely : Prop := tensorAllRow.holds Try.pinned (OpenSpec.ofChange tensorAllWrong)

/-- 'relucertlaw11.TensorWindows': WHATEVER THE INPUT: true; the input reads as it did. -/
def tensorWindowsSpec : ChangeSpec := { name := "tensorWindows", fn := fun _ => fun
  | [d] => { results := [.lit (.bool true)], args := [d] }
  | _ => none }
def tensorWindowsRow : OpenClaim := { program := "ytlbmllhjmgccaaa", sum := "f1ff4082e7c3b0917007ae0e2a55b59c576d4a14363985dd903b4c275633b4e9", func := "relucert/relucertlaw11.TensorWindows", spec := "tensorWindows", apart := false }
def TensorWindowsSaid : Prop := tensorWindowsRow.holds Try.pinned (OpenSpec.ofChange tensorWindowsSpec)

/-- ITS FALSE NEIGHBOUR: 'it returns false'. Refute it at one input. -/
def tensorWindowsWrong : ChangeSpec := { name := "tensorWindows", fn := fun _ => fun
  | [d] => { results := [.lit (.bool false)], args := [d] }
  | _ => none }
def TensorWindowsWrongFalsely : Prop := tensorWindowsRow.holds Try.pinned (OpenSpec.ofChange tensorWindowsWrong)

/-- 'relucertlaw11.TensorCover': WHATEVER THE INPUT: true; the input reads as it did. -/
def tensorCoverSpec : ChangeSpec := { name := "tensorCover", fn := fun _ => fun
  | [d] => { results := [.lit (.bool true)], args := [d] }
  | _ => none }
def tensorCoverRow : OpenClaim := { program := "ytlbmllhjmgccaaa", sum := "f1ff4082e7c3b0917007ae0e2a55b59c576d4a14363985dd903b4c275633b4e9", func := "relucert/relucertlaw11.TensorCover", spec := "tensorCover", apart := false }
def TensorCoverSaid : Prop := tensorCoverRow.holds Try.pinned (OpenSpec.ofChange tensorCoverSpec)

/-- ITS FALSE NEIGHBOUR: 'it returns false'. Refute it at one input. -/
def tensorCoverWrong : ChangeSpec := { name := "tensorCover", fn := fun _ => fun
  | [d] => { results := [.lit (.bool false)], args := [d] }
  | _ => none }
def TensorCoverWrongFalsely : Prop := tensorCoverRow.holds Try.pinned (OpenSpec.ofChange tensorCoverWrong)

/-- 'relucertlaw11.TensorNext': WHATEVER THE INPUT: true; the input reads as it did. -/
def tensorNextSpec : ChangeSpec := { name := "tensorNext", fn := fun _ => fun
  | [d] => { results := [.lit (.bool true)], args := [d] }
  | _ => none }
def tensorNextRow : OpenClaim := { program := "ytlbmllhjmgccaaa", sum := "f1ff4082e7c3b0917007ae0e2a55b59c576d4a14363985dd903b4c275633b4e9", func := "relucert/relucertlaw11.TensorNext", spec := "tensorNext", apart := false }
def TensorNextSaid : Prop := tensorNextRow.holds Try.pinned (OpenSpec.ofChange tensorNextSpec)

/-- ITS FALSE NEIGHBOUR: 'it returns false'. Refute it at one input. -/
def tensorNextWrong : ChangeSpec := { name := "tensorNext", fn := fun _ => fun
  | [d] => { results := [.lit (.bool false)], args := [d] }
  | _ => none }
def TensorNextWrongFalsely : Prop := tensorNextRow.holds Try.pinned (OpenSpec.ofChange tensorNextWrong)

/- THE SECOND FORM. 'bulk': how many values and letters a reading holds, each counted each time it is reached (what is shared counts as often as it is met; a slice's spare places count too). A statement '..UptoSaid' is the law's where the arguments, and the package variables that the reading takes, are together of bulk at most 1048576: NARROWER than '..Said'. Prove '..Said' where nothing that the law and all that it calls make is longer than what came in: it says more and counts as full. Else prove '..UptoSaid'. A law counts once. -/
mutual
def uptoBulk {H : Type} : DataW H → Nat
  | .lit (.string bytes) => bytes.length + 1
  | .lit _ => 1
  | .nil => 1
  | .ptr d => uptoBulk d + 1
  | .slice elems spare => uptoBulkAll elems + uptoBulkAll spare + 1
  | .agg parts => uptoBulkAll parts + 1
  | .iface _ d => uptoBulk d + 1
  | .map entries => uptoBulkEntries entries + 1
  | .held _ => 1
def uptoBulkAll {H : Type} : List (DataW H) → Nat
  | [] => 0
  | d :: r => uptoBulk d + uptoBulkAll r
def uptoBulkEntries {H : Type} : List (Lit × DataW H) → Nat
  | [] => 0
  | x :: r => uptoBulkEntry x + uptoBulkEntries r
def uptoBulkEntry {H : Type} : Lit × DataW H → Nat
  | (.string bytes, d) => bytes.length + uptoBulk d + 1
  | (_, d) => uptoBulk d + 1
 end
def uptoSmall : (H : Type) → List (DataW H) → Bool := fun _ ds => decide (uptoBulkAll ds ≤ 1048576)
def OpenSpec.upto (s : _root_.Go.ChangeSpec) : _root_.Go.OpenSpec := { _root_.Go.OpenSpec.ofChange s with cond := some uptoSmall }

/-- 'relucertlaw11.TensorValid', WHERE WHAT IT READS IS OF BULK AT MOST 1048576: true; the input reads as it did. -/
def tensorValidUptoRow : OpenClaim := { program := "ytlbmllhjmgccaaa", sum := "f1ff4082e7c3b0917007ae0e2a55b59c576d4a14363985dd903b4c275633b4e9", func := "relucert/relucertlaw11.TensorValid", spec := "tensorValid", apart := false, narrowed := true }
def TensorValidUptoSaid : Prop := tensorValidUptoRow.holds Try.pinned (OpenSpec.upto tensorValidSpec)

/-- 'relucertlaw11.TensorIndex', WHERE WHAT IT READS IS OF BULK AT MOST 1048576: true; the input reads as it did. -/
def tensorIndexUptoRow : OpenClaim := { program := "ytlbmllhjmgccaaa", sum := "f1ff4082e7c3b0917007ae0e2a55b59c576d4a14363985dd903b4c275633b4e9", func := "relucert/relucertlaw11.TensorIndex", spec := "tensorIndex", apart := false, narrowed := true }
def TensorIndexUptoSaid : Prop := tensorIndexUptoRow.holds Try.pinned (OpenSpec.upto tensorIndexSpec)

/-- 'relucertlaw11.TensorAt', WHERE WHAT IT READS IS OF BULK AT MOST 1048576: true; the input reads as it did. -/
def tensorAtUptoRow : OpenClaim := { program := "ytlbmllhjmgccaaa", sum := "f1ff4082e7c3b0917007ae0e2a55b59c576d4a14363985dd903b4c275633b4e9", func := "relucert/relucertlaw11.TensorAt", spec := "tensorAt", apart := false, narrowed := true }
def TensorAtUptoSaid : Prop := tensorAtUptoRow.holds Try.pinned (OpenSpec.upto tensorAtSpec)

/-- 'relucertlaw11.TensorInverse', WHERE WHAT IT READS IS OF BULK AT MOST 1048576: true; the input reads as it did. -/
def tensorInverseUptoRow : OpenClaim := { program := "ytlbmllhjmgccaaa", sum := "f1ff4082e7c3b0917007ae0e2a55b59c576d4a14363985dd903b4c275633b4e9", func := "relucert/relucertlaw11.TensorInverse", spec := "tensorInverse", apart := false, narrowed := true }
def TensorInverseUptoSaid : Prop := tensorInverseUptoRow.holds Try.pinned (OpenSpec.upto tensorInverseSpec)

/-- 'relucertlaw11.TensorAll', WHERE WHAT IT READS IS OF BULK AT MOST 1048576: true; the input reads as it did. -/
def tensorAllUptoRow : OpenClaim := { program := "ytlbmllhjmgccaaa", sum := "f1ff4082e7c3b0917007ae0e2a55b59c576d4a14363985dd903b4c275633b4e9", func := "relucert/relucertlaw11.TensorAll", spec := "tensorAll", unfollowed := true, recurses := true, apart := false, narrowed := true }
def TensorAllUptoSaid : Prop := tensorAllUptoRow.holds Try.pinned (OpenSpec.upto tensorAllSpec)

/-- 'relucertlaw11.TensorWindows', WHERE WHAT IT READS IS OF BULK AT MOST 1048576: true; the input reads as it did. -/
def tensorWindowsUptoRow : OpenClaim := { program := "ytlbmllhjmgccaaa", sum := "f1ff4082e7c3b0917007ae0e2a55b59c576d4a14363985dd903b4c275633b4e9", func := "relucert/relucertlaw11.TensorWindows", spec := "tensorWindows", apart := false, narrowed := true }
def TensorWindowsUptoSaid : Prop := tensorWindowsUptoRow.holds Try.pinned (OpenSpec.upto tensorWindowsSpec)

/-- 'relucertlaw11.TensorCover', WHERE WHAT IT READS IS OF BULK AT MOST 1048576: true; the input reads as it did. -/
def tensorCoverUptoRow : OpenClaim := { program := "ytlbmllhjmgccaaa", sum := "f1ff4082e7c3b0917007ae0e2a55b59c576d4a14363985dd903b4c275633b4e9", func := "relucert/relucertlaw11.TensorCover", spec := "tensorCover", apart := false, narrowed := true }
def TensorCoverUptoSaid : Prop := tensorCoverUptoRow.holds Try.pinned (OpenSpec.upto tensorCoverSpec)

/-- 'relucertlaw11.TensorNext', WHERE WHAT IT READS IS OF BULK AT MOST 1048576: true; the input reads as it did. -/
def tensorNextUptoRow : OpenClaim := { program := "ytlbmllhjmgccaaa", sum := "f1ff4082e7c3b0917007ae0e2a55b59c576d4a14363985dd903b4c275633b4e9", func := "relucert/relucertlaw11.TensorNext", spec := "tensorNext", apart := false, narrowed := true }
def TensorNextUptoSaid : Prop := tensorNextUptoRow.holds Try.pinned (OpenSpec.upto tensorNextSpec)

end Rows
end Go.Proofs.Ytlbmllhjmgccaaa
