/- What the rows' readings give the walks: bytes, the listed table. -/
import Derived.Test.YtcdkehghdhcokaaDoorRows
import Derived.Test.YtcdkehghdhcokaaDoorW11
import Derived.Test.YtcdkehghdhcokaaDoorX0
import Derived.Test.YtcdkehghdhcokaaDoorRR7
import Derived.ProofKit
import Derived.LaidMore
import Derived.OpenShut
import Derived.Lib.LaidTab
import Derived.SizedLaws
import Derived.Deep.Fields
import Derived.Lib.SmallJoins
namespace Go.Proofs.YtcdkehghdhcokaaDoor.wr
open Go.ChangeShapes Go.WideShapes Go.ChangeAt Go.RowKit Go.Deep
set_option linter.unusedVariables false
theorem own : ownKnob Tryd.prog.godebug = none := by kernel_rfl
theorem laidOut : laidOutB Tryd.prog = true := by kernel_rfl
theorem gTab : Tryd.prog.globalNamed "math/bits.deBruijn64tab" = some 0 := by kernel_rfl
theorem tTab : (Tryd.prog.globals[0]?).map (·.type) = some 100 := by kernel_rfl
def laidL : List (String × DataW Unit) := [("math/bits.deBruijn64tab", Rows.laid_math_bits_deBruijn64tab)]
def tabZ : List Int := Lib.deBruijn64tab.map fun (n : Nat) => (n : Int)
theorem laidL_eq : laidL = [("math/bits.deBruijn64tab", Lib.tabData .u8 tabZ)] := rfl
theorem door_met (os : Os) (args : Array Value) : laidMetH Tryd.prog laidL ((World.doorLaid Tryd.prog 400 os).forCall (fun _ _ => 0) ⟨#[], args, []⟩).memory :=
  laidMetH_of_parts3 (fuel := 8) (laidMet_of_run' 8 (by kernel_rfl) (by kernel_rfl)) (by kernel_rfl) (by kernel_rfl)
theorem tab_of_laid {W : World} (h : laidMetH Tryd.prog laidL W) : Tab W := by
  rw [MakeChecks.laidMetH_plain _ _ _ (by kernel_rfl), laidL_eq] at h
  have hT := Lib.tabIs_of_head gTab tTab Tryd.underlying100 Tryd.underlying5 (by kernel_rfl) (by kernel_rfl) h
  intro j hj
  have := hT.cell gTab j (by simpa [tabZ, Lib.deBruijn64tab] using hj)
  rw [this]
  simp only [tabZ, List.getD_eq_getElem?_getD, List.getElem?_map]
  cases Lib.deBruijn64tab[j]? <;> rfl
theorem wf_u8 {n : Int} (h : (Lit.int .u8 n).wf = true) : 0 ≤ n ∧ n < 256 := by
  have h2 : 0 ≤ n ∧ n ≤ 255 := by simpa [Lit.wf, IntKind.min, IntKind.max, IntKind.signed, IntKind.bits] using h
  omega
set_option maxRecDepth 100000 in
theorem sl_of_trod {H : Type} {enc : TypeId × Value → H} {W : World} {v : Value} {z1 : DataW H × List MemPlace} {n : Nat} (hf : DataW.trod enc Tryd.prog W 0 (fun _ => true) true n 22 [v] = some z1) : ∃ a len cap l, v = .slice a len cap ∧ SlB W a len cap l ∧ Bytes l := by
  rcases open_ints Tryd.underlying22 Tryd.underlying5 (by kernel_rfl) hf with ⟨hcs, _⟩ | ⟨x, len, cap, zs, hcs, _, hl, hm, hz, hx, hcell, hwz⟩
  · simp only [List.cons.injEq, and_true] at hcs
    subst hcs
    exact ⟨none, 0, 0, [], rfl, SlB.nil W, fun x hx => by cases hx⟩
  · simp only [List.cons.injEq, and_true] at hcs
    subst hcs
    have hlen : zs.length = cap := by simpa using hz
    exact ⟨some x, len, cap, zs.take len, rfl, sl_of_row (.inr ⟨x, rfl, hl, hm, hlen, hcell, hwz⟩), fun y hy => wf_u8 (hwz y (List.mem_of_mem_take hy))⟩
set_option maxRecDepth 100000 in
theorem sl_open {H : Type} {enc : TypeId × Value → H} {W : World} {v : Value} {d : DataW H} {p : List MemPlace} {base : Nat}
    (hv : Value.okWide Tryd.prog W .any base 22 v) (h : DataW.Trod enc Tryd.prog W 0 (fun _ => true) true 22 v d p) : ∃ a len cap l, v = .slice a len cap ∧ SlB W a len cap l ∧ Bytes l := by
  obtain ⟨a, len, cap, rfl⟩ := okWide_slice Tryd.underlying22 hv
  obtain ⟨fuel, hf⟩ := h
  exact sl_of_trod hf
end Go.Proofs.YtcdkehghdhcokaaDoor.wr
