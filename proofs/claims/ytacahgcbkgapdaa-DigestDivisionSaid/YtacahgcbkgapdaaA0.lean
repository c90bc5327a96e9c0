/- Rows of memory; words of 32 bits. -/
import Derived.Test.YtacahgcbkgapdaaChecked
import Derived.WalkKit
import Derived.ProofKit
import Derived.BigQuiet
import Derived.BigRegion
import Derived.Deep.QuietTactic
import Derived.Deep.MidRow
import Derived.Outline
import Derived.Lib.Hide
import Derived.Laws.CopyOwn
import Derived.Deep.RegionLaw
import Derived.Deep.DeepCutAuto
namespace Go.Proofs.Ytacahgcbkgapdaa
open Go.RowKit
set_option linter.unusedVariables false

/-- block g is of type t and holds these cells -/
def Row (w : World) (g : Nat) (t : TypeId) (cs : List Value) : Prop := w.heap[g]? = some (.cells cs.toArray t (0, 0))
theorem Row.lt {w : World} {g : Nat} {t : TypeId} {cs : List Value} (h : Row w g t cs) : g < w.heap.size := (Array.getElem?_eq_some_iff.1 h).1
theorem Row.cell {w : World} {g : Nat} {t : TypeId} {cs : List Value} (h : Row w g t cs) (i : Nat) {v : Value} (hv : cs[i]? = some v) : w.cell? ⟨g, i, none⟩ = some v := by
  rw [cell_of_row w g i cs.toArray t (0, 0) h]; simpa using hv
theorem Row.frozen {w : World} {g : Nat} {t : TypeId} {cs : List Value} (h : Row w g t cs) (i : Nat) : w.frozen? ⟨g, i, none⟩ = false := frozen_of_row w g i cs.toArray t h
theorem Row.set {w : World} {g : Nat} {t : TypeId} {cs : List Value} (h : Row w g t cs) (i : Nat) (v : Value) : Row (w.setCell ⟨g, i, none⟩ v) g t (cs.set i v) := by
  unfold Row; rw [heap_setCell_same w g i cs.toArray t v h]; simp
theorem Row.other {w : World} {g : Nat} {t : TypeId} {cs : List Value} (h : Row w g t cs) (g' i : Nat) (v : Value) (hne : g ≠ g') : Row (w.setCell ⟨g', i, none⟩ v) g t cs := by
  unfold Row; rw [heap_setCell_other w _ g v hne]; exact h
theorem Row.drewN {w : World} {g : Nat} {t : TypeId} {cs : List Value} (h : Row w g t cs) (n : Nat) : Row (w.drewN n) g t cs := h
theorem Row.alloc {w : World} {g : Nat} {t : TypeId} {cs : List Value} (h : Row w g t cs) (o : Obj) : Row (w.alloc o) g t cs := by
  unfold Row; rw [heap_alloc_old w o h.lt]; exact h
theorem Row.new (w : World) (t : TypeId) (cs : List Value) : Row (w.alloc (.cells cs.toArray t)) w.heap.size t cs := heap_alloc_new w _
theorem Row.below {w w' : World} {g : Nat} {t : TypeId} {cs : List Value} {B : Nat} (h : Row w g t cs) (hb : Below B w w') (hg : g < B) : Row w' g t cs := by
  unfold Row; rw [hb.block g hg]; exact h
theorem Row.cells_eq {w : World} {g : Nat} {t : TypeId} {cs cs' : List Value} (h : Row w g t cs) (e : cs = cs') : Row w g t cs' := e ▸ h
theorem set_at {α : Type} (A R : List α) (x v : α) (n : Nat) (h : A.length = n) : (A ++ x :: R).set n v = A ++ v :: R := by
  subst h; simp
/-- numbers of a kind -/
abbrev vals (k : IntKind) (l : List Int) : List Value := l.map (Value.int k)
/-- a word rotated to the right -/
def rot (n : Nat) (x : Int) : Int := bits .or .u32 (x / (2 ^ n : Nat)) (x * (2 ^ (32 - n) : Nat) % 4294967296)
theorem ret_int {k : IntKind} {a b : Int} (h : a = b) : Ending.returned (.int k a) = .returned (.int k b) := by rw [h]
theorem or_comm (a b : Int) : bits .or .u32 a b = bits .or .u32 b a := by
  unfold bits
  simp only []
  rw [BitVec.or_comm]

end Go.Proofs.Ytacahgcbkgapdaa
