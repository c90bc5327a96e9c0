/- Carried over from another seat by program (portn.py). -/
import Derived.Test.YtbcakefhknjbeaaDoorR11
import Derived.Outline
import Derived.Deep.DeepCutAuto
namespace Go.Proofs.YtbcakefhknjbeaaDoor
open Go.RowKit
set_option linter.unusedVariables false
theorem keep_set {w0 w : World} (h : Keep w0 w) {g j : Nat} (hg : w0.heap.size ≤ g) (u : Value) : Keep w0 (w.setCell ⟨g, j, none⟩ u) := Below.setCell h (by exact hg) u
/-- a pointer to a new block that holds a number -/
def PBoxQ (w0 : World) (lo : Nat) (q : Rat) (v : Value) (wx : World) : Prop := ∃ g b a n c a' n' c', v = .pointer (some ⟨g, 0, none⟩) ∧ lo ≤ g ∧ QBox g (.bool b) (.slice a n c) (.slice a' n' c') wx ∧ Cr wx (.agg #[.bool b, .slice a n c, .slice a' n' c']) q ∧ Keep w0 wx
theorem PBoxQ.post {w0 v : World} {lo : Nat} {q : Rat} {b : Bool} {a a' : Option Addr} {n c n' c' : Nat} (hc : Cr v (.agg #[.bool b, .slice a n c, .slice a' n' c']) q) (hlo : lo ≤ v.heap.size) (hk : Keep w0 v) :
    PBoxQ w0 lo q (.pointer (some ⟨v.heap.size, 0, none⟩)) (v.alloc (.cells #[.bool b, .slice a n c, .slice a' n' c'] 32)) :=
  ⟨_, b, a, n, c, a', n', c', rfl, hlo, QBox.new v b a n c a' n' c', hc.keep ((Keep.refl _).alloc _), hk.alloc _⟩
theorem Cr.rds {w : World} {b : Bool} {a a' : Option Addr} {n c n' c' : Nat} {q : Rat} (h : Cr w (.agg #[.bool b, .slice a n c, .slice a' n' c']) q) : decide (q.num < 0) = b ∧ Rd w a n c (dig q.num.natAbs) ∧ Rd w a' n' c' (dig (wd q)) := by
  obtain ⟨x, y, e, ⟨_, _, _, rfl, h1⟩, ⟨_, _, _, rfl, h2⟩⟩ := h
  cases e
  exact ⟨rfl, h1, h2⟩
theorem PBoxQ.pre {w0 v : World} {lo g : Nat} {q : Rat} {b : Bool} {a a' : Option Addr} {n c n' c' : Nat} {u0 u1 u2 : Value} (hc : Cr v (.agg #[.bool b, .slice a n c, .slice a' n' c']) q) (B : QBox g u0 u1 u2 v) (hlo : lo ≤ g) (hg : w0.heap.size ≤ g) (hk : Keep w0 v) :
    PBoxQ w0 lo q (.pointer (some ⟨g, 0, none⟩)) (((v.setCell ⟨g, 0, none⟩ (.bool b)).setCell ⟨g, 1, none⟩ (.slice a n c)).setCell ⟨g, 2, none⟩ (.slice a' n' c')) := by
  obtain ⟨h1, h2, h3⟩ := hc.rds
  obtain ⟨s1, s2, s3, s4, s5⟩ := B.store hk hg (.bool b) (.slice a n c) (.slice a' n' c')
  refine ⟨g, b, a, n, c, a', n', c', rfl, hlo, ⟨?_, ?_, s5, by simpa using B.f0, by simpa using B.f1, by simpa using B.f2, ?_⟩, Cr.of h1 (s2 _ _ _ _ h2) (s2 _ _ _ _ h3), s1⟩
  · rw [World.cell?_setCell_other _ _ _ _ (by simp), World.cell?_setCell_other _ _ _ _ (by simp)]; exact s3
  · rw [World.cell?_setCell_other _ _ _ _ (by simp)]; exact s4
  · intro i x
    match i with
    | 0 => rw [World.cell?_setCell_other _ _ _ _ (by simp), World.cell?_setCell_other _ _ _ _ (by simp), s3]; simp
    | 1 => rw [World.cell?_setCell_other _ _ _ _ (by simp), s4]; simp
    | 2 => rw [s5]; simp
    | i + 3 =>
      rw [World.cell?_setCell_other _ _ _ _ (by simp), World.cell?_setCell_other _ _ _ _ (by simp), World.cell?_setCell_other _ _ _ _ (by simp)]
      exact B.no (i + 3) x
end Go.Proofs.YtbcakefhknjbeaaDoor
