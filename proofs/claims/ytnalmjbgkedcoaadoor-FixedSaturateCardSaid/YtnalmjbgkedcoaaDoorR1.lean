/- Carried over from another seat by program (portn.py). -/
import Derived.Test.YtnalmjbgkedcoaaDoorR0
import Derived.Test.YtnalmjbgkedcoaaDoorIA
namespace Go.Proofs.YtnalmjbgkedcoaaDoor
open Go.RowKit
set_option linter.unusedVariables false
/-- v reads as the number q, in parts of at most k limbs -/
def Ra (w : World) (v : Value) (q : Rat) (k : Nat) : Prop := ∃ s n d x y, v = .agg #[.bool s, x, y] ∧ Nm w x n k ∧ Nm w y d k ∧ rv s n d = q
/-- v reads as the canonical form of q -/
def Cr (w : World) (v : Value) (q : Rat) : Prop := ∃ x y, v = .agg #[.bool (decide (q.num < 0)), x, y] ∧ Cn w x q.num.natAbs ∧ Cn w y (wd q)
/-- the post of a function that answers a number -/
def RPost (q : Rat) (w : World) (e : Ending) (w' : World) : Prop := ∃ u, e = .returned u ∧ Cr w' u q ∧ Keep w w'
/-- the same with an error -/
def REPost (q : Rat) (err : Int) (w : World) (e : Ending) (w' : World) : Prop := ∃ u, e = .returned (.tuple #[u, .int .i64 err]) ∧ Cr w' u q ∧ Keep w w'
theorem Ra.keep {w w' : World} {v : Value} {q : Rat} {k : Nat} (h : Ra w v q k) (hk : Keep w w') : Ra w' v q k := by
  obtain ⟨s, n, d, x, y, h1, h2, h3, h4⟩ := h
  exact ⟨s, n, d, x, y, h1, h2.keep hk, h3.keep hk, h4⟩
theorem Cr.keep {w w' : World} {v : Value} {q : Rat} (h : Cr w v q) (hk : Keep w w') : Cr w' v q := by
  obtain ⟨x, y, h1, h2, h3⟩ := h
  exact ⟨x, y, h1, h2.keep hk, h3.keep hk⟩
theorem Cr.ra {w : World} {v : Value} {q : Rat} {k : Nat} (h : Cr w v q) (hk : Rb q k) : Ra w v q k := by
  obtain ⟨x, y, h1, h2, h3⟩ := h
  exact ⟨_, _, _, x, y, h1, h2.nm hk.1, h3.nm hk.wd, rv_wd q⟩
theorem Ra.rb {w : World} {v : Value} {q : Rat} {k : Nat} (h : Ra w v q k) (hk : 1 ≤ k) : Rb q k := by
  obtain ⟨s, n, d, x, y, h1, h2, h3, rfl⟩ := h
  exact rb_rv s h2.lt h3.lt hk
theorem Ra.up {w : World} {v : Value} {q : Rat} {k j : Nat} (h : Ra w v q k) (hj : k ≤ j) : Ra w v q j := by
  obtain ⟨s, n, d, x, y, h1, h2, h3, h4⟩ := h
  exact ⟨s, n, d, x, y, h1, h2.up hj, h3.up hj, h4⟩
/-- a block that holds a number -/
structure QBox (g : Nat) (u0 u1 u2 : Value) (w : World) : Prop where
  c0 : w.cell? ⟨g, 0, none⟩ = some u0
  c1 : w.cell? ⟨g, 1, none⟩ = some u1
  c2 : w.cell? ⟨g, 2, none⟩ = some u2
  f0 : w.frozen? ⟨g, 0, none⟩ = false
  f1 : w.frozen? ⟨g, 1, none⟩ = false
  f2 : w.frozen? ⟨g, 2, none⟩ = false
  no : ∀ i x, w.cell? ⟨g, i, none⟩ ≠ some (.int .u32 x)
theorem QBox.new (w : World) (b : Bool) (a : Option Addr) (n c : Nat) (a' : Option Addr) (n' c' : Nat) : QBox w.heap.size (.bool b) (.slice a n c) (.slice a' n' c') (w.alloc (.cells #[.bool b, .slice a n c, .slice a' n' c'] 25)) := by
  refine ⟨by simp, by simp, by simp, by simp, by simp, by simp, ?_⟩
  intro i x
  match i with
  | 0 => simp
  | 1 => simp
  | 2 => simp
  | i + 3 => simp
theorem QBox.lt {g : Nat} {u0 u1 u2 : Value} {w : World} (h : QBox g u0 u1 u2 w) : g < w.heap.size := World.block_lt_of_cell? w _ h.c0
theorem QBox.keep {g : Nat} {u0 u1 u2 : Value} {w w' : World} (h : QBox g u0 u1 u2 w) (k : Keep w w') : QBox g u0 u1 u2 w' := by
  have hl := h.lt
  obtain ⟨hc, hf⟩ := kcell k
  exact ⟨(hc g 0 hl).trans h.c0, (hc g 1 hl).trans h.c1, (hc g 2 hl).trans h.c2, (hf g 0 hl).trans h.f0, (hf g 1 hl).trans h.f1, (hf g 2 hl).trans h.f2, fun i x => by rw [hc g i hl]; exact h.no i x⟩
theorem QBox.at {g g' : Nat} {u0 u1 u2 : Value} {w : World} (h : QBox g u0 u1 u2 w) (e : g = g') : QBox g' u0 u1 u2 w := e ▸ h
theorem QBox.store {g : Nat} {u0 u1 u2 : Value} {w0 w : World} (h : QBox g u0 u1 u2 w) (hk : Keep w0 w) (hg : w0.heap.size ≤ g) (u v x : Value) :
    Keep w0 (((w.setCell ⟨g, 0, none⟩ u).setCell ⟨g, 1, none⟩ v).setCell ⟨g, 2, none⟩ x) ∧ (∀ a len cap l, Rd w a len cap l → Rd (((w.setCell ⟨g, 0, none⟩ u).setCell ⟨g, 1, none⟩ v).setCell ⟨g, 2, none⟩ x) a len cap l) ∧
      (w.setCell ⟨g, 0, none⟩ u).cell? ⟨g, 0, none⟩ = some u ∧ ((w.setCell ⟨g, 0, none⟩ u).setCell ⟨g, 1, none⟩ v).cell? ⟨g, 1, none⟩ = some v ∧ (((w.setCell ⟨g, 0, none⟩ u).setCell ⟨g, 1, none⟩ v).setCell ⟨g, 2, none⟩ x).cell? ⟨g, 2, none⟩ = some x := by
  refine ⟨Below.setCell (Below.setCell (Below.setCell hk (by exact hg) _) (by exact hg) _) (by exact hg) _, fun a len cap l hr => ?_, World.cell?_setCell_same _ _ _ h.c0, World.cell?_setCell_same (w.setCell ⟨g, 0, none⟩ u) ⟨g, 1, none⟩ v (u := u1) (by rw [World.cell?_setCell_other _ _ _ _ (by simp)]; exact h.c1),
    World.cell?_setCell_same _ ⟨g, 2, none⟩ x (u := u2) (by rw [World.cell?_setCell_other _ _ _ _ (by simp), World.cell?_setCell_other _ _ _ _ (by simp)]; exact h.c2)⟩
  have ho : Only g 0 3 w (((w.setCell ⟨g, 0, none⟩ u).setCell ⟨g, 1, none⟩ v).setCell ⟨g, 2, none⟩ x) := (((Only.refl g 0 3 w).set (by omega) (by omega) u).set (by omega) (by omega) v).set (by omega) (by omega) x
  exact hr.only ho (hr.offInt h.no)
theorem Cr.form {w : World} {v : Value} {q : Rat} (h : Cr w v q) : ∃ a n c a' n' c', v = .agg #[.bool (decide (q.num < 0)), .slice a n c, .slice a' n' c'] ∧ (dig q.num.natAbs).length = n ∧ (dig (wd q)).length = n' ∧ Rd w a n c (dig q.num.natAbs) ∧ Rd w a' n' c' (dig (wd q)) := by
  obtain ⟨x, y, rfl, h2, h3⟩ := h
  obtain ⟨a, c, rfl, r⟩ := Cn.form h2
  obtain ⟨a', c', rfl, r'⟩ := Cn.form h3
  exact ⟨a, _, c, a', _, c', rfl, rfl, rfl, r, r'⟩
theorem Cr.of {w : World} {q : Rat} {b : Bool} {a a' : Option Addr} {n c n' c' : Nat} (hb : decide (q.num < 0) = b) (h : Rd w a n c (dig q.num.natAbs)) (h' : Rd w a' n' c' (dig (wd q))) : Cr w (.agg #[.bool b, .slice a n c, .slice a' n' c']) q :=
  ⟨_, _, by rw [hb], ⟨_, _, _, rfl, h⟩, ⟨_, _, _, rfl, h'⟩⟩
/-- a result that is about to be written -/
theorem Cr.put {w0 w : World} {v : Value} {q : Rat} {g : Nat} {u0 u1 u2 : Value} (h : Cr w v q) (B : QBox g u0 u1 u2 w) (hk : Keep w0 w) (hg : w0.heap.size ≤ g) :
    ∃ b a n c a' n' c', v = .agg #[.bool b, .slice a n c, .slice a' n' c'] ∧
      Cr (((w.setCell ⟨g, 0, none⟩ (.bool b)).setCell ⟨g, 1, none⟩ (.slice a n c)).setCell ⟨g, 2, none⟩ (.slice a' n' c')) (.agg #[.bool b, .slice a n c, .slice a' n' c']) q ∧
      Keep w0 (((w.setCell ⟨g, 0, none⟩ (.bool b)).setCell ⟨g, 1, none⟩ (.slice a n c)).setCell ⟨g, 2, none⟩ (.slice a' n' c')) ∧
      w.frozen? ⟨g, 0, none⟩ = false ∧ w.frozen? ⟨g, 1, none⟩ = false ∧ w.frozen? ⟨g, 2, none⟩ = false ∧
      w.cell? ⟨g, 0, none⟩ = some u0 ∧ w.cell? ⟨g, 1, none⟩ = some u1 ∧ w.cell? ⟨g, 2, none⟩ = some u2 ∧
      (w.setCell ⟨g, 0, none⟩ (.bool b)).cell? ⟨g, 0, none⟩ = some (.bool b) ∧ ((w.setCell ⟨g, 0, none⟩ (.bool b)).setCell ⟨g, 1, none⟩ (.slice a n c)).cell? ⟨g, 1, none⟩ = some (.slice a n c) ∧
      (((w.setCell ⟨g, 0, none⟩ (.bool b)).setCell ⟨g, 1, none⟩ (.slice a n c)).setCell ⟨g, 2, none⟩ (.slice a' n' c')).cell? ⟨g, 2, none⟩ = some (.slice a' n' c') := by
  obtain ⟨a, n, c, a', n', c', rfl, h1, h2, r, r'⟩ := h.form
  obtain ⟨s1, s2, s3, s4, s5⟩ := B.store hk hg (.bool (decide (q.num < 0))) (.slice a n c) (.slice a' n' c')
  exact ⟨_, a, n, c, a', n', c', rfl, Cr.of rfl (s2 _ _ _ _ r) (s2 _ _ _ _ r'), s1, B.f0, B.f1, B.f2, B.c0, B.c1, B.c2, s3, s4, s5⟩
end Go.Proofs.YtnalmjbgkedcoaaDoor
