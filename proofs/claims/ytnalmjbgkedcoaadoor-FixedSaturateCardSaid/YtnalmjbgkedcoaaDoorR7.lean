/- Carried over from another seat by program (portn.py). -/
import Derived.Test.YtnalmjbgkedcoaaDoorR6
namespace Go.Proofs.YtnalmjbgkedcoaaDoor
open Go.RowKit
set_option linter.unusedVariables false
/-- a result that is about to be written, its parts known -/
theorem put_of {w0 w : World} {q : Rat} {g : Nat} {u0 u1 u2 : Value} {b : Bool} {a a' : Option Addr} {n c n' c' : Nat} (hb : decide (q.num < 0) = b) (h : Rd w a n c (dig q.num.natAbs)) (h' : Rd w a' n' c' (dig (wd q))) (B : QBox g u0 u1 u2 w) (hk : Keep w0 w) (hg : w0.heap.size ≤ g) :
      RPost q w0 (.returned (.agg #[.bool b, .slice a n c, .slice a' n' c'])) (((w.setCell ⟨g, 0, none⟩ (.bool b)).setCell ⟨g, 1, none⟩ (.slice a n c)).setCell ⟨g, 2, none⟩ (.slice a' n' c')) ∧
      Keep w0 (((w.setCell ⟨g, 0, none⟩ (.bool b)).setCell ⟨g, 1, none⟩ (.slice a n c)).setCell ⟨g, 2, none⟩ (.slice a' n' c')) ∧
      (w.setCell ⟨g, 0, none⟩ (.bool b)).cell? ⟨g, 0, none⟩ = some (.bool b) ∧ ((w.setCell ⟨g, 0, none⟩ (.bool b)).setCell ⟨g, 1, none⟩ (.slice a n c)).cell? ⟨g, 1, none⟩ = some (.slice a n c) ∧
      (((w.setCell ⟨g, 0, none⟩ (.bool b)).setCell ⟨g, 1, none⟩ (.slice a n c)).setCell ⟨g, 2, none⟩ (.slice a' n' c')).cell? ⟨g, 2, none⟩ = some (.slice a' n' c') := by
  obtain ⟨s1, s2, s3, s4, s5⟩ := B.store hk hg (.bool b) (.slice a n c) (.slice a' n' c')
  exact ⟨RPost.of hb (s2 _ _ _ _ h) (s2 _ _ _ _ h') s1, s1, s3, s4, s5⟩
theorem rS_0 (s : Bool) (d : Nat) : rS (rv s 0 d) = 0 := by rw [rv_zero]; rfl
theorem rS_n (s : Bool) {n : Nat} (d : Nat) (h : n ≠ 0) : rS (rv s n d) = if s then -1 else 1 := by
  rw [rS_rv]
  cases s
  · show iC (n : Int) 0 = 1; unfold iC; rw [if_neg (by omega), if_pos (by omega)]
  · show iC (-(n : Int)) 0 = -1; unfold iC; rw [if_pos (by omega)]
theorem of_parts (x : Int) : decide ((x : Rat).num < 0) = decide (x < 0) ∧ (x : Rat).num.natAbs = x.natAbs ∧ wd (x : Rat) = 0 := ⟨rfl, rfl, by unfold wd; rw [Rat.den_intCast, if_pos rfl]⟩
/-- the numerator of a number -/
theorem opn (w : World) (s : Bool) (a : Option Addr) (n c : Nat) (a' : Option Addr) (n' c' : Nat) :
    Hid (QBox w.heap.size (.bool s) (.slice a n c) (.slice a' n' c') ((w.alloc (.cells #[.bool s, .slice a n c, .slice a' n' c'] 25)).alloc (.cells #[.bool false, .slice none 0 0] 51))) ∧ Hid (RBox (w.heap.size + 1) (.bool false) (.slice none 0 0) ((w.alloc (.cells #[.bool s, .slice a n c, .slice a' n' c'] 25)).alloc (.cells #[.bool false, .slice none 0 0] 51))) ∧ Hid (Keep w ((w.alloc (.cells #[.bool s, .slice a n c, .slice a' n' c'] 25)).alloc (.cells #[.bool false, .slice none 0 0] 51))) :=
  ⟨Lib.hid ((QBox.new w s a n c a' n' c').keep ((Keep.refl _).alloc _)), Lib.hid ((RBox.new (w.alloc _) false none 0 0).at (sz1 _ _)), Lib.hid (((Keep.refl w).alloc _).alloc _)⟩
theorem put_int {w0 w : World} {z : Int} {g : Nat} {u0 u1 : Value} {b : Bool} {a : Option Addr} {n c : Nat} (hb : decide (z < 0) = b) (h : Rd w a n c (dig z.natAbs)) (B : RBox g u0 u1 w) (hk : Keep w0 w) (hg : w0.heap.size ≤ g) :
      IPostZ z w0 (.returned (.agg #[.bool b, .slice a n c])) ((w.setCell ⟨g, 0, none⟩ (.bool b)).setCell ⟨g, 1, none⟩ (.slice a n c)) ∧
      (w.setCell ⟨g, 0, none⟩ (.bool b)).cell? ⟨g, 0, none⟩ = some (.bool b) ∧ ((w.setCell ⟨g, 0, none⟩ (.bool b)).setCell ⟨g, 1, none⟩ (.slice a n c)).cell? ⟨g, 1, none⟩ = some (.slice a n c) := by
  obtain ⟨hs1, hs2, r0, r1⟩ := B.store hk hg (.bool b) (.slice a n c)
  exact ⟨⟨_, rfl, ⟨.slice a n c, by rw [hb], a, n, c, rfl, hs2 _ _ _ _ h⟩, hs1⟩, r0, r1⟩
end Go.Proofs.YtnalmjbgkedcoaaDoor
