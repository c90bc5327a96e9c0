/- Carried over from another seat by program (port.py): layer 1. -/
import Derived.Test.YtjkfnnoakjdgmaaGreatDoorR13
import Derived.Deep.DeepCutAuto
import Derived.Outline
namespace Go.Proofs.YtjkfnnoakjdgmaaGreatDoor
open Go.RowKit
set_option linter.unusedVariables false
/-- a pointer to a new block that holds a number -/
def PBoxQ (w0 : World) (lo : Nat) (q : Rat) (v : Value) (wx : World) : Prop := ∃ g b a n c a' n' c', v = .pointer (some ⟨g, 0, none⟩) ∧ lo ≤ g ∧ QBox g (.bool b) (.slice a n c) (.slice a' n' c') wx ∧ Cr wx (.agg #[.bool b, .slice a n c, .slice a' n' c']) q ∧ Keep w0 wx
theorem PBoxQ.post {w0 v : World} {lo : Nat} {q : Rat} {b : Bool} {a a' : Option Addr} {n c n' c' : Nat} (hc : Cr v (.agg #[.bool b, .slice a n c, .slice a' n' c']) q) (hlo : lo ≤ v.heap.size) (hk : Keep w0 v) :
    PBoxQ w0 lo q (.pointer (some ⟨v.heap.size, 0, none⟩)) (v.alloc (.cells #[.bool b, .slice a n c, .slice a' n' c'] 25)) :=
  ⟨_, b, a, n, c, a', n', c', rfl, hlo, QBox.new v b a n c a' n' c', hc.keep ((Keep.refl _).alloc _), hk.alloc _⟩
theorem Cr.rds {w : World} {b : Bool} {a a' : Option Addr} {n c n' c' : Nat} {q : Rat} (h : Cr w (.agg #[.bool b, .slice a n c, .slice a' n' c']) q) : decide (q.num < 0) = b ∧ Rd w a n c (dig q.num.natAbs) ∧ Rd w a' n' c' (dig (wd q)) := by
  obtain ⟨x, y, e, ⟨_, _, _, rfl, h1⟩, ⟨_, _, _, rfl, h2⟩⟩ := h
  cases e
  exact ⟨rfl, h1, h2⟩
theorem PBoxQ.pre {w0 v : World} {lo g : Nat} {q : Rat} {b : Bool} {a a' : Option Addr} {n c n' c' : Nat} {u0 u1 u2 : Value} (hc : Cr v (.agg #[.bool b, .slice a n c, .slice a' n' c']) q) (B : QBox g u0 u1 u2 v) (hlo : lo ≤ g) (hg : w0.heap.size ≤ g) (hk : Keep w0 v) :
    PBoxQ w0 lo q (.pointer (some ⟨g, 0, none⟩)) (((v.setCell ⟨g, 0, none⟩ (.bool b)).setCell ⟨g, 1, none⟩ (.slice a n c)).setCell ⟨g, 2, none⟩ (.slice a' n' c')) := by
  obtain ⟨h1, h2, h3⟩ := hc.rds
  obtain ⟨s1, s2, s3, s4, s5⟩ := B.store hk hg (.bool b) (.slice a n c) (.slice a' n' c')
  refine ⟨g, b, a, n, c, a', n', c', rfl, hlo, ⟨?_, ?_, s5, by simpa using B.f0, by simpa using B.f1, by simpa using B.f2, ?_⟩, Cr.of h1 (s2 _ _ _ _ h2) (s2 _ _ _ _ h3), s1⟩
  · rw [World.cell?_setCell_other _ _ _ _ (by simp), World.cell?_setCell_other _ _ _ _ (by simp)]; exact s3
  · rw [World.cell?_setCell_other _ _ _ _ (by simp)]; exact s4
  · intro i x
    match i with
    | 0 => rw [World.cell?_setCell_other _ _ _ _ (by simp), World.cell?_setCell_other _ _ _ _ (by simp), s3]; simp
    | 1 => rw [World.cell?_setCell_other _ _ _ _ (by simp), s4]; simp
    | 2 => rw [s5]; simp
    | i + 3 =>
      rw [World.cell?_setCell_other _ _ _ _ (by simp), World.cell?_setCell_other _ _ _ _ (by simp), World.cell?_setCell_other _ _ _ _ (by simp)]
      exact B.no (i + 3) x
/-- what is known of the bounds of a step -/
theorem smp_rb {k : Nat} {lo hi s : Rat} (h0 : 0 < lo) (hs : Smp lo hi s) (h1 : lo ≤ hi) (hlo : Rb lo k) : Rb s k := by
  have a := hs.den lo Rat.le_refl h1
  have b := hs.num lo Rat.le_refl h1
  have c := num_pos' h0
  have d : 0 < s.num := num_pos' (by have := hs.ge; grind)
  exact ⟨by have := hlo.1; omega, by have := hlo.2; omega⟩
theorem step_rb {k : Nat} {lo hi lo' hi' : Rat} {f : Int} (h : SmStep lo hi f lo' hi') (el : lo' = (hi - (f : Rat))⁻¹) (eh : hi' = (lo - (f : Rat))⁻¹) (hlo : Rb lo k) (hhi : Rb hi k) (hk : 1 ≤ k) : Rb (hi - (f : Rat)) k ∧ Rb (lo - (f : Rat)) k ∧ Rb lo' k ∧ Rb hi' k := by
  have a1 := num_pos' h.x0
  have a2 := num_pos' h.y0
  have b1 : Rb (hi - (f : Rat)) k := ⟨by have := h.y1.1; have := hhi.2; omega, by rw [h.y1.2]; exact hhi.2⟩
  have b2 : Rb (lo - (f : Rat)) k := ⟨by have := h.x1.1; have := hlo.2; omega, by rw [h.x1.2]; exact hlo.2⟩
  exact ⟨b1, b2, el ▸ b1.inv hk, eh ▸ b2.inv hk⟩
theorem floor_rb {k : Nat} {lo : Rat} (h0 : 0 < lo) (hlo : Rb lo k) : 0 ≤ lo.floor ∧ lo.floor.natAbs < BB ^ k := by
  have f0 : 0 ≤ lo.floor := Rat.le_floor_iff.2 (by simpa using Rat.le_of_lt h0)
  refine ⟨f0, ?_⟩
  have h2 : (lo.floor : Rat) ≤ lo := Rat.floor_le lo
  rw [Rat.le_iff] at h2
  simp at h2
  have h3 := lo.den_nz
  have h4 : lo.floor * 1 ≤ lo.floor * (lo.den : Int) := Int.mul_le_mul_of_nonneg_left (by omega) f0
  have h5 := hlo.1
  have h6 := num_pos' h0
  omega
end Go.Proofs.YtjkfnnoakjdgmaaGreatDoor
