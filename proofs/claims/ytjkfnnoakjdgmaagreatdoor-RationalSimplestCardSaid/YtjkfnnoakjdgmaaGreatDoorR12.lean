/- Carried over from another seat by program (port.py): layer 1. -/
import Derived.Test.YtjkfnnoakjdgmaaGreatDoorR11
namespace Go.Proofs.YtjkfnnoakjdgmaaGreatDoor
open Go.RowKit
set_option linter.unusedVariables false
theorem keep_set {w0 w : World} (h : Keep w0 w) {g j : Nat} (hg : w0.heap.size ≤ g) (u : Value) : Keep w0 (w.setCell ⟨g, j, none⟩ u) := Below.setCell h (by exact hg) u
/-- a pointer to a block that holds an integer, read alone -/
def PB3 (w0 : World) (b : Bool) (n : Nat) (v : Value) (wx : World) : Prop := ∃ g a len cap, v = .pointer (some ⟨g, 0, none⟩) ∧ wx.cell? ⟨g, 0, none⟩ = some (.bool b) ∧ wx.cell? ⟨g, 1, none⟩ = some (.slice a len cap) ∧ Rd wx a len cap (dig n) ∧ Keep w0 wx
theorem pb3_two {W0 V : World} {g3 g4 n : Nat} {u0 u1 u2 u3 : Value} {qa ra : Option Addr} {qn qc rn rc : Nat} (h3 : RBox g3 u0 u1 V) (h4 : RBox g4 u2 u3 V) (hne : ¬ g3 = g4) (hk : Keep W0 V) (hg3 : W0.heap.size ≤ g3) (hg4 : W0.heap.size ≤ g4) (hr : Rd V qa qn qc (dig n)) (b br : Bool) :
    PB3 W0 b n (.pointer (some ⟨g3, 0, none⟩)) ((((V.setCell ⟨g3, 0, none⟩ (.bool b)).setCell ⟨g3, 1, none⟩ (.slice qa qn qc)).setCell ⟨g4, 0, none⟩ (.bool br)).setCell ⟨g4, 1, none⟩ (.slice ra rn rc)) := by
  obtain ⟨k1, r1, _, _⟩ := h3.store hk hg3 (.bool b) (.slice qa qn qc)
  have H4 := h4.other (g := g3) hne 0 1 (.bool b) (.slice qa qn qc)
  obtain ⟨k2, r2, _, _⟩ := H4.store k1 hg4 (.bool br) (.slice ra rn rc)
  have H3 := (h3.set b qa qn qc).other (g := g4) (fun e => hne e.symm) 0 1 (.bool br) (.slice ra rn rc)
  exact ⟨g3, qa, qn, qc, rfl, H3.c0, H3.c1, r2 _ _ _ _ (r1 _ _ _ _ hr), k2⟩
theorem pb3_late {W0 V : World} {g4 n : Nat} {u2 u3 : Value} {qa ra : Option Addr} {qn qc rn rc : Nat} {b : Bool} (h4 : RBox g4 u2 u3 V) (hk : Keep W0 V) (hg4 : W0.heap.size ≤ g4) (hr : Rd V qa qn qc (dig n)) (br : Bool) :
    PB3 W0 b n (.pointer (some ⟨V.heap.size, 0, none⟩)) (((V.alloc (.cells #[.bool b, .slice qa qn qc] 35)).setCell ⟨g4, 0, none⟩ (.bool br)).setCell ⟨g4, 1, none⟩ (.slice ra rn rc)) := by
  have hlt := h4.lt
  have ka : Keep V (V.alloc (.cells #[.bool b, .slice qa qn qc] 35)) := (Keep.refl V).alloc _
  obtain ⟨k2, r2, _, _⟩ := (h4.keep ka).store (hk.trans ka) hg4 (.bool br) (.slice ra rn rc)
  have H3 := (RBox.new V b qa qn qc).other (g := g4) (by omega) 0 1 (.bool br) (.slice ra rn rc)
  exact ⟨_, qa, qn, qc, rfl, H3.c0, H3.c1, r2 _ _ _ _ (hr.below ka), k2⟩
theorem pb3_new0 {W0 V : World} {n : Nat} {qa ra : Option Addr} {qn qc rn rc : Nat} {b br : Bool} (hk : Keep W0 V) (hr : Rd V qa qn qc (dig n)) :
    PB3 W0 b n (.pointer (some ⟨V.heap.size, 0, none⟩)) ((V.alloc (.cells #[.bool b, .slice qa qn qc] 35)).alloc (.cells #[.bool br, .slice ra rn rc] 35)) := by
  have H3 := (RBox.new V b qa qn qc).keep ((Keep.refl _).alloc (.cells #[.bool br, .slice ra rn rc] 35))
  exact ⟨_, qa, qn, qc, rfl, H3.c0, H3.c1, (hr.alloc _).alloc _, (hk.alloc _).alloc _⟩
theorem pb3_new1 {W0 V : World} {n : Nat} {qa ra : Option Addr} {qn qc rn rc : Nat} {b br : Bool} (hk : Keep W0 V) (hr : Rd V qa qn qc (dig n)) :
    PB3 W0 b n (.pointer (some ⟨V.heap.size + 1, 0, none⟩)) ((V.alloc (.cells #[.bool br, .slice ra rn rc] 35)).alloc (.cells #[.bool b, .slice qa qn qc] 35)) := by
  have H3 := (RBox.new (V.alloc (.cells #[.bool br, .slice ra rn rc] 35)) b qa qn qc).at (sz1 _ _)
  exact ⟨_, qa, qn, qc, rfl, H3.c0, H3.c1, (hr.alloc _).alloc _, (hk.alloc _).alloc _⟩
theorem floor_z (s : Bool) (N D : Nat) : zQ (iv s N) (iv false (dn D)) = (rv s N D).floor := by
  rw [floor_rv]
  have h0 : ¬ ((iv false (dn D) : Int) = 0) := by
    have := dn_pos D
    show ¬ ((dn D : Nat) : Int) = 0
    omega
  exact if_neg h0
end Go.Proofs.YtjkfnnoakjdgmaaGreatDoor
