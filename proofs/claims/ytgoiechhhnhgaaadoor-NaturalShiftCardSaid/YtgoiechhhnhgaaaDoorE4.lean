/- Walks of layer 1: divLong. -/
import Derived.Test.YtgoiechhhnhgaaaDoorPlain7
namespace Go.Proofs.YtgoiechhhnhgaaaDoor
open Go.RowKit
set_option linter.unusedVariables false
theorem Win.only {w w' : World} {b off n : Nat} {L : List Nat} (h : Win w b off n L) {b2 lo up : Nat} (ho : Only b2 lo up w w') (hne : b ≠ b2) : Win w' b off n L := by
  have e := ho.block b hne
  exact ⟨h.len_eq, h.lim, fun i hi => (World.cell?_of_block (w := w) (a := ⟨b, off + i, none⟩) e).trans (h.cell i hi), fun i hi => (World.frozen?_of_block (w := w) (a := ⟨b, off + i, none⟩) e).trans (h.free i hi)⟩
theorem Win.below {w w' : World} {b off n : Nat} {L : List Nat} (h : Win w b off n L) (hb : Below w.heap.size w w') (h0 : b < w.heap.size) : Win w' b off n L := by
  have e := hb.block b h0
  exact ⟨h.len_eq, h.lim, fun i hi => (World.cell?_of_block (w := w) (a := ⟨b, off + i, none⟩) e).trans (h.cell i hi), fun i hi => (World.frozen?_of_block (w := w) (a := ⟨b, off + i, none⟩) e).trans (h.free i hi)⟩
/-- the shift that sets the highest bit -/
theorem shift_facts {y : List Nat} {m : Nat} (hl : Lim y) (hn : y.length = m + 2) (h0 : y.getD (m + 1) 0 ≠ 0) :
    bl (y.getD (m + 1) 0) ≤ 32 ∧ nv y * 2 ^ (32 - bl (y.getD (m + 1) 0)) < BB ^ (m + 2) ∧ BB ^ (m + 1) ≤ nv y ∧ (dig (nv y * 2 ^ (32 - bl (y.getD (m + 1) 0)))).length = m + 2 := by
  have h1 : bl (y.getD (m + 1) 0) ≤ 32 := bl_le (hl.at _)
  have h2 := bl_top hl hn h0
  have h3 := lt_bl (nv y)
  have h4 : nv y * 2 ^ (32 - bl (y.getD (m + 1) 0)) < BB ^ (m + 2) := by
    rw [h2] at h3
    have h5 := Nat.mul_lt_mul_of_pos_right h3 (Nat.two_pow_pos (32 - bl (y.getD (m + 1) 0)))
    rw [← Nat.pow_add, show 32 * (m + 1) + bl (y.getD (m + 1) 0) + (32 - bl (y.getD (m + 1) 0)) = 32 * (m + 2) from by omega, ← BB_pow] at h5
    exact h5
  have h6 : BB ^ (m + 1) ≤ nv y := by
    have := nv_ge (l := y) (by intro h; rw [h] at hn; simp at hn) (by rw [hn]; exact h0)
    rwa [hn] at this
  refine ⟨h1, h4, h6, ?_⟩
  have h7 := dig_len_of h4
  rcases Nat.lt_or_ge (dig (nv y * 2 ^ (32 - bl (y.getD (m + 1) 0)))).length (m + 2) with h8 | h8
  · have h9 := nv_lt (dig_lim (nv y * 2 ^ (32 - bl (y.getD (m + 1) 0))))
    rw [nv_dig] at h9
    have h10 : BB ^ (dig (nv y * 2 ^ (32 - bl (y.getD (m + 1) 0)))).length ≤ BB ^ (m + 1) := Nat.pow_le_pow_right BB_pos (by omega)
    have h11 : nv y * 1 ≤ nv y * 2 ^ (32 - bl (y.getD (m + 1) 0)) := Nat.mul_le_mul_left _ (Nat.two_pow_pos _)
    omega
  · omega
theorem Only.far {b lo up : Nat} {w w' : World} (h : Only b lo up w w') {a : Option Addr} {len cap : Nat} {l : List Nat} (hr : Rd w a len cap l) (hb : w.heap.size ≤ b) : Rd w' a len cap l := hr.only h (hr.far hb)
/-- what divLong answers -/
def DvPost (q r : Nat) (w : World) (e : Ending) (w' : World) : Prop :=
  ∃ a cap a2 cap2, e = Ending.returned (.tuple #[.slice a (dig q).length cap, .slice a2 (dig r).length cap2]) ∧ Rd w' a (dig q).length cap (dig q) ∧ Rd w' a2 (dig r).length cap2 (dig r) ∧ Below w.heap.size w w'
end Go.Proofs.YtgoiechhhnhgaaaDoor
