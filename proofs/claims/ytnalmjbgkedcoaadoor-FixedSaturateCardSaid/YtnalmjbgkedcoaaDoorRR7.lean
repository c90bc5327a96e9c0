/- Carried over from another seat by program (portn.py). -/
import Derived.Test.YtnalmjbgkedcoaaDoorRR6
namespace Go.Proofs.YtnalmjbgkedcoaaDoor
open Go.RowKit
set_option linter.unusedVariables false
theorem canB_dig (n : Nat) : canB (dig n) = true := by
  by_cases h : n = 0
  · subst h; rw [dig_zero]; rfl
  · have := dig_top h
    unfold canB
    rw [Bool.or_eq_true]
    right
    rw [bne_iff_ne]
    exact this
theorem canB_of {l : List Nat} (h : Lim l) (hc : canB l = true) : dig (nv l) = l := by
  refine dig_of h ?_
  unfold canB at hc
  rw [Bool.or_eq_true] at hc
  rcases hc with hc | hc
  · left; simpa using hc
  · right; rw [bne_iff_ne] at hc; exact hc
theorem eqB_iff {l t : List Nat} : eqB l t = true ↔ l = t := by unfold eqB; exact beq_iff_eq
theorem okQ_iff {s : Bool} {l l' : List Nat} : okQ s l l' = true ↔ (s = decide ((rv s (nv l) (nv l')).num < 0) ∧ l = dig (rv s (nv l) (nv l')).num.natAbs) ∧ l' = dig (wd (rv s (nv l) (nv l'))) := by
  unfold okQ
  rw [Bool.and_eq_true, Bool.and_eq_true, eqB_iff, eqB_iff, beq_iff_eq]
theorem ok1 {s : Bool} {l l' : List Nat} (h : canB l = false) : okQ s l l' = false := by
  rw [Bool.eq_false_iff]
  intro h1
  have h2 := (okQ_iff.1 h1).1.2
  rw [h2, canB_dig] at h
  cases h
theorem ok2 {s : Bool} {l l' : List Nat} (h : canB l' = false) : okQ s l l' = false := by
  rw [Bool.eq_false_iff]
  intro h1
  have h2 := (okQ_iff.1 h1).2
  rw [h2, canB_dig] at h
  cases h
theorem ok3 {s : Bool} {l l' : List Nat} (h : l = []) (hl : Lim l') (h' : canB l' = true) : okQ s l l' = (!s && decide (l'.length = 0)) := by
  subst h
  have e0 : nv ([] : List Nat) = 0 := rfl
  have e1 : wd (0 : Rat) = 0 := rfl
  have e2 : (0 : Rat).num = 0 := rfl
  unfold okQ
  rw [e0, rv_zero, e1, e2, Int.natAbs_zero, dig_zero]
  have e3 : decide ((0 : Int) < 0) = false := rfl
  rw [e3]
  cases s <;> cases l' <;> rfl
theorem ok4 {s : Bool} {l : List Nat} (hl : Lim l) (h : canB l = true) (h0 : nv l ≠ 0) : okQ s l [] = true := by
  rw [okQ_iff]
  have e0 : nv ([] : List Nat) = 0 := rfl
  rw [e0]
  have p := pack_parts s (n := nv l) (d := 0) (by rw [dn_zero, Nat.gcd_one_right])
  obtain ⟨p1, p2, p3⟩ := p
  refine ⟨⟨(p3 h0).symm, by rw [p1]; exact (canB_of hl h).symm⟩, ?_⟩
  rw [wd, p2, if_pos dn_zero, dig_zero]
theorem ok5 {s : Bool} {l l' : List Nat} (h : l' = [1]) : okQ s l l' = false := by
  rw [Bool.eq_false_iff]
  intro h1
  have h2 := (okQ_iff.1 h1).2
  subst h
  have e0 : nv [1] = 1 := rfl
  rw [e0] at h2
  have e1 : (rv s (nv l) 1).den = 1 := by rw [rv_den s (nv l) (by omega), Nat.gcd_one_right]
  rw [wd, if_pos e1, dig_zero] at h2
  cases h2
theorem ok6 {s : Bool} {l l' : List Nat} (hl : Lim l) (hl' : Lim l') (h : canB l = true) (h' : canB l' = true) (h0 : nv l ≠ 0) (h2 : 2 ≤ nv l') : okQ s l l' = (Nat.gcd (nv l) (nv l') == 1) := by
  have hd : dn (nv l') = nv l' := dn_of (by omega)
  by_cases hg : Nat.gcd (nv l) (nv l') = 1
  · rw [hg, show ((1 : Nat) == 1) = true from rfl, okQ_iff]
    obtain ⟨p1, p2, p3⟩ := pack_parts s (n := nv l) (d := nv l') (by rw [hd]; exact hg)
    refine ⟨⟨(p3 h0).symm, by rw [p1]; exact (canB_of hl h).symm⟩, ?_⟩
    rw [wd, p2, hd, if_neg (by omega)]; exact (canB_of hl' h').symm
  · rw [show (Nat.gcd (nv l) (nv l') == 1) = false from beq_false_of_ne hg, Bool.eq_false_iff]
    intro h1
    have h3 := (okQ_iff.1 h1).1.2
    have h4 : nv l = (rv s (nv l) (nv l')).num.natAbs := by
      have := congrArg nv h3
      rw [nv_dig] at this
      exact this
    rw [rv_abs s (nv l) (by omega)] at h4
    have hgp : 0 < Nat.gcd (nv l) (nv l') := Nat.gcd_pos_of_pos_left _ (by omega)
    have h5 : nv l / Nat.gcd (nv l) (nv l') < nv l := Nat.div_lt_self (by omega) (by omega)
    omega
theorem Rd.cell00 {w : World} {b o n c : Nat} {l : List Nat} (h : Rd w (some ⟨b, o, none⟩) n c l) (hn : 0 < n) : w.cell? ⟨b, o, none⟩ = some (.int .u32 (l.getD 0 0 : Nat)) := by
  obtain ⟨_, _, e, h1, _⟩ := h.cell0 hn
  cases e
  exact h1
theorem bl_one {g : Nat} (h : g ≠ 0) : (((bl g : Nat) : Int) == 1) = (g == 1) := by
  by_cases h1 : g = 1
  · subst h1; decide
  · rw [beq_false_of_ne h1]
    have := bl_le_one (g := g) (by omega)
    simp; omega
theorem okQ_self (q : Rat) : okQ (decide (q.num < 0)) (dig q.num.natAbs) (dig (wd q)) = true := by
  rw [okQ_iff, nv_dig, nv_dig, rv_wd]
  exact ⟨⟨rfl, rfl⟩, rfl⟩
end Go.Proofs.YtnalmjbgkedcoaaDoor
