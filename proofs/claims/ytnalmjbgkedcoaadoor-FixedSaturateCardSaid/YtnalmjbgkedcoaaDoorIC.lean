/- Carried over from another seat by program (portn.py). -/
import Derived.Test.YtnalmjbgkedcoaaDoorIA
namespace Go.Proofs.YtnalmjbgkedcoaaDoor
open Go.RowKit
set_option linter.unusedVariables false
def sgn (z : Int) : Int := if z < 0 then -1 else if z = 0 then 0 else 1
theorem bl_zero_iff {n : Nat} : bl n = 0 ↔ n = 0 := by
  constructor
  · intro h
    rcases Nat.eq_zero_or_pos n with e | e
    · exact e
    · obtain ⟨k, hk, _⟩ := bl_spec (n := n) (by omega)
      omega
  · rintro rfl; rfl
/-- an integer as a result, nothing old changed -/
def VPost (x : Int) (w : World) (e : Ending) (w' : World) : Prop := e = .returned (.int .i64 x) ∧ Keep w w'
def BPost (b : Bool) (w : World) (e : Ending) (w' : World) : Prop := e = .returned (.bool b) ∧ Keep w w'
theorem RBox.new' (w : World) (b : Bool) (a : Option Addr) (n c : Nat) : Hid (RBox w.heap.size (.bool b) (.slice a n c) (w.alloc (.cells #[.bool b, .slice a n c] 51))) := Lib.hid (RBox.new w b a n c)
set_option maxHeartbeats 400000 in
theorem isign_c {w : World} {v : Value} {s : Bool} {n k : Nat} (h : Im w v s n k) (hk : k ≤ 1048576) : Calls Tryd.prog 52 #[v] w (VPost (sgn (iv s n)) w) := by
  obtain ⟨m, rfl, hm⟩ := h
  obtain ⟨a, len, cap, l, rfl, hr, hn, hl⟩ := hm.form
  have BT := Lib.hid (bits_c a len cap l _ (hr.alloc (.cells #[.bool s, .slice a len cap] 51)) (by rw [← hr.len_eq]; omega))
  rw [hn] at BT
  obtain ⟨b, hb⟩ : ∃ b, bl n = b := ⟨_, rfl⟩
  rw [hb] at BT
  by_cases h0 : n = 0
  · have hb0 : b = 0 := by rw [← hb, h0]; rfl
    have hs : Hid (sgn (iv s n) = 0) := Lib.hid (by rw [h0]; cases s <;> rfl)
    subst hb0
    rw [hs.out]
    clear hm hr hn hl hb h0
    go_enter Tryd.func52, Tryd.ntmps52
    go_wp2_with fail
    refine Calls.mono BT.out ?_
    rintro e w1 ⟨rfl, rfl⟩
    go_wp2_with fail
    go_ret
    exact ⟨rfl, (Keep.refl _).alloc _⟩
  · have hb0 : ((b : Int) == 0) = false := by
      have : b ≠ 0 := by rw [← hb]; intro e; exact h0 (bl_zero_iff.1 e)
      simp; omega
    cases s
    · have hs : Hid (sgn (iv false n) = 1) := Lib.hid (by unfold sgn iv; simp; omega)
      rw [hs.out]
      clear hm hr hn hl hb h0
      go_enter Tryd.func52, Tryd.ntmps52
      go_wp2_with fail
      refine Calls.mono BT.out ?_
      rintro e w1 ⟨rfl, rfl⟩
      go_wp2_with fail
      go_ret
      exact ⟨rfl, (Keep.refl _).alloc _⟩
    · have hs : Hid (sgn (iv true n) = -1) := Lib.hid (by unfold sgn iv; simp; omega)
      rw [hs.out]
      clear hm hr hn hl hb h0
      go_enter Tryd.func52, Tryd.ntmps52
      go_wp2_with fail
      refine Calls.mono BT.out ?_
      rintro e w1 ⟨rfl, rfl⟩
      go_wp2_with fail
      go_ret
      exact ⟨rfl, (Keep.refl _).alloc _⟩
theorem Ci.form' {w : World} {v : Value} {z : Int} (h : Ci w v z) : ∃ a n c, v = .agg #[.bool (decide (z < 0)), .slice a n c] ∧ (dig z.natAbs).length = n ∧ Rd w a n c (dig z.natAbs) := by
  obtain ⟨m, rfl, hm⟩ := h
  obtain ⟨a, c, rfl, hr⟩ := hm.form
  exact ⟨a, _, c, rfl, rfl, hr⟩
set_option maxHeartbeats 800000 in
theorem risign_c {w : World} {v : Value} {s : Bool} {n k : Nat} (h : Im w v s n k) (hk : k ≤ 1048576) : Calls Tryd.prog 58 #[v] w (VPost (sgn (iv s n)) w) := by
  obtain ⟨m, rfl, hm⟩ := h
  obtain ⟨a, len, cap, l, rfl, hr, hn, hl⟩ := hm.form
  obtain ⟨z, hz⟩ : ∃ z, iv s n = z := ⟨_, rfl⟩
  have K1 : Keep w (w.alloc (.cells #[.bool s, .slice a len cap] 51)) := (Keep.refl w).alloc _
  have MK := Lib.hid (rimake_c s (hm.keep K1) hk)
  rw [hz] at MK ⊢
  clear hm hr hn hl hz
  go_enter Tryd.func58, Tryd.ntmps58
  go_wp2_with fail
  refine Calls.mono MK.out ?_
  rintro e w1 ⟨u, rfl, hu, k1⟩
  obtain ⟨a0, d, c0, rfl, hd, hr⟩ := hu.form'
  have B1 := (RBox.new w s a len cap).keep k1
  have K2 := K1.trans k1
  have q5 := hr.le_cap
  have q6 := hr.cap_le
  have hdz : d = 0 ↔ z = 0 := by rw [← hd, dig_len_pos]; omega
  obtain ⟨hs1, _, r0, r1⟩ := B1.store K2 (Nat.le_refl _) (.bool (decide (z < 0))) (.slice a0 d c0)
  have FIN := Lib.hid hs1
  obtain ⟨q0, q1, q2, q3, _⟩ := B1
  by_cases h0 : z = 0
  · have hd0 : d = 0 := hdz.2 h0
    have hsg : Hid (sgn z = 0) := Lib.hid (by rw [h0]; rfl)
    subst hd0
    obtain ⟨sb, hsb⟩ : ∃ b, decide (z < 0) = b := ⟨_, rfl⟩
    rw [hsb] at FIN r0 r1 ⊢
    clear hs1 hr hu k1 K1 K2 hdz h0 hsb hd
    go_wp2
    go_ret
    exact ⟨by rw [hsg.out]; rfl, FIN.out⟩
  · have hdB : ((d : Int) == 0) = false := by simp; omega
    by_cases hneg : z < 0
    · have hsg : Hid (sgn z = -1) := Lib.hid (if_pos hneg)
      rw [decide_eq_true hneg] at FIN r0 r1 ⊢
      clear hs1 hr hu k1 K1 K2 hdz h0 hd hneg
      go_wp2
      go_ret
      exact ⟨by rw [hsg.out]; rfl, FIN.out⟩
    · have hsg : Hid (sgn z = 1) := Lib.hid (by unfold sgn; rw [if_neg hneg, if_neg h0])
      rw [decide_eq_false hneg] at FIN r0 r1 ⊢
      clear hs1 hr hu k1 K1 K2 hdz h0 hd hneg
      go_wp2
      go_ret
      exact ⟨by rw [hsg.out]; rfl, FIN.out⟩
/-- is the value canonical? -/
def canI (s : Bool) (l : List Nat) : Bool := canB l && !(s && l.length == 0)
end Go.Proofs.YtnalmjbgkedcoaaDoor
