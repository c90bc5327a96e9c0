/- Carried over from another seat by program (portn.py). -/
import Derived.Test.YtbcakefhknjbeaaDoorR6
namespace Go.Proofs.YtbcakefhknjbeaaDoor
open Go.RowKit
set_option linter.unusedVariables false
/-- a result that is about to be written, its parts known -/
theorem put_of {w0 w : World} {q : Rat} {g : Nat} {u0 u1 u2 : Value} {b : Bool} {a a' : Option Addr} {n c n' c' : Nat} (hb : decide (q.num < 0) = b) (h : Rd w a n c (dig q.num.natAbs)) (h' : Rd w a' n' c' (dig (wd q))) (B : QBox g u0 u1 u2 w) (hk : Keep w0 w) (hg : w0.heap.size ≤ g) :
      RPost q w0 (.returned (.agg #[.bool b, .slice a n c, .slice a' n' c'])) (((w.setCell ⟨g, 0, none⟩ (.bool b)).setCell ⟨g, 1, none⟩ (.slice a n c)).setCell ⟨g, 2, none⟩ (.slice a' n' c')) ∧
      Keep w0 (((w.setCell ⟨g, 0, none⟩ (.bool b)).setCell ⟨g, 1, none⟩ (.slice a n c)).setCell ⟨g, 2, none⟩ (.slice a' n' c')) ∧
      (w.setCell ⟨g, 0, none⟩ (.bool b)).cell? ⟨g, 0, none⟩ = some (.bool b) ∧ ((w.setCell ⟨g, 0, none⟩ (.bool b)).setCell ⟨g, 1, none⟩ (.slice a n c)).cell? ⟨g, 1, none⟩ = some (.slice a n c) ∧
      (((w.setCell ⟨g, 0, none⟩ (.bool b)).setCell ⟨g, 1, none⟩ (.slice a n c)).setCell ⟨g, 2, none⟩ (.slice a' n' c')).cell? ⟨g, 2, none⟩ = some (.slice a' n' c') := by
  obtain ⟨s1, s2, s3, s4, s5⟩ := B.store hk hg (.bool b) (.slice a n c) (.slice a' n' c')
  exact ⟨RPost.of hb (s2 _ _ _ _ h) (s2 _ _ _ _ h') s1, s1, s3, s4, s5⟩
theorem order_c (x y : Int) (w : World) : Calls Tryd.prog 89 #[.int .i64 x, .int .i64 y] w fun e w' => e = .returned (.int .i64 (iC x y)) ∧ w = w' := by
  rcases Int.lt_trichotomy x y with h | h | h
  · have e : iC x y = -1 := if_pos h
    have h1 : decide (x < y) = true := decide_eq_true h
    rw [e]
    clear e
    go_enter Tryd.func89, Tryd.ntmps89
    go_wp2
    go_ret
    exact ⟨rfl, rfl⟩
  · subst h
    have e : iC x x = 0 := by unfold iC; rw [if_neg (Int.lt_irrefl x), if_neg (Int.lt_irrefl x)]
    have h1 : decide (x < x) = false := decide_eq_false (Int.lt_irrefl x)
    rw [e]
    clear e
    go_enter Tryd.func89, Tryd.ntmps89
    go_wp2
    go_ret
    exact ⟨rfl, rfl⟩
  · have e : iC x y = 1 := by unfold iC; rw [if_neg (by omega), if_pos h]
    have h1 : decide (x < y) = false := decide_eq_false (by omega)
    have h2 : decide (y < x) = true := decide_eq_true h
    rw [e]
    clear e
    go_enter Tryd.func89, Tryd.ntmps89
    go_wp2
    go_ret
    exact ⟨rfl, rfl⟩
theorem orderU_c (x y : Nat) (w : World) : Calls Tryd.prog 91 #[.int .u64 x, .int .u64 y] w fun e w' => e = .returned (.int .i64 (iC x y)) ∧ w = w' := by
  rcases Nat.lt_trichotomy x y with h | h | h
  · have e : iC (x : Int) y = -1 := if_pos (by omega)
    have h1 : decide ((x : Int) < y) = true := decide_eq_true (by omega)
    rw [e]
    clear e
    go_enter Tryd.func91, Tryd.ntmps91
    go_wp2
    go_ret
    exact ⟨rfl, rfl⟩
  · subst h
    have e : iC (x : Int) x = 0 := by unfold iC; rw [if_neg (Int.lt_irrefl _), if_neg (Int.lt_irrefl _)]
    have h1 : decide ((x : Int) < x) = false := decide_eq_false (Int.lt_irrefl _)
    rw [e]
    clear e
    go_enter Tryd.func91, Tryd.ntmps91
    go_wp2
    go_ret
    exact ⟨rfl, rfl⟩
  · have e : iC (x : Int) y = 1 := by unfold iC; rw [if_neg (by omega), if_pos (by omega)]
    have h1 : decide ((x : Int) < y) = false := decide_eq_false (by omega)
    have h2 : decide ((y : Int) < x) = true := decide_eq_true (by omega)
    rw [e]
    clear e
    go_enter Tryd.func91, Tryd.ntmps91
    go_wp2
    go_ret
    exact ⟨rfl, rfl⟩
theorem rS_0 (s : Bool) (d : Nat) : rS (rv s 0 d) = 0 := by rw [rv_zero]; rfl
theorem rS_n (s : Bool) {n : Nat} (d : Nat) (h : n ≠ 0) : rS (rv s n d) = if s then -1 else 1 := by
  rw [rS_rv]
  cases s
  · show iC (n : Int) 0 = 1; unfold iC; rw [if_neg (by omega), if_pos (by omega)]
  · show iC (-(n : Int)) 0 = -1; unfold iC; rw [if_pos (by omega)]
theorem qsign_0 {w : World} {s : Bool} {a a' : Option Addr} {n c n' c' N k : Nat} (h : Nm w (.slice a n c) N k) (hk : k ≤ 1048576) (h0 : N = 0) : Calls Tryd.prog 88 #[.agg #[.bool s, .slice a n c, .slice a' n' c']] w (VPost (0) w) := by
  have K1 : Keep w (w.alloc (.cells #[.bool s, .slice a n c, .slice a' n' c'] 32)) := (Keep.refl w).alloc _
  have B_0 := Lib.hid (QBox.new w s a n c a' n' c')
  have X_0 := Lib.hid (h.keep K1)
  have KW_0 := Lib.hid K1
  have BT := Lib.hid (fun w1 (h : Nm w1 (.slice a n c) N k) => bits_n h hk)
  obtain ⟨z, hz⟩ : ∃ z, bl N = z := ⟨_, rfl⟩
  have hz0 : z = 0 := by rw [← hz]; exact bl_zero_iff.2 h0
  have e1 : ((z : Int) == 0) = true := by simp; exact hz0
  rw [hz] at BT
  clear h hz K1
  go_enter Tryd.func88, Tryd.ntmps88
  go_wp2_with fail
  refine Calls.mono (BT.out _ X_0.out) ?_
  rintro e w1 ⟨rfl, k1⟩
  have B_1 := Lib.hid (B_0.out.keep k1)
  have KW_1 := Lib.hid (KW_0.out.trans k1)
  clear k1 X_0 B_0 KW_0
  obtain ⟨B_c0, B_c1, B_c2, _, _, _, _⟩ := id B_1.out
  go_wp2
  go_ret
  exact ⟨rfl, KW_1.out⟩
theorem qsign_n {w : World} {a a' : Option Addr} {n c n' c' N k : Nat} (h : Nm w (.slice a n c) N k) (hk : k ≤ 1048576) (h0 : N ≠ 0) : Calls Tryd.prog 88 #[.agg #[.bool true, .slice a n c, .slice a' n' c']] w (VPost (-1) w) := by
  have K1 : Keep w (w.alloc (.cells #[.bool true, .slice a n c, .slice a' n' c'] 32)) := (Keep.refl w).alloc _
  have B_0 := Lib.hid (QBox.new w true a n c a' n' c')
  have X_0 := Lib.hid (h.keep K1)
  have KW_0 := Lib.hid K1
  have BT := Lib.hid (fun w1 (h : Nm w1 (.slice a n c) N k) => bits_n h hk)
  obtain ⟨z, hz⟩ : ∃ z, bl N = z := ⟨_, rfl⟩
  have hz0 : z ≠ 0 := by rw [← hz]; exact mt bl_zero_iff.1 h0
  have e1 : ((z : Int) == 0) = false := by simp; omega
  rw [hz] at BT
  clear h hz K1
  go_enter Tryd.func88, Tryd.ntmps88
  go_wp2_with fail
  refine Calls.mono (BT.out _ X_0.out) ?_
  rintro e w1 ⟨rfl, k1⟩
  have B_1 := Lib.hid (B_0.out.keep k1)
  have KW_1 := Lib.hid (KW_0.out.trans k1)
  clear k1 X_0 B_0 KW_0
  obtain ⟨B_c0, B_c1, B_c2, _, _, _, _⟩ := id B_1.out
  go_wp2
  go_ret
  exact ⟨rfl, KW_1.out⟩
theorem qsign_p {w : World} {a a' : Option Addr} {n c n' c' N k : Nat} (h : Nm w (.slice a n c) N k) (hk : k ≤ 1048576) (h0 : N ≠ 0) : Calls Tryd.prog 88 #[.agg #[.bool false, .slice a n c, .slice a' n' c']] w (VPost (1) w) := by
  have K1 : Keep w (w.alloc (.cells #[.bool false, .slice a n c, .slice a' n' c'] 32)) := (Keep.refl w).alloc _
  have B_0 := Lib.hid (QBox.new w false a n c a' n' c')
  have X_0 := Lib.hid (h.keep K1)
  have KW_0 := Lib.hid K1
  have BT := Lib.hid (fun w1 (h : Nm w1 (.slice a n c) N k) => bits_n h hk)
  obtain ⟨z, hz⟩ : ∃ z, bl N = z := ⟨_, rfl⟩
  have hz0 : z ≠ 0 := by rw [← hz]; exact mt bl_zero_iff.1 h0
  have e1 : ((z : Int) == 0) = false := by simp; omega
  rw [hz] at BT
  clear h hz K1
  go_enter Tryd.func88, Tryd.ntmps88
  go_wp2_with fail
  refine Calls.mono (BT.out _ X_0.out) ?_
  rintro e w1 ⟨rfl, k1⟩
  have B_1 := Lib.hid (B_0.out.keep k1)
  have KW_1 := Lib.hid (KW_0.out.trans k1)
  clear k1 X_0 B_0 KW_0
  obtain ⟨B_c0, B_c1, B_c2, _, _, _, _⟩ := id B_1.out
  go_wp2
  go_ret
  exact ⟨rfl, KW_1.out⟩
theorem qsign_c {w : World} {v : Value} {q : Rat} {k : Nat} (h : Ra w v q k) (hk : k ≤ 1048576) : Calls Tryd.prog 88 #[v] w (VPost (rS q) w) := by
  obtain ⟨s, a, n, c, a', n', c', N, D, rfl, hN, hD, rfl⟩ := h.form
  by_cases h0 : N = 0
  · have := qsign_0 (s := s) (a' := a') (n' := n') (c' := c') hN hk h0
    rw [h0, rS_0]; exact this
  · rw [rS_n s D h0]
    cases s
    · exact qsign_p hN hk h0
    · exact qsign_n hN hk h0
theorem of_parts (x : Int) : decide ((x : Rat).num < 0) = decide (x < 0) ∧ (x : Rat).num.natAbs = x.natAbs ∧ wd (x : Rat) = 0 := ⟨rfl, rfl, by unfold wd; rw [Rat.den_intCast, if_pos rfl]⟩
end Go.Proofs.YtbcakefhknjbeaaDoor
