/- isShift, signed, power. -/
import Derived.Test.YtnalmjbgkedcoaaDoorR7
import Derived.Deep.RegionHeld3
import Derived.Deep.Cut
namespace Go.Proofs.YtnalmjbgkedcoaaDoor.fx
open Go.RowKit
set_option linter.unusedVariables false

set_option linter.unusedSimpArgs false
set_option maxRecDepth 100000 in
theorem isShift_t (s : Int) (w : World) (h0 : 0 ≤ s) (h1 : s ≤ 62) : Calls Tryd.prog 20 #[.int .i64 s] w fun e w' => e = .returned (.bool true) ∧ w' = w := by
  go_enter Tryd.func20, Tryd.ntmps20
  go_wp2
  refine bodyPost_ret (results_tmp rfl _ _ _) rfl ?_
  exact ⟨rfl, rfl⟩
set_option maxRecDepth 100000 in
theorem isShift_f (s : Int) (w : World) (h : ¬ (0 ≤ s ∧ s ≤ 62)) : Calls Tryd.prog 20 #[.int .i64 s] w fun e w' => e = .returned (.bool false) ∧ w' = w := by
  by_cases h0 : 0 ≤ s
  · have h1 : ¬ (s ≤ 62) := fun h1 => h ⟨h0, h1⟩
    clear h
    go_enter Tryd.func20, Tryd.ntmps20
    go_wp2
    refine bodyPost_ret (results_tmp rfl _ _ _) rfl ?_
    exact ⟨rfl, rfl⟩
  · clear h
    go_enter Tryd.func20, Tryd.ntmps20
    go_wp2
    refine bodyPost_ret (results_tmp rfl _ _ _) rfl ?_
    exact ⟨rfl, rfl⟩
/-- what signed answers -/
def sgd (neg : Bool) (n : Nat) : Int × Int := if 4611686018427387904 < n then (0, 2) else (if neg then -(n : Int) else n, 0)
set_option maxRecDepth 100000 in
theorem signed_f (neg : Bool) (n : Nat) (w : World) (hn : n < 18446744073709551616) : Calls Tryd.prog 27 #[.bool neg, .int .u64 (n : Nat)] w fun e w' => e = .returned (.tuple #[.int .i64 (sgd neg n).1, .int .i64 (sgd neg n).2]) ∧ w' = w := by
  obtain ⟨r1, r2, hr⟩ : ∃ r1 r2, sgd neg n = (r1, r2) := ⟨_, _, rfl⟩
  have HR := Lib.hid hr
  rw [hr]
  clear hr
  dsimp only
  by_cases h : 4611686018427387904 < n
  · have hi : (4611686018427387904 : Int) < (n : Int) := by omega
    have E := HR.out
    unfold sgd at E
    rw [if_pos h] at E
    injection E with e1 e2
    subst e1; subst e2
    go_enter Tryd.func27, Tryd.ntmps27
    go_wp2
    refine bodyPost_ret (results_tmp2 rfl _ _ _) rfl ?_
    exact ⟨rfl, rfl⟩
  · have hi : ¬ ((4611686018427387904 : Int) < (n : Int)) := by omega
    have hn2 : (n : Int) ≤ 4611686018427387904 := by omega
    have E := HR.out
    unfold sgd at E
    rw [if_neg h] at E
    injection E with e1 e2
    cases neg with
    | false =>
      rw [if_neg (by decide)] at e1
      subst e1; subst e2
      go_enter Tryd.func27, Tryd.ntmps27
      go_wp2
      refine bodyPost_ret (results_tmp2 rfl _ _ _) rfl ?_
      exact ⟨rfl, rfl⟩
    | true =>
      rw [if_pos rfl] at e1
      subst e1; subst e2
      go_enter Tryd.func27, Tryd.ntmps27
      go_wp2
      refine bodyPost_ret (results_tmp2 rfl _ _ _) rfl ?_
      exact ⟨rfl, rfl⟩
/-- a power of two -/
def pw (k : Int) : Rat := (((2 ^ k.toNat : Nat) : Int) : Rat)
theorem one_nm (w : World) : Nm (w.alloc (.cells #[.int .u32 1] 56)) (.slice (some ⟨w.heap.size, 0, none⟩) 1 1) 1 1 :=
  ⟨[1], ⟨_, _, _, rfl, Rd.one w 1 (by rw [BB_eq]; omega) _⟩, by simp [nv], by simp⟩
set_option maxHeartbeats 4000000 in
set_option maxRecDepth 100000 in
theorem power_c (k : Int) (w : World) (h0 : 0 ≤ k) (h1 : k ≤ 63) : Calls Tryd.prog 23 #[.int .i64 k] w (RPost (pw k) w) := by
  obtain ⟨A1, hA1⟩ : ∃ q, w.alloc (.cells #[.bool false, .slice none 0 0, .slice none 0 0] 25) = q := ⟨_, rfl⟩
  have K1 := Lib.hid (show Keep w A1 by rw [← hA1]; exact (Keep.refl w).alloc _)
  have Q1 := Lib.hid (show QBox w.heap.size (.bool false) (.slice none 0 0) (.slice none 0 0) A1 by rw [← hA1]; exact QBox.new w false none 0 0 none 0 0)
  have SH := shl_n k (one_nm A1) (by omega)
  have e1 : shE k = 0 := if_neg (by omega)
  have e2 : shlN 1 k = 2 ^ k.toNat := by unfold shlN; rw [if_neg (by omega), Nat.one_mul]
  rw [e1, e2] at SH
  have C := Lib.hid SH
  obtain ⟨p1, p2, p3⟩ := of_parts ((2 ^ k.toNat : Nat) : Int)
  have P := Lib.hid (show decide ((pw k).num < 0) = false ∧ (pw k).num.natAbs = 2 ^ k.toNat ∧ wd (pw k) = 0 from ⟨p1.trans (decide_eq_false (Int.not_lt.2 (Int.natCast_nonneg _))), p2.trans (Int.natAbs_natCast _), p3⟩)
  obtain ⟨q, hq⟩ : ∃ q, pw k = q := ⟨_, rfl⟩
  rw [hq] at P ⊢
  have hA1' := Lib.hid hA1
  clear SH e1 e2 p1 p2 p3 hq hA1
  go_enter Tryd.func23, Tryd.ntmps23
  go_upto_region 1 with (fail)
  rw [hA1'.out]
  go_wp2_with fail
  refine C.out.mono ?_
  rintro e w2 ⟨x, rfl, hx, k2⟩
  obtain ⟨a, c, rfl, hr⟩ := hx.form
  have KZ := (Keep.refl A1).alloc (.cells #[.int .u32 1] 56)
  have B2 := (Q1.out.keep KZ).keep k2
  have K2 := Keep.trans (Keep.trans K1.out KZ) k2
  obtain ⟨hkk, hrd, s0, s1, s2⟩ := B2.store K2 (Nat.le_refl _) (.bool false) (.slice a (dig (2 ^ k.toNat)).length c) (.slice none 0 0)
  have FIN := Lib.hid (show RPost q w (.returned (.agg #[.bool false, .slice a (dig (2 ^ k.toNat)).length c, .slice none 0 0])) _ from ⟨_, rfl, Cr.of P.out.1 (by rw [P.out.2.1]; exact hrd _ _ _ _ hr) (by rw [P.out.2.2, dig_zero]; exact Rd.nil _), hkk⟩)
  obtain ⟨g0, g1, g2, f0, f1, f2, -⟩ := B2
  obtain ⟨n, hn⟩ : ∃ n, (dig (2 ^ k.toNat)).length = n := ⟨_, rfl⟩
  rw [hn] at FIN s1 s2 ⊢
  clear hx hr k2 KZ K2 hkk hrd C P hn
  go_wp2
  refine bodyPost_ret (v := .agg #[.bool false, .slice a n c, .slice none 0 0]) (by simp [results, Tryd.results23, go_sem, s0, s1, s2]) rfl ?_
  exact FIN.out

end Go.Proofs.YtnalmjbgkedcoaaDoor.fx
