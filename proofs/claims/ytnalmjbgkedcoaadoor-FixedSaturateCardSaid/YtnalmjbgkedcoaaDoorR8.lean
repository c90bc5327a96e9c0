/- Carried over from another seat by program (portn.py). -/
import Derived.Test.YtnalmjbgkedcoaaDoorR7
import Derived.Laws.Externs
namespace Go.Proofs.YtnalmjbgkedcoaaDoor
open Go.RowKit
set_option linter.unusedVariables false
theorem op2 (w : World) (s : Bool) (a : Option Addr) (n c : Nat) (a' : Option Addr) (n' c' : Nat) (t : Bool) (b : Option Addr) (m g : Nat) (b' : Option Addr) (m' g' : Nat) :
    Hid (QBox w.heap.size (.bool s) (.slice a n c) (.slice a' n' c') (((w.alloc (.cells #[.bool s, .slice a n c, .slice a' n' c'] 25)).alloc (.cells #[.bool t, .slice b m g, .slice b' m' g'] 25)).alloc (.cells #[.bool false, .slice none 0 0, .slice none 0 0] 25))) ∧ Hid (QBox (w.heap.size + 1) (.bool t) (.slice b m g) (.slice b' m' g') (((w.alloc (.cells #[.bool s, .slice a n c, .slice a' n' c'] 25)).alloc (.cells #[.bool t, .slice b m g, .slice b' m' g'] 25)).alloc (.cells #[.bool false, .slice none 0 0, .slice none 0 0] 25))) ∧
    Hid (QBox (w.heap.size + 1 + 1) (.bool false) (.slice none 0 0) (.slice none 0 0) (((w.alloc (.cells #[.bool s, .slice a n c, .slice a' n' c'] 25)).alloc (.cells #[.bool t, .slice b m g, .slice b' m' g'] 25)).alloc (.cells #[.bool false, .slice none 0 0, .slice none 0 0] 25))) ∧ Hid (Keep w (((w.alloc (.cells #[.bool s, .slice a n c, .slice a' n' c'] 25)).alloc (.cells #[.bool t, .slice b m g, .slice b' m' g'] 25)).alloc (.cells #[.bool false, .slice none 0 0, .slice none 0 0] 25))) :=
  ⟨Lib.hid ((QBox.new w s a n c a' n' c').keep (((Keep.refl _).alloc _).alloc _)), Lib.hid (((QBox.new (w.alloc _) t b m g b' m' g').at (sz1 _ _)).keep ((Keep.refl _).alloc _)),
    Lib.hid ((QBox.new ((w.alloc _).alloc _) false none 0 0 none 0 0).at (sz2 _ _ _)), Lib.hid ((((Keep.refl w).alloc _).alloc _).alloc _)⟩
theorem words_any {w : World} {s : Bool} {a a' : Option Addr} {n c n' c' : Nat} {l l' : List Nat} (hr : Rd w a n c l) (hr' : Rd w a' n' c' l') : Calls Tryd.prog 41 #[.agg #[.bool s, .slice a n c, .slice a' n' c']] w fun e w' => (∃ p q : Nat, ∃ r : Bool, e = .returned (.tuple #[.int .u64 (p : Nat), .int .u64 (q : Nat), .bool r])) ∧ Keep w w' := by
  by_cases h : n ≤ 1 ∧ n' ≤ 1
  · exact (words_t hr hr' h.1 h.2).mono fun e w' ⟨h1, h2⟩ => ⟨⟨_, _, _, h1⟩, h2⟩
  · exact (words_f hr hr' h).mono fun e w' ⟨h1, h2⟩ => ⟨⟨0, 0, _, h1⟩, h2⟩
theorem add64_run (x y : Nat) (S C : Nat) (hS : (x + y) % 18446744073709551616 = S) (hC : (x + y) / 18446744073709551616 = C) (w : World) :
    (callFunc 37 #[.int .u64 (x : Nat), .int .u64 (y : Nat), .int .u64 0]).run Tryd.prog w = .ok (.value (.tuple #[.int .u64 (S : Nat), .int .u64 (C : Nat)])) w := by
  rw [run_callFunc_extern Tryd.func37 (by kernel_rfl) (by kernel_rfl) (by kernel_rfl) (e := add64Entry) (by kernel_rfl), run_add64 (x : Int) (y : Int) 0 (by omega) (by omega) (by omega) (by omega)]
  subst hS
  subst hC
  simp only [Result.andThen]
  congr 5 <;> omega
/-- the answer of addWords -/
def AWPost (q : Rat) (w : World) (e : Ending) (w' : World) : Prop := R2Post q (.bool true) w e w' ∨ (e = .returned (.tuple #[.agg #[.bool false, .slice none 0 0, .slice none 0 0], .bool false]) ∧ Keep w w')
theorem Rd.keep {w w' : World} {a : Option Addr} {n c : Nat} {l : List Nat} (h : Rd w a n c l) (k : Keep w w') : Rd w' a n c l := h.below k
set_option maxHeartbeats 1000000 in
theorem addW_f1 {w : World} {s t : Bool} {a a' b b' : Option Addr} {n c n' c' m g m' g' : Nat} {l l' r r' : List Nat} (hx : Rd w a n c l) (hx' : Rd w a' n' c' l') (hy : Rd w b m g r) (hy' : Rd w b' m' g' r') (q : Rat) (h : ¬ (n ≤ 1 ∧ n' ≤ 1)) : Calls Tryd.prog 49 #[.agg #[.bool s, .slice a n c, .slice a' n' c'], .agg #[.bool t, .slice b m g, .slice b' m' g']] w (AWPost (q) w) := by
  obtain ⟨B_0, C_0, R_0, KW_0⟩ := op2 w s a n c a' n' c' t b m g b' m' g'
  have X_0 := Lib.hid (hx.below KW_0.out)
  have X'_0 := Lib.hid (hx'.below KW_0.out)
  have Y_0 := Lib.hid (hy.below KW_0.out)
  have Y'_0 := Lib.hid (hy'.below KW_0.out)
  have WA := Lib.hid (fun w1 (h1 : Rd w1 a n c l) (h2 : Rd w1 a' n' c' l') => words_f (s := s) h1 h2 h)
  have WB := Lib.hid (fun w1 (h1 : Rd w1 b m g r) (h2 : Rd w1 b' m' g' r') => words_any (s := t) h1 h2)
  clear hx hx' hy hy'
  go_enter Tryd.func49, Tryd.ntmps49
  obtain ⟨B_c0, B_c1, B_c2, _, _, _, _⟩ := id B_0.out
  obtain ⟨C_c0, C_c1, C_c2, _, _, _, _⟩ := id C_0.out
  obtain ⟨R_c0, R_c1, R_c2, _, _, _, _⟩ := id R_0.out
  go_wp2_with fail
  refine Calls.mono (WA.out _ X_0.out X'_0.out) ?_
  rintro e w1 ⟨rfl, k1⟩
  clear B_c0 B_c1 B_c2 C_c0 C_c1 C_c2 R_c0 R_c1 R_c2
  have Y_1 := Lib.hid (Y_0.out.keep k1)
  have Y'_1 := Lib.hid (Y'_0.out.keep k1)
  have B_1 := Lib.hid (B_0.out.keep k1)
  have C_1 := Lib.hid (C_0.out.keep k1)
  have R_1 := Lib.hid (R_0.out.keep k1)
  have KW_1 := Lib.hid (KW_0.out.trans k1)
  clear k1 X_0 X'_0 Y_0 Y'_0 B_0 C_0 R_0 KW_0
  obtain ⟨B_c0, B_c1, B_c2, _, _, _, _⟩ := id B_1.out
  obtain ⟨C_c0, C_c1, C_c2, _, _, _, _⟩ := id C_1.out
  obtain ⟨R_c0, R_c1, R_c2, _, _, _, _⟩ := id R_1.out
  go_wp2_with fail
  refine Calls.mono (WB.out _ Y_1.out Y'_1.out) ?_
  rintro e w2 ⟨⟨wp, wq, wr, rfl⟩, k2⟩
  clear B_c0 B_c1 B_c2 C_c0 C_c1 C_c2 R_c0 R_c1 R_c2
  have B_2 := Lib.hid (B_1.out.keep k2)
  have C_2 := Lib.hid (C_1.out.keep k2)
  have R_2 := Lib.hid (R_1.out.keep k2)
  have KW_2 := Lib.hid (KW_1.out.trans k2)
  clear k2 Y_1 Y'_1 B_1 C_1 R_1 KW_1
  obtain ⟨F, hkk, s0, s1, s2⟩ := put_of (w0 := w) (q := 0) (b := false) (a := none) (n := 0) (c := 0) (a' := none) (n' := 0) (c' := 0) (by decide) (by show Rd _ none 0 0 (dig 0); rw [dig_zero]; exact Rd.nil _) (by show Rd _ none 0 0 (dig 0); rw [dig_zero]; exact Rd.nil _) R_2.out KW_2.out (by omega)
  have FIN := Lib.hid (show AWPost q w (.returned (.tuple #[.agg #[.bool false, .slice none 0 0, .slice none 0 0], .bool false])) _ from .inr ⟨rfl, hkk⟩)
  obtain ⟨y0, y1, y2, f0, f1, f2, _⟩ := id R_2.out
  clear hkk F
  obtain ⟨B_c0, B_c1, B_c2, _, _, _, _⟩ := id B_2.out
  obtain ⟨C_c0, C_c1, C_c2, _, _, _, _⟩ := id C_2.out
  go_wp2
  refine bodyPost_ret (v := .tuple #[.agg #[.bool false, .slice none 0 0, .slice none 0 0], .bool false]) (by simp [results, Tryd.results49, go_sem, s0, s1, s2]) rfl ?_
  exact FIN.out
set_option maxHeartbeats 1000000 in
theorem addW_f2 {w : World} {s t : Bool} {a a' b b' : Option Addr} {n c n' c' m g m' g' : Nat} {l l' r r' : List Nat} (hx : Rd w a n c l) (hx' : Rd w a' n' c' l') (hy : Rd w b m g r) (hy' : Rd w b' m' g' r') (q : Rat) (h1 : n ≤ 1) (h2 : n' ≤ 1) (h : ¬ (m ≤ 1 ∧ m' ≤ 1)) : Calls Tryd.prog 49 #[.agg #[.bool s, .slice a n c, .slice a' n' c'], .agg #[.bool t, .slice b m g, .slice b' m' g']] w (AWPost (q) w) := by
  obtain ⟨B_0, C_0, R_0, KW_0⟩ := op2 w s a n c a' n' c' t b m g b' m' g'
  have X_0 := Lib.hid (hx.below KW_0.out)
  have X'_0 := Lib.hid (hx'.below KW_0.out)
  have Y_0 := Lib.hid (hy.below KW_0.out)
  have Y'_0 := Lib.hid (hy'.below KW_0.out)
  have WA := Lib.hid (fun w1 (g1 : Rd w1 a n c l) (g2 : Rd w1 a' n' c' l') => words_t (s := s) g1 g2 h1 h2)
  have WB := Lib.hid (fun w1 (h1 : Rd w1 b m g r) (h2 : Rd w1 b' m' g' r') => words_f (s := t) h1 h2 h)
  clear hx hx' hy hy'
  go_enter Tryd.func49, Tryd.ntmps49
  obtain ⟨B_c0, B_c1, B_c2, _, _, _, _⟩ := id B_0.out
  obtain ⟨C_c0, C_c1, C_c2, _, _, _, _⟩ := id C_0.out
  obtain ⟨R_c0, R_c1, R_c2, _, _, _, _⟩ := id R_0.out
  go_wp2_with fail
  refine Calls.mono (WA.out _ X_0.out X'_0.out) ?_
  rintro e w1 ⟨rfl, k1⟩
  clear B_c0 B_c1 B_c2 C_c0 C_c1 C_c2 R_c0 R_c1 R_c2
  have Y_1 := Lib.hid (Y_0.out.keep k1)
  have Y'_1 := Lib.hid (Y'_0.out.keep k1)
  have B_1 := Lib.hid (B_0.out.keep k1)
  have C_1 := Lib.hid (C_0.out.keep k1)
  have R_1 := Lib.hid (R_0.out.keep k1)
  have KW_1 := Lib.hid (KW_0.out.trans k1)
  clear k1 X_0 X'_0 Y_0 Y'_0 B_0 C_0 R_0 KW_0
  obtain ⟨B_c0, B_c1, B_c2, _, _, _, _⟩ := id B_1.out
  obtain ⟨C_c0, C_c1, C_c2, _, _, _, _⟩ := id C_1.out
  obtain ⟨R_c0, R_c1, R_c2, _, _, _, _⟩ := id R_1.out
  go_wp2_with fail
  refine Calls.mono (WB.out _ Y_1.out Y'_1.out) ?_
  rintro e w2 ⟨rfl, k2⟩
  clear B_c0 B_c1 B_c2 C_c0 C_c1 C_c2 R_c0 R_c1 R_c2
  have B_2 := Lib.hid (B_1.out.keep k2)
  have C_2 := Lib.hid (C_1.out.keep k2)
  have R_2 := Lib.hid (R_1.out.keep k2)
  have KW_2 := Lib.hid (KW_1.out.trans k2)
  clear k2 Y_1 Y'_1 B_1 C_1 R_1 KW_1
  obtain ⟨F, hkk, s0, s1, s2⟩ := put_of (w0 := w) (q := 0) (b := false) (a := none) (n := 0) (c := 0) (a' := none) (n' := 0) (c' := 0) (by decide) (by show Rd _ none 0 0 (dig 0); rw [dig_zero]; exact Rd.nil _) (by show Rd _ none 0 0 (dig 0); rw [dig_zero]; exact Rd.nil _) R_2.out KW_2.out (by omega)
  have FIN := Lib.hid (show AWPost q w (.returned (.tuple #[.agg #[.bool false, .slice none 0 0, .slice none 0 0], .bool false])) _ from .inr ⟨rfl, hkk⟩)
  obtain ⟨y0, y1, y2, f0, f1, f2, _⟩ := id R_2.out
  clear hkk F
  obtain ⟨B_c0, B_c1, B_c2, _, _, _, _⟩ := id B_2.out
  obtain ⟨C_c0, C_c1, C_c2, _, _, _, _⟩ := id C_2.out
  go_wp2
  refine bodyPost_ret (v := .tuple #[.agg #[.bool false, .slice none 0 0, .slice none 0 0], .bool false]) (by simp [results, Tryd.results49, go_sem, s0, s1, s2]) rfl ?_
  exact FIN.out
theorem short_lt {l : List Nat} (hl : Lim l) (h : l.length ≤ 1) : nv l < 4294967296 := by
  have h1 := nv_lt hl
  have h2 : BB ^ l.length ≤ BB ^ 1 := Nat.pow_le_pow_right BB_pos h
  have h3 : BB ^ 1 = 4294967296 := by decide
  rw [h3] at h2
  omega
theorem dn_lt {d : Nat} (h : d < 4294967296) : dn d < 4294967296 := by unfold dn; split <;> omega
theorem mul_word {a b : Nat} (h : a < 4294967296) (h' : b < 4294967296) : a * b < 18446744073709551616 := by
  calc a * b ≤ 4294967295 * 4294967295 := Nat.mul_le_mul (by omega) (by omega)
    _ < 18446744073709551616 := by decide
theorem mul_wrap {a b p : Nat} (h : a * b = p) (hp : p < 18446744073709551616) : IntKind.u64.wrap ((a : Int) * b) = (p : Nat) := by
  rw [show ((a : Int) * b) = (p : Nat) from by rw [← h]; push_cast; rfl]
  exact wr64 hp
theorem mkRat_iv (s : Bool) (n : Nat) {d : Nat} (h : d ≠ 0) : mkRat (iv s n) d = rv s n d := by unfold rv; rw [dn_of h]
set_option maxHeartbeats 1000000 in
theorem addW_ff0 {w : World} {a a' b b' : Option Addr} {n c n' c' m g m' g' : Nat} {l l' r r' : List Nat} (hx : Rd w a n c l) (hx' : Rd w a' n' c' l') (hy : Rd w b m g r) (hy' : Rd w b' m' g' r') (h1 : n ≤ 1) (h2 : n' ≤ 1) (h3 : m ≤ 1) (h4 : m' ≤ 1) (hc : nv l * dn (nv r') + nv r * dn (nv l') < 18446744073709551616) (hT : Tab w) : Calls Tryd.prog 49 #[.agg #[.bool false, .slice a n c, .slice a' n' c'], .agg #[.bool false, .slice b m g, .slice b' m' g']] w (AWPost (rv false (nv l) (nv l') + rv false (nv r) (nv r')) w) := by
  obtain ⟨B_0, C_0, R_0, KW_0⟩ := op2 w false a n c a' n' c' false b m g b' m' g'
  have T0 := Lib.hid (hT.keep KW_0.out)
  have X_0 := Lib.hid (hx.below KW_0.out)
  have X'_0 := Lib.hid (hx'.below KW_0.out)
  have Y_0 := Lib.hid (hy.below KW_0.out)
  have Y'_0 := Lib.hid (hy'.below KW_0.out)
  have lx := hx.len_eq
  have lx' := hx'.len_eq
  have ly := hy.len_eq
  have ly' := hy'.len_eq
  have bN : nv l < 4294967296 := short_lt hx.lim (by omega)
  have bD : dn (nv l') < 4294967296 := dn_lt (short_lt hx'.lim (by omega))
  have bM : nv r < 4294967296 := short_lt hy.lim (by omega)
  have bE : dn (nv r') < 4294967296 := dn_lt (short_lt hy'.lim (by omega))
  have dD := dn_ne (nv l')
  have dE := dn_ne (nv r')
  have WA := Lib.hid (fun w1 (g1 : Rd w1 a n c l) (g2 : Rd w1 a' n' c' l') => words_t (s := false) g1 g2 h1 h2)
  have WB := Lib.hid (fun w1 (g1 : Rd w1 b m g r) (g2 : Rd w1 b' m' g' r') => words_t (s := false) g1 g2 h3 h4)
  have pX := mul_word bN bE
  have pY := mul_word bM bD
  have pZ := mul_word bD bE
  have dZ : dn (nv l') * dn (nv r') ≠ 0 := Nat.mul_ne_zero dD dE
  have hq0 : rv false (nv l * dn (nv r') + nv r * dn (nv l')) (dn (nv l') * dn (nv r')) = rv false (nv l) (nv l') + rv false (nv r) (nv r') := by
    have hA : iv false (nv l * dn (nv r') + nv r * dn (nv l')) = iv false (nv l * dn (nv r')) + iv false (nv r * dn (nv l')) := by
      generalize nv l * dn (nv r') = x
      generalize nv r * dn (nv l') = y
      unfold iv; simp <;> omega
    rw [rv_add, ← hA, mkRat_iv false _ dZ]
  obtain ⟨q, hq⟩ : ∃ q, rv false (nv l) (nv l') + rv false (nv r) (nv r') = q := ⟨_, rfl⟩
  rw [hq]
  rw [hq] at hq0
  obtain ⟨N, hN⟩ : ∃ x, nv l = x := ⟨_, rfl⟩
  obtain ⟨D, hD⟩ : ∃ x, dn (nv l') = x := ⟨_, rfl⟩
  obtain ⟨M, hM⟩ : ∃ x, nv r = x := ⟨_, rfl⟩
  obtain ⟨E, hE⟩ : ∃ x, dn (nv r') = x := ⟨_, rfl⟩
  rw [hN, hD] at WA
  rw [hM, hE] at WB
  simp only [hN, hD, hM, hE] at hq0 pX pY pZ dZ hc
  obtain ⟨x, hx0⟩ : ∃ x, N * E = x := ⟨_, rfl⟩
  obtain ⟨y, hy0⟩ : ∃ x, M * D = x := ⟨_, rfl⟩
  obtain ⟨z, hz0⟩ : ∃ x, D * E = x := ⟨_, rfl⟩
  rw [hx0] at pX
  rw [hy0] at pY
  rw [hz0] at pZ dZ
  have m1 := mul_wrap hx0 pX
  have m2 := mul_wrap hy0 pY
  have m3 := mul_wrap hz0 pZ
  rw [hx0, hy0] at hc
  rw [hx0, hy0, hz0] at hq0
  have hadd := add64_run x y ((x + y) % 18446744073709551616) ((x + y) / 18446744073709551616) rfl rfl
  rw [show (x + y) / 18446744073709551616 = 0 from by omega, show (x + y) % 18446744073709551616 = x + y from by omega] at hadd
  obtain ⟨S, hS⟩ : ∃ S, x + y = S := ⟨_, rfl⟩
  rw [hS] at hadd hc hq0
  have RW := Lib.hid (fun w1 (hT1 : Tab w1) => reduceWords_c (w := w1) false S z hc pZ dZ hT1)
  rw [hq0] at RW
  clear hx hx' hy hy' hT hq hN hD hM hE lx lx' ly ly' dD dE hx0 hy0 hz0 hS hq0
  go_enter Tryd.func49, Tryd.ntmps49
  obtain ⟨B_c0, B_c1, B_c2, _, _, _, _⟩ := id B_0.out
  obtain ⟨C_c0, C_c1, C_c2, _, _, _, _⟩ := id C_0.out
  obtain ⟨R_c0, R_c1, R_c2, _, _, _, _⟩ := id R_0.out
  go_wp2_with fail
  refine Calls.mono (WA.out _ X_0.out X'_0.out) ?_
  rintro e w1 ⟨rfl, k1⟩
  clear B_c0 B_c1 B_c2 C_c0 C_c1 C_c2 R_c0 R_c1 R_c2
  have Y_1 := Lib.hid (Y_0.out.keep k1)
  have Y'_1 := Lib.hid (Y'_0.out.keep k1)
  have B_1 := Lib.hid (B_0.out.keep k1)
  have C_1 := Lib.hid (C_0.out.keep k1)
  have R_1 := Lib.hid (R_0.out.keep k1)
  have T_1 := Lib.hid (T0.out.keep k1)
  have KW_1 := Lib.hid (KW_0.out.trans k1)
  clear k1 X_0 X'_0 Y_0 Y'_0 B_0 C_0 R_0 T0 KW_0
  obtain ⟨B_c0, B_c1, B_c2, _, _, _, _⟩ := id B_1.out
  obtain ⟨C_c0, C_c1, C_c2, _, _, _, _⟩ := id C_1.out
  obtain ⟨R_c0, R_c1, R_c2, _, _, _, _⟩ := id R_1.out
  go_wp2_with fail
  refine Calls.mono (WB.out _ Y_1.out Y'_1.out) ?_
  rintro e w2 ⟨rfl, k2⟩
  clear B_c0 B_c1 B_c2 C_c0 C_c1 C_c2 R_c0 R_c1 R_c2
  have B_2 := Lib.hid (B_1.out.keep k2)
  have C_2 := Lib.hid (C_1.out.keep k2)
  have R_2 := Lib.hid (R_1.out.keep k2)
  have T_2 := Lib.hid (T_1.out.keep k2)
  have KW_2 := Lib.hid (KW_1.out.trans k2)
  clear k2 Y_1 Y'_1 B_1 C_1 R_1 T_1 KW_1
  obtain ⟨B_c0, B_c1, B_c2, _, _, _, _⟩ := id B_2.out
  obtain ⟨C_c0, C_c1, C_c2, _, _, _, _⟩ := id C_2.out
  obtain ⟨R_c0, R_c1, R_c2, _, _, _, _⟩ := id R_2.out
  go_wp2_with fail
  refine Calls.mono (RW.out _ T_2.out) ?_
  clear m1 m2 m3 hadd
  rintro e wz ⟨u, rfl, hu, kz⟩
  clear B_c0 B_c1 B_c2 C_c0 C_c1 C_c2 R_c0 R_c1 R_c2
  obtain ⟨b0, a0, n0, c0, a1, n1, c1, rfl, hcr, hkk, f0, f1, f2, g0, g1, g2, s0, s1, s2⟩ := hu.put (R_2.out.keep kz) (KW_2.out.trans kz) (by omega)
  have FIN := Lib.hid (show R2Post q (.bool true) w (.returned (.tuple #[.agg #[.bool b0, .slice a0 n0 c0, .slice a1 n1 c1], .bool true])) _ from ⟨_, rfl, hcr, hkk⟩)
  clear hcr hkk hu kz KW_2 B_2 C_2 R_2 T_2
  go_wp2
  refine bodyPost_ret (v := .tuple #[.agg #[.bool b0, .slice a0 n0 c0, .slice a1 n1 c1], .bool true]) (by simp [results, Tryd.results49, go_sem, s0, s1, s2]) rfl ?_
  exact .inl FIN.out
set_option maxHeartbeats 1000000 in
theorem addW_ff1 {w : World} {a a' b b' : Option Addr} {n c n' c' m g m' g' : Nat} {l l' r r' : List Nat} (hx : Rd w a n c l) (hx' : Rd w a' n' c' l') (hy : Rd w b m g r) (hy' : Rd w b' m' g' r') (h1 : n ≤ 1) (h2 : n' ≤ 1) (h3 : m ≤ 1) (h4 : m' ≤ 1) (hc : ¬ nv l * dn (nv r') + nv r * dn (nv l') < 18446744073709551616) (hT : Tab w) : Calls Tryd.prog 49 #[.agg #[.bool false, .slice a n c, .slice a' n' c'], .agg #[.bool false, .slice b m g, .slice b' m' g']] w (AWPost (rv false (nv l) (nv l') + rv false (nv r) (nv r')) w) := by
  obtain ⟨B_0, C_0, R_0, KW_0⟩ := op2 w false a n c a' n' c' false b m g b' m' g'
  have T0 := Lib.hid (hT.keep KW_0.out)
  have X_0 := Lib.hid (hx.below KW_0.out)
  have X'_0 := Lib.hid (hx'.below KW_0.out)
  have Y_0 := Lib.hid (hy.below KW_0.out)
  have Y'_0 := Lib.hid (hy'.below KW_0.out)
  have lx := hx.len_eq
  have lx' := hx'.len_eq
  have ly := hy.len_eq
  have ly' := hy'.len_eq
  have bN : nv l < 4294967296 := short_lt hx.lim (by omega)
  have bD : dn (nv l') < 4294967296 := dn_lt (short_lt hx'.lim (by omega))
  have bM : nv r < 4294967296 := short_lt hy.lim (by omega)
  have bE : dn (nv r') < 4294967296 := dn_lt (short_lt hy'.lim (by omega))
  have dD := dn_ne (nv l')
  have dE := dn_ne (nv r')
  have WA := Lib.hid (fun w1 (g1 : Rd w1 a n c l) (g2 : Rd w1 a' n' c' l') => words_t (s := false) g1 g2 h1 h2)
  have WB := Lib.hid (fun w1 (g1 : Rd w1 b m g r) (g2 : Rd w1 b' m' g' r') => words_t (s := false) g1 g2 h3 h4)
  have pX := mul_word bN bE
  have pY := mul_word bM bD
  have pZ := mul_word bD bE
  have dZ : dn (nv l') * dn (nv r') ≠ 0 := Nat.mul_ne_zero dD dE
  obtain ⟨q, hq⟩ : ∃ q, rv false (nv l) (nv l') + rv false (nv r) (nv r') = q := ⟨_, rfl⟩
  rw [hq]
  obtain ⟨N, hN⟩ : ∃ x, nv l = x := ⟨_, rfl⟩
  obtain ⟨D, hD⟩ : ∃ x, dn (nv l') = x := ⟨_, rfl⟩
  obtain ⟨M, hM⟩ : ∃ x, nv r = x := ⟨_, rfl⟩
  obtain ⟨E, hE⟩ : ∃ x, dn (nv r') = x := ⟨_, rfl⟩
  rw [hN, hD] at WA
  rw [hM, hE] at WB
  simp only [hN, hD, hM, hE] at pX pY pZ dZ hc
  obtain ⟨x, hx0⟩ : ∃ x, N * E = x := ⟨_, rfl⟩
  obtain ⟨y, hy0⟩ : ∃ x, M * D = x := ⟨_, rfl⟩
  obtain ⟨z, hz0⟩ : ∃ x, D * E = x := ⟨_, rfl⟩
  rw [hx0] at pX
  rw [hy0] at pY
  rw [hz0] at pZ dZ
  have m1 := mul_wrap hx0 pX
  have m2 := mul_wrap hy0 pY
  have m3 := mul_wrap hz0 pZ
  rw [hx0, hy0] at hc
  have hadd := add64_run x y ((x + y) % 18446744073709551616) ((x + y) / 18446744073709551616) rfl rfl
  rw [show (x + y) / 18446744073709551616 = 1 from by omega] at hadd
  obtain ⟨S, hS⟩ : ∃ S, (x + y) % 18446744073709551616 = S := ⟨_, rfl⟩
  rw [hS] at hadd
  clear hx hx' hy hy' hT hq hN hD hM hE lx lx' ly ly' dD dE hx0 hy0 hz0 hS 
  go_enter Tryd.func49, Tryd.ntmps49
  obtain ⟨B_c0, B_c1, B_c2, _, _, _, _⟩ := id B_0.out
  obtain ⟨C_c0, C_c1, C_c2, _, _, _, _⟩ := id C_0.out
  obtain ⟨R_c0, R_c1, R_c2, _, _, _, _⟩ := id R_0.out
  go_wp2_with fail
  refine Calls.mono (WA.out _ X_0.out X'_0.out) ?_
  rintro e w1 ⟨rfl, k1⟩
  clear B_c0 B_c1 B_c2 C_c0 C_c1 C_c2 R_c0 R_c1 R_c2
  have Y_1 := Lib.hid (Y_0.out.keep k1)
  have Y'_1 := Lib.hid (Y'_0.out.keep k1)
  have B_1 := Lib.hid (B_0.out.keep k1)
  have C_1 := Lib.hid (C_0.out.keep k1)
  have R_1 := Lib.hid (R_0.out.keep k1)
  have T_1 := Lib.hid (T0.out.keep k1)
  have KW_1 := Lib.hid (KW_0.out.trans k1)
  clear k1 X_0 X'_0 Y_0 Y'_0 B_0 C_0 R_0 T0 KW_0
  obtain ⟨B_c0, B_c1, B_c2, _, _, _, _⟩ := id B_1.out
  obtain ⟨C_c0, C_c1, C_c2, _, _, _, _⟩ := id C_1.out
  obtain ⟨R_c0, R_c1, R_c2, _, _, _, _⟩ := id R_1.out
  go_wp2_with fail
  refine Calls.mono (WB.out _ Y_1.out Y'_1.out) ?_
  rintro e w2 ⟨rfl, k2⟩
  clear B_c0 B_c1 B_c2 C_c0 C_c1 C_c2 R_c0 R_c1 R_c2
  have B_2 := Lib.hid (B_1.out.keep k2)
  have C_2 := Lib.hid (C_1.out.keep k2)
  have R_2 := Lib.hid (R_1.out.keep k2)
  have T_2 := Lib.hid (T_1.out.keep k2)
  have KW_2 := Lib.hid (KW_1.out.trans k2)
  clear k2 Y_1 Y'_1 B_1 C_1 R_1 T_1 KW_1
  obtain ⟨F, hkk, s0, s1, s2⟩ := put_of (w0 := w) (q := 0) (b := false) (a := none) (n := 0) (c := 0) (a' := none) (n' := 0) (c' := 0) (by decide) (by show Rd _ none 0 0 (dig 0); rw [dig_zero]; exact Rd.nil _) (by show Rd _ none 0 0 (dig 0); rw [dig_zero]; exact Rd.nil _) R_2.out KW_2.out (by omega)
  have FIN := Lib.hid (show AWPost q w (.returned (.tuple #[.agg #[.bool false, .slice none 0 0, .slice none 0 0], .bool false])) _ from .inr ⟨rfl, hkk⟩)
  obtain ⟨y0, y1, y2, f0, f1, f2, _⟩ := id R_2.out
  clear hkk F
  obtain ⟨B_c0, B_c1, B_c2, _, _, _, _⟩ := id B_2.out
  obtain ⟨C_c0, C_c1, C_c2, _, _, _, _⟩ := id C_2.out
  go_wp2
  refine bodyPost_ret (v := .tuple #[.agg #[.bool false, .slice none 0 0, .slice none 0 0], .bool false]) (by simp [results, Tryd.results49, go_sem, s0, s1, s2]) rfl ?_
  exact FIN.out
set_option maxHeartbeats 1000000 in
theorem addW_tt0 {w : World} {a a' b b' : Option Addr} {n c n' c' m g m' g' : Nat} {l l' r r' : List Nat} (hx : Rd w a n c l) (hx' : Rd w a' n' c' l') (hy : Rd w b m g r) (hy' : Rd w b' m' g' r') (h1 : n ≤ 1) (h2 : n' ≤ 1) (h3 : m ≤ 1) (h4 : m' ≤ 1) (hc : nv l * dn (nv r') + nv r * dn (nv l') < 18446744073709551616) (hT : Tab w) : Calls Tryd.prog 49 #[.agg #[.bool true, .slice a n c, .slice a' n' c'], .agg #[.bool true, .slice b m g, .slice b' m' g']] w (AWPost (rv true (nv l) (nv l') + rv true (nv r) (nv r')) w) := by
  obtain ⟨B_0, C_0, R_0, KW_0⟩ := op2 w true a n c a' n' c' true b m g b' m' g'
  have T0 := Lib.hid (hT.keep KW_0.out)
  have X_0 := Lib.hid (hx.below KW_0.out)
  have X'_0 := Lib.hid (hx'.below KW_0.out)
  have Y_0 := Lib.hid (hy.below KW_0.out)
  have Y'_0 := Lib.hid (hy'.below KW_0.out)
  have lx := hx.len_eq
  have lx' := hx'.len_eq
  have ly := hy.len_eq
  have ly' := hy'.len_eq
  have bN : nv l < 4294967296 := short_lt hx.lim (by omega)
  have bD : dn (nv l') < 4294967296 := dn_lt (short_lt hx'.lim (by omega))
  have bM : nv r < 4294967296 := short_lt hy.lim (by omega)
  have bE : dn (nv r') < 4294967296 := dn_lt (short_lt hy'.lim (by omega))
  have dD := dn_ne (nv l')
  have dE := dn_ne (nv r')
  have WA := Lib.hid (fun w1 (g1 : Rd w1 a n c l) (g2 : Rd w1 a' n' c' l') => words_t (s := true) g1 g2 h1 h2)
  have WB := Lib.hid (fun w1 (g1 : Rd w1 b m g r) (g2 : Rd w1 b' m' g' r') => words_t (s := true) g1 g2 h3 h4)
  have pX := mul_word bN bE
  have pY := mul_word bM bD
  have pZ := mul_word bD bE
  have dZ : dn (nv l') * dn (nv r') ≠ 0 := Nat.mul_ne_zero dD dE
  have hq0 : rv true (nv l * dn (nv r') + nv r * dn (nv l')) (dn (nv l') * dn (nv r')) = rv true (nv l) (nv l') + rv true (nv r) (nv r') := by
    have hA : iv true (nv l * dn (nv r') + nv r * dn (nv l')) = iv true (nv l * dn (nv r')) + iv true (nv r * dn (nv l')) := by
      generalize nv l * dn (nv r') = x
      generalize nv r * dn (nv l') = y
      unfold iv; simp <;> omega
    rw [rv_add, ← hA, mkRat_iv true _ dZ]
  obtain ⟨q, hq⟩ : ∃ q, rv true (nv l) (nv l') + rv true (nv r) (nv r') = q := ⟨_, rfl⟩
  rw [hq]
  rw [hq] at hq0
  obtain ⟨N, hN⟩ : ∃ x, nv l = x := ⟨_, rfl⟩
  obtain ⟨D, hD⟩ : ∃ x, dn (nv l') = x := ⟨_, rfl⟩
  obtain ⟨M, hM⟩ : ∃ x, nv r = x := ⟨_, rfl⟩
  obtain ⟨E, hE⟩ : ∃ x, dn (nv r') = x := ⟨_, rfl⟩
  rw [hN, hD] at WA
  rw [hM, hE] at WB
  simp only [hN, hD, hM, hE] at hq0 pX pY pZ dZ hc
  obtain ⟨x, hx0⟩ : ∃ x, N * E = x := ⟨_, rfl⟩
  obtain ⟨y, hy0⟩ : ∃ x, M * D = x := ⟨_, rfl⟩
  obtain ⟨z, hz0⟩ : ∃ x, D * E = x := ⟨_, rfl⟩
  rw [hx0] at pX
  rw [hy0] at pY
  rw [hz0] at pZ dZ
  have m1 := mul_wrap hx0 pX
  have m2 := mul_wrap hy0 pY
  have m3 := mul_wrap hz0 pZ
  rw [hx0, hy0] at hc
  rw [hx0, hy0, hz0] at hq0
  have hadd := add64_run x y ((x + y) % 18446744073709551616) ((x + y) / 18446744073709551616) rfl rfl
  rw [show (x + y) / 18446744073709551616 = 0 from by omega, show (x + y) % 18446744073709551616 = x + y from by omega] at hadd
  obtain ⟨S, hS⟩ : ∃ S, x + y = S := ⟨_, rfl⟩
  rw [hS] at hadd hc hq0
  have RW := Lib.hid (fun w1 (hT1 : Tab w1) => reduceWords_c (w := w1) true S z hc pZ dZ hT1)
  rw [hq0] at RW
  clear hx hx' hy hy' hT hq hN hD hM hE lx lx' ly ly' dD dE hx0 hy0 hz0 hS hq0
  go_enter Tryd.func49, Tryd.ntmps49
  obtain ⟨B_c0, B_c1, B_c2, _, _, _, _⟩ := id B_0.out
  obtain ⟨C_c0, C_c1, C_c2, _, _, _, _⟩ := id C_0.out
  obtain ⟨R_c0, R_c1, R_c2, _, _, _, _⟩ := id R_0.out
  go_wp2_with fail
  refine Calls.mono (WA.out _ X_0.out X'_0.out) ?_
  rintro e w1 ⟨rfl, k1⟩
  clear B_c0 B_c1 B_c2 C_c0 C_c1 C_c2 R_c0 R_c1 R_c2
  have Y_1 := Lib.hid (Y_0.out.keep k1)
  have Y'_1 := Lib.hid (Y'_0.out.keep k1)
  have B_1 := Lib.hid (B_0.out.keep k1)
  have C_1 := Lib.hid (C_0.out.keep k1)
  have R_1 := Lib.hid (R_0.out.keep k1)
  have T_1 := Lib.hid (T0.out.keep k1)
  have KW_1 := Lib.hid (KW_0.out.trans k1)
  clear k1 X_0 X'_0 Y_0 Y'_0 B_0 C_0 R_0 T0 KW_0
  obtain ⟨B_c0, B_c1, B_c2, _, _, _, _⟩ := id B_1.out
  obtain ⟨C_c0, C_c1, C_c2, _, _, _, _⟩ := id C_1.out
  obtain ⟨R_c0, R_c1, R_c2, _, _, _, _⟩ := id R_1.out
  go_wp2_with fail
  refine Calls.mono (WB.out _ Y_1.out Y'_1.out) ?_
  rintro e w2 ⟨rfl, k2⟩
  clear B_c0 B_c1 B_c2 C_c0 C_c1 C_c2 R_c0 R_c1 R_c2
  have B_2 := Lib.hid (B_1.out.keep k2)
  have C_2 := Lib.hid (C_1.out.keep k2)
  have R_2 := Lib.hid (R_1.out.keep k2)
  have T_2 := Lib.hid (T_1.out.keep k2)
  have KW_2 := Lib.hid (KW_1.out.trans k2)
  clear k2 Y_1 Y'_1 B_1 C_1 R_1 T_1 KW_1
  obtain ⟨B_c0, B_c1, B_c2, _, _, _, _⟩ := id B_2.out
  obtain ⟨C_c0, C_c1, C_c2, _, _, _, _⟩ := id C_2.out
  obtain ⟨R_c0, R_c1, R_c2, _, _, _, _⟩ := id R_2.out
  go_wp2_with fail
  refine Calls.mono (RW.out _ T_2.out) ?_
  clear m1 m2 m3 hadd
  rintro e wz ⟨u, rfl, hu, kz⟩
  clear B_c0 B_c1 B_c2 C_c0 C_c1 C_c2 R_c0 R_c1 R_c2
  obtain ⟨b0, a0, n0, c0, a1, n1, c1, rfl, hcr, hkk, f0, f1, f2, g0, g1, g2, s0, s1, s2⟩ := hu.put (R_2.out.keep kz) (KW_2.out.trans kz) (by omega)
  have FIN := Lib.hid (show R2Post q (.bool true) w (.returned (.tuple #[.agg #[.bool b0, .slice a0 n0 c0, .slice a1 n1 c1], .bool true])) _ from ⟨_, rfl, hcr, hkk⟩)
  clear hcr hkk hu kz KW_2 B_2 C_2 R_2 T_2
  go_wp2
  refine bodyPost_ret (v := .tuple #[.agg #[.bool b0, .slice a0 n0 c0, .slice a1 n1 c1], .bool true]) (by simp [results, Tryd.results49, go_sem, s0, s1, s2]) rfl ?_
  exact .inl FIN.out
set_option maxHeartbeats 1000000 in
theorem addW_tt1 {w : World} {a a' b b' : Option Addr} {n c n' c' m g m' g' : Nat} {l l' r r' : List Nat} (hx : Rd w a n c l) (hx' : Rd w a' n' c' l') (hy : Rd w b m g r) (hy' : Rd w b' m' g' r') (h1 : n ≤ 1) (h2 : n' ≤ 1) (h3 : m ≤ 1) (h4 : m' ≤ 1) (hc : ¬ nv l * dn (nv r') + nv r * dn (nv l') < 18446744073709551616) (hT : Tab w) : Calls Tryd.prog 49 #[.agg #[.bool true, .slice a n c, .slice a' n' c'], .agg #[.bool true, .slice b m g, .slice b' m' g']] w (AWPost (rv true (nv l) (nv l') + rv true (nv r) (nv r')) w) := by
  obtain ⟨B_0, C_0, R_0, KW_0⟩ := op2 w true a n c a' n' c' true b m g b' m' g'
  have T0 := Lib.hid (hT.keep KW_0.out)
  have X_0 := Lib.hid (hx.below KW_0.out)
  have X'_0 := Lib.hid (hx'.below KW_0.out)
  have Y_0 := Lib.hid (hy.below KW_0.out)
  have Y'_0 := Lib.hid (hy'.below KW_0.out)
  have lx := hx.len_eq
  have lx' := hx'.len_eq
  have ly := hy.len_eq
  have ly' := hy'.len_eq
  have bN : nv l < 4294967296 := short_lt hx.lim (by omega)
  have bD : dn (nv l') < 4294967296 := dn_lt (short_lt hx'.lim (by omega))
  have bM : nv r < 4294967296 := short_lt hy.lim (by omega)
  have bE : dn (nv r') < 4294967296 := dn_lt (short_lt hy'.lim (by omega))
  have dD := dn_ne (nv l')
  have dE := dn_ne (nv r')
  have WA := Lib.hid (fun w1 (g1 : Rd w1 a n c l) (g2 : Rd w1 a' n' c' l') => words_t (s := true) g1 g2 h1 h2)
  have WB := Lib.hid (fun w1 (g1 : Rd w1 b m g r) (g2 : Rd w1 b' m' g' r') => words_t (s := true) g1 g2 h3 h4)
  have pX := mul_word bN bE
  have pY := mul_word bM bD
  have pZ := mul_word bD bE
  have dZ : dn (nv l') * dn (nv r') ≠ 0 := Nat.mul_ne_zero dD dE
  obtain ⟨q, hq⟩ : ∃ q, rv true (nv l) (nv l') + rv true (nv r) (nv r') = q := ⟨_, rfl⟩
  rw [hq]
  obtain ⟨N, hN⟩ : ∃ x, nv l = x := ⟨_, rfl⟩
  obtain ⟨D, hD⟩ : ∃ x, dn (nv l') = x := ⟨_, rfl⟩
  obtain ⟨M, hM⟩ : ∃ x, nv r = x := ⟨_, rfl⟩
  obtain ⟨E, hE⟩ : ∃ x, dn (nv r') = x := ⟨_, rfl⟩
  rw [hN, hD] at WA
  rw [hM, hE] at WB
  simp only [hN, hD, hM, hE] at pX pY pZ dZ hc
  obtain ⟨x, hx0⟩ : ∃ x, N * E = x := ⟨_, rfl⟩
  obtain ⟨y, hy0⟩ : ∃ x, M * D = x := ⟨_, rfl⟩
  obtain ⟨z, hz0⟩ : ∃ x, D * E = x := ⟨_, rfl⟩
  rw [hx0] at pX
  rw [hy0] at pY
  rw [hz0] at pZ dZ
  have m1 := mul_wrap hx0 pX
  have m2 := mul_wrap hy0 pY
  have m3 := mul_wrap hz0 pZ
  rw [hx0, hy0] at hc
  have hadd := add64_run x y ((x + y) % 18446744073709551616) ((x + y) / 18446744073709551616) rfl rfl
  rw [show (x + y) / 18446744073709551616 = 1 from by omega] at hadd
  obtain ⟨S, hS⟩ : ∃ S, (x + y) % 18446744073709551616 = S := ⟨_, rfl⟩
  rw [hS] at hadd
  clear hx hx' hy hy' hT hq hN hD hM hE lx lx' ly ly' dD dE hx0 hy0 hz0 hS 
  go_enter Tryd.func49, Tryd.ntmps49
  obtain ⟨B_c0, B_c1, B_c2, _, _, _, _⟩ := id B_0.out
  obtain ⟨C_c0, C_c1, C_c2, _, _, _, _⟩ := id C_0.out
  obtain ⟨R_c0, R_c1, R_c2, _, _, _, _⟩ := id R_0.out
  go_wp2_with fail
  refine Calls.mono (WA.out _ X_0.out X'_0.out) ?_
  rintro e w1 ⟨rfl, k1⟩
  clear B_c0 B_c1 B_c2 C_c0 C_c1 C_c2 R_c0 R_c1 R_c2
  have Y_1 := Lib.hid (Y_0.out.keep k1)
  have Y'_1 := Lib.hid (Y'_0.out.keep k1)
  have B_1 := Lib.hid (B_0.out.keep k1)
  have C_1 := Lib.hid (C_0.out.keep k1)
  have R_1 := Lib.hid (R_0.out.keep k1)
  have T_1 := Lib.hid (T0.out.keep k1)
  have KW_1 := Lib.hid (KW_0.out.trans k1)
  clear k1 X_0 X'_0 Y_0 Y'_0 B_0 C_0 R_0 T0 KW_0
  obtain ⟨B_c0, B_c1, B_c2, _, _, _, _⟩ := id B_1.out
  obtain ⟨C_c0, C_c1, C_c2, _, _, _, _⟩ := id C_1.out
  obtain ⟨R_c0, R_c1, R_c2, _, _, _, _⟩ := id R_1.out
  go_wp2_with fail
  refine Calls.mono (WB.out _ Y_1.out Y'_1.out) ?_
  rintro e w2 ⟨rfl, k2⟩
  clear B_c0 B_c1 B_c2 C_c0 C_c1 C_c2 R_c0 R_c1 R_c2
  have B_2 := Lib.hid (B_1.out.keep k2)
  have C_2 := Lib.hid (C_1.out.keep k2)
  have R_2 := Lib.hid (R_1.out.keep k2)
  have T_2 := Lib.hid (T_1.out.keep k2)
  have KW_2 := Lib.hid (KW_1.out.trans k2)
  clear k2 Y_1 Y'_1 B_1 C_1 R_1 T_1 KW_1
  obtain ⟨F, hkk, s0, s1, s2⟩ := put_of (w0 := w) (q := 0) (b := false) (a := none) (n := 0) (c := 0) (a' := none) (n' := 0) (c' := 0) (by decide) (by show Rd _ none 0 0 (dig 0); rw [dig_zero]; exact Rd.nil _) (by show Rd _ none 0 0 (dig 0); rw [dig_zero]; exact Rd.nil _) R_2.out KW_2.out (by omega)
  have FIN := Lib.hid (show AWPost q w (.returned (.tuple #[.agg #[.bool false, .slice none 0 0, .slice none 0 0], .bool false])) _ from .inr ⟨rfl, hkk⟩)
  obtain ⟨y0, y1, y2, f0, f1, f2, _⟩ := id R_2.out
  clear hkk F
  obtain ⟨B_c0, B_c1, B_c2, _, _, _, _⟩ := id B_2.out
  obtain ⟨C_c0, C_c1, C_c2, _, _, _, _⟩ := id C_2.out
  go_wp2
  refine bodyPost_ret (v := .tuple #[.agg #[.bool false, .slice none 0 0, .slice none 0 0], .bool false]) (by simp [results, Tryd.results49, go_sem, s0, s1, s2]) rfl ?_
  exact FIN.out
set_option maxHeartbeats 1000000 in
theorem addW_ft0 {w : World} {a a' b b' : Option Addr} {n c n' c' m g m' g' : Nat} {l l' r r' : List Nat} (hx : Rd w a n c l) (hx' : Rd w a' n' c' l') (hy : Rd w b m g r) (hy' : Rd w b' m' g' r') (h1 : n ≤ 1) (h2 : n' ≤ 1) (h3 : m ≤ 1) (h4 : m' ≤ 1) (hc : nv r * dn (nv l') ≤ nv l * dn (nv r')) (hT : Tab w) : Calls Tryd.prog 49 #[.agg #[.bool false, .slice a n c, .slice a' n' c'], .agg #[.bool true, .slice b m g, .slice b' m' g']] w (AWPost (rv false (nv l) (nv l') + rv true (nv r) (nv r')) w) := by
  obtain ⟨B_0, C_0, R_0, KW_0⟩ := op2 w false a n c a' n' c' true b m g b' m' g'
  have T0 := Lib.hid (hT.keep KW_0.out)
  have X_0 := Lib.hid (hx.below KW_0.out)
  have X'_0 := Lib.hid (hx'.below KW_0.out)
  have Y_0 := Lib.hid (hy.below KW_0.out)
  have Y'_0 := Lib.hid (hy'.below KW_0.out)
  have lx := hx.len_eq
  have lx' := hx'.len_eq
  have ly := hy.len_eq
  have ly' := hy'.len_eq
  have bN : nv l < 4294967296 := short_lt hx.lim (by omega)
  have bD : dn (nv l') < 4294967296 := dn_lt (short_lt hx'.lim (by omega))
  have bM : nv r < 4294967296 := short_lt hy.lim (by omega)
  have bE : dn (nv r') < 4294967296 := dn_lt (short_lt hy'.lim (by omega))
  have dD := dn_ne (nv l')
  have dE := dn_ne (nv r')
  have WA := Lib.hid (fun w1 (g1 : Rd w1 a n c l) (g2 : Rd w1 a' n' c' l') => words_t (s := false) g1 g2 h1 h2)
  have WB := Lib.hid (fun w1 (g1 : Rd w1 b m g r) (g2 : Rd w1 b' m' g' r') => words_t (s := true) g1 g2 h3 h4)
  have pX := mul_word bN bE
  have pY := mul_word bM bD
  have pZ := mul_word bD bE
  have dZ : dn (nv l') * dn (nv r') ≠ 0 := Nat.mul_ne_zero dD dE
  have hq0 : rv false (nv l * dn (nv r') - nv r * dn (nv l')) (dn (nv l') * dn (nv r')) = rv false (nv l) (nv l') + rv true (nv r) (nv r') := by
    rw [rv_add, ← mkRat_iv false _ dZ]
    generalize nv l * dn (nv r') = x at *
    generalize nv r * dn (nv l') = y at *
    congr 1; simp [iv]; omega
  obtain ⟨q, hq⟩ : ∃ q, rv false (nv l) (nv l') + rv true (nv r) (nv r') = q := ⟨_, rfl⟩
  rw [hq]
  rw [hq] at hq0
  obtain ⟨N, hN⟩ : ∃ x, nv l = x := ⟨_, rfl⟩
  obtain ⟨D, hD⟩ : ∃ x, dn (nv l') = x := ⟨_, rfl⟩
  obtain ⟨M, hM⟩ : ∃ x, nv r = x := ⟨_, rfl⟩
  obtain ⟨E, hE⟩ : ∃ x, dn (nv r') = x := ⟨_, rfl⟩
  rw [hN, hD] at WA
  rw [hM, hE] at WB
  simp only [hN, hD, hM, hE] at hq0 pX pY pZ dZ hc
  obtain ⟨x, hx0⟩ : ∃ x, N * E = x := ⟨_, rfl⟩
  obtain ⟨y, hy0⟩ : ∃ x, M * D = x := ⟨_, rfl⟩
  obtain ⟨z, hz0⟩ : ∃ x, D * E = x := ⟨_, rfl⟩
  rw [hx0] at pX
  rw [hy0] at pY
  rw [hz0] at pZ dZ
  have m1 := mul_wrap hx0 pX
  have m2 := mul_wrap hy0 pY
  have m3 := mul_wrap hz0 pZ
  rw [hx0, hy0] at hc
  rw [hx0, hy0, hz0] at hq0
  have hcd : decide ((y : Int) ≤ x) = true := decide_eq_true (by omega)
  obtain ⟨S, hS⟩ : ∃ S, x - y = S := ⟨_, rfl⟩
  rw [hS] at hq0
  have m4 : IntKind.u64.wrap ((x : Int) - y) = (S : Nat) := by rw [show (x : Int) - y = (S : Nat) from by omega]; exact wr64 (by omega)
  have m5 : (x : Int) - y = (S : Nat) := by omega
  have RW := Lib.hid (fun w1 (hT1 : Tab w1) => reduceWords_c (w := w1) false S z (by omega) pZ dZ hT1)
  rw [hq0] at RW
  clear hx hx' hy hy' hT hq hN hD hM hE lx lx' ly ly' dD dE hx0 hy0 hz0 hS hq0
  go_enter Tryd.func49, Tryd.ntmps49
  obtain ⟨B_c0, B_c1, B_c2, _, _, _, _⟩ := id B_0.out
  obtain ⟨C_c0, C_c1, C_c2, _, _, _, _⟩ := id C_0.out
  obtain ⟨R_c0, R_c1, R_c2, _, _, _, _⟩ := id R_0.out
  go_wp2_with fail
  refine Calls.mono (WA.out _ X_0.out X'_0.out) ?_
  rintro e w1 ⟨rfl, k1⟩
  clear B_c0 B_c1 B_c2 C_c0 C_c1 C_c2 R_c0 R_c1 R_c2
  have Y_1 := Lib.hid (Y_0.out.keep k1)
  have Y'_1 := Lib.hid (Y'_0.out.keep k1)
  have B_1 := Lib.hid (B_0.out.keep k1)
  have C_1 := Lib.hid (C_0.out.keep k1)
  have R_1 := Lib.hid (R_0.out.keep k1)
  have T_1 := Lib.hid (T0.out.keep k1)
  have KW_1 := Lib.hid (KW_0.out.trans k1)
  clear k1 X_0 X'_0 Y_0 Y'_0 B_0 C_0 R_0 T0 KW_0
  obtain ⟨B_c0, B_c1, B_c2, _, _, _, _⟩ := id B_1.out
  obtain ⟨C_c0, C_c1, C_c2, _, _, _, _⟩ := id C_1.out
  obtain ⟨R_c0, R_c1, R_c2, _, _, _, _⟩ := id R_1.out
  go_wp2_with fail
  refine Calls.mono (WB.out _ Y_1.out Y'_1.out) ?_
  rintro e w2 ⟨rfl, k2⟩
  clear B_c0 B_c1 B_c2 C_c0 C_c1 C_c2 R_c0 R_c1 R_c2
  have B_2 := Lib.hid (B_1.out.keep k2)
  have C_2 := Lib.hid (C_1.out.keep k2)
  have R_2 := Lib.hid (R_1.out.keep k2)
  have T_2 := Lib.hid (T_1.out.keep k2)
  have KW_2 := Lib.hid (KW_1.out.trans k2)
  clear k2 Y_1 Y'_1 B_1 C_1 R_1 T_1 KW_1
  obtain ⟨B_c0, B_c1, B_c2, _, _, _, _⟩ := id B_2.out
  obtain ⟨C_c0, C_c1, C_c2, _, _, _, _⟩ := id C_2.out
  obtain ⟨R_c0, R_c1, R_c2, _, _, _, _⟩ := id R_2.out
  go_wp2_with fail
  refine Calls.mono (RW.out _ T_2.out) ?_
  clear m1 m2 m3 m4 m5
  rintro e wz ⟨u, rfl, hu, kz⟩
  clear B_c0 B_c1 B_c2 C_c0 C_c1 C_c2 R_c0 R_c1 R_c2
  obtain ⟨b0, a0, n0, c0, a1, n1, c1, rfl, hcr, hkk, f0, f1, f2, g0, g1, g2, s0, s1, s2⟩ := hu.put (R_2.out.keep kz) (KW_2.out.trans kz) (by omega)
  have FIN := Lib.hid (show R2Post q (.bool true) w (.returned (.tuple #[.agg #[.bool b0, .slice a0 n0 c0, .slice a1 n1 c1], .bool true])) _ from ⟨_, rfl, hcr, hkk⟩)
  clear hcr hkk hu kz KW_2 B_2 C_2 R_2 T_2
  go_wp2
  refine bodyPost_ret (v := .tuple #[.agg #[.bool b0, .slice a0 n0 c0, .slice a1 n1 c1], .bool true]) (by simp [results, Tryd.results49, go_sem, s0, s1, s2]) rfl ?_
  exact .inl FIN.out
set_option maxHeartbeats 1000000 in
theorem addW_ft1 {w : World} {a a' b b' : Option Addr} {n c n' c' m g m' g' : Nat} {l l' r r' : List Nat} (hx : Rd w a n c l) (hx' : Rd w a' n' c' l') (hy : Rd w b m g r) (hy' : Rd w b' m' g' r') (h1 : n ≤ 1) (h2 : n' ≤ 1) (h3 : m ≤ 1) (h4 : m' ≤ 1) (hc : ¬ nv r * dn (nv l') ≤ nv l * dn (nv r')) (hT : Tab w) : Calls Tryd.prog 49 #[.agg #[.bool false, .slice a n c, .slice a' n' c'], .agg #[.bool true, .slice b m g, .slice b' m' g']] w (AWPost (rv false (nv l) (nv l') + rv true (nv r) (nv r')) w) := by
  obtain ⟨B_0, C_0, R_0, KW_0⟩ := op2 w false a n c a' n' c' true b m g b' m' g'
  have T0 := Lib.hid (hT.keep KW_0.out)
  have X_0 := Lib.hid (hx.below KW_0.out)
  have X'_0 := Lib.hid (hx'.below KW_0.out)
  have Y_0 := Lib.hid (hy.below KW_0.out)
  have Y'_0 := Lib.hid (hy'.below KW_0.out)
  have lx := hx.len_eq
  have lx' := hx'.len_eq
  have ly := hy.len_eq
  have ly' := hy'.len_eq
  have bN : nv l < 4294967296 := short_lt hx.lim (by omega)
  have bD : dn (nv l') < 4294967296 := dn_lt (short_lt hx'.lim (by omega))
  have bM : nv r < 4294967296 := short_lt hy.lim (by omega)
  have bE : dn (nv r') < 4294967296 := dn_lt (short_lt hy'.lim (by omega))
  have dD := dn_ne (nv l')
  have dE := dn_ne (nv r')
  have WA := Lib.hid (fun w1 (g1 : Rd w1 a n c l) (g2 : Rd w1 a' n' c' l') => words_t (s := false) g1 g2 h1 h2)
  have WB := Lib.hid (fun w1 (g1 : Rd w1 b m g r) (g2 : Rd w1 b' m' g' r') => words_t (s := true) g1 g2 h3 h4)
  have pX := mul_word bN bE
  have pY := mul_word bM bD
  have pZ := mul_word bD bE
  have dZ : dn (nv l') * dn (nv r') ≠ 0 := Nat.mul_ne_zero dD dE
  have hq0 : rv true (nv r * dn (nv l') - nv l * dn (nv r')) (dn (nv l') * dn (nv r')) = rv false (nv l) (nv l') + rv true (nv r) (nv r') := by
    rw [rv_add, ← mkRat_iv true _ dZ]
    generalize nv l * dn (nv r') = x at *
    generalize nv r * dn (nv l') = y at *
    congr 1; simp [iv]; omega
  obtain ⟨q, hq⟩ : ∃ q, rv false (nv l) (nv l') + rv true (nv r) (nv r') = q := ⟨_, rfl⟩
  rw [hq]
  rw [hq] at hq0
  obtain ⟨N, hN⟩ : ∃ x, nv l = x := ⟨_, rfl⟩
  obtain ⟨D, hD⟩ : ∃ x, dn (nv l') = x := ⟨_, rfl⟩
  obtain ⟨M, hM⟩ : ∃ x, nv r = x := ⟨_, rfl⟩
  obtain ⟨E, hE⟩ : ∃ x, dn (nv r') = x := ⟨_, rfl⟩
  rw [hN, hD] at WA
  rw [hM, hE] at WB
  simp only [hN, hD, hM, hE] at hq0 pX pY pZ dZ hc
  obtain ⟨x, hx0⟩ : ∃ x, N * E = x := ⟨_, rfl⟩
  obtain ⟨y, hy0⟩ : ∃ x, M * D = x := ⟨_, rfl⟩
  obtain ⟨z, hz0⟩ : ∃ x, D * E = x := ⟨_, rfl⟩
  rw [hx0] at pX
  rw [hy0] at pY
  rw [hz0] at pZ dZ
  have m1 := mul_wrap hx0 pX
  have m2 := mul_wrap hy0 pY
  have m3 := mul_wrap hz0 pZ
  rw [hx0, hy0] at hc
  rw [hx0, hy0, hz0] at hq0
  have hcd : decide ((y : Int) ≤ x) = false := decide_eq_false (by omega)
  obtain ⟨S, hS⟩ : ∃ S, y - x = S := ⟨_, rfl⟩
  rw [hS] at hq0
  have m4 : IntKind.u64.wrap ((y : Int) - x) = (S : Nat) := by rw [show (y : Int) - x = (S : Nat) from by omega]; exact wr64 (by omega)
  have m5 : (y : Int) - x = (S : Nat) := by omega
  have RW := Lib.hid (fun w1 (hT1 : Tab w1) => reduceWords_c (w := w1) true S z (by omega) pZ dZ hT1)
  rw [hq0] at RW
  clear hx hx' hy hy' hT hq hN hD hM hE lx lx' ly ly' dD dE hx0 hy0 hz0 hS hq0
  go_enter Tryd.func49, Tryd.ntmps49
  obtain ⟨B_c0, B_c1, B_c2, _, _, _, _⟩ := id B_0.out
  obtain ⟨C_c0, C_c1, C_c2, _, _, _, _⟩ := id C_0.out
  obtain ⟨R_c0, R_c1, R_c2, _, _, _, _⟩ := id R_0.out
  go_wp2_with fail
  refine Calls.mono (WA.out _ X_0.out X'_0.out) ?_
  rintro e w1 ⟨rfl, k1⟩
  clear B_c0 B_c1 B_c2 C_c0 C_c1 C_c2 R_c0 R_c1 R_c2
  have Y_1 := Lib.hid (Y_0.out.keep k1)
  have Y'_1 := Lib.hid (Y'_0.out.keep k1)
  have B_1 := Lib.hid (B_0.out.keep k1)
  have C_1 := Lib.hid (C_0.out.keep k1)
  have R_1 := Lib.hid (R_0.out.keep k1)
  have T_1 := Lib.hid (T0.out.keep k1)
  have KW_1 := Lib.hid (KW_0.out.trans k1)
  clear k1 X_0 X'_0 Y_0 Y'_0 B_0 C_0 R_0 T0 KW_0
  obtain ⟨B_c0, B_c1, B_c2, _, _, _, _⟩ := id B_1.out
  obtain ⟨C_c0, C_c1, C_c2, _, _, _, _⟩ := id C_1.out
  obtain ⟨R_c0, R_c1, R_c2, _, _, _, _⟩ := id R_1.out
  go_wp2_with fail
  refine Calls.mono (WB.out _ Y_1.out Y'_1.out) ?_
  rintro e w2 ⟨rfl, k2⟩
  clear B_c0 B_c1 B_c2 C_c0 C_c1 C_c2 R_c0 R_c1 R_c2
  have B_2 := Lib.hid (B_1.out.keep k2)
  have C_2 := Lib.hid (C_1.out.keep k2)
  have R_2 := Lib.hid (R_1.out.keep k2)
  have T_2 := Lib.hid (T_1.out.keep k2)
  have KW_2 := Lib.hid (KW_1.out.trans k2)
  clear k2 Y_1 Y'_1 B_1 C_1 R_1 T_1 KW_1
  obtain ⟨B_c0, B_c1, B_c2, _, _, _, _⟩ := id B_2.out
  obtain ⟨C_c0, C_c1, C_c2, _, _, _, _⟩ := id C_2.out
  obtain ⟨R_c0, R_c1, R_c2, _, _, _, _⟩ := id R_2.out
  go_wp2_with fail
  refine Calls.mono (RW.out _ T_2.out) ?_
  clear m1 m2 m3 m4 m5
  rintro e wz ⟨u, rfl, hu, kz⟩
  clear B_c0 B_c1 B_c2 C_c0 C_c1 C_c2 R_c0 R_c1 R_c2
  obtain ⟨b0, a0, n0, c0, a1, n1, c1, rfl, hcr, hkk, f0, f1, f2, g0, g1, g2, s0, s1, s2⟩ := hu.put (R_2.out.keep kz) (KW_2.out.trans kz) (by omega)
  have FIN := Lib.hid (show R2Post q (.bool true) w (.returned (.tuple #[.agg #[.bool b0, .slice a0 n0 c0, .slice a1 n1 c1], .bool true])) _ from ⟨_, rfl, hcr, hkk⟩)
  clear hcr hkk hu kz KW_2 B_2 C_2 R_2 T_2
  go_wp2
  refine bodyPost_ret (v := .tuple #[.agg #[.bool b0, .slice a0 n0 c0, .slice a1 n1 c1], .bool true]) (by simp [results, Tryd.results49, go_sem, s0, s1, s2]) rfl ?_
  exact .inl FIN.out
set_option maxHeartbeats 1000000 in
theorem addW_tf0 {w : World} {a a' b b' : Option Addr} {n c n' c' m g m' g' : Nat} {l l' r r' : List Nat} (hx : Rd w a n c l) (hx' : Rd w a' n' c' l') (hy : Rd w b m g r) (hy' : Rd w b' m' g' r') (h1 : n ≤ 1) (h2 : n' ≤ 1) (h3 : m ≤ 1) (h4 : m' ≤ 1) (hc : nv r * dn (nv l') ≤ nv l * dn (nv r')) (hT : Tab w) : Calls Tryd.prog 49 #[.agg #[.bool true, .slice a n c, .slice a' n' c'], .agg #[.bool false, .slice b m g, .slice b' m' g']] w (AWPost (rv true (nv l) (nv l') + rv false (nv r) (nv r')) w) := by
  obtain ⟨B_0, C_0, R_0, KW_0⟩ := op2 w true a n c a' n' c' false b m g b' m' g'
  have T0 := Lib.hid (hT.keep KW_0.out)
  have X_0 := Lib.hid (hx.below KW_0.out)
  have X'_0 := Lib.hid (hx'.below KW_0.out)
  have Y_0 := Lib.hid (hy.below KW_0.out)
  have Y'_0 := Lib.hid (hy'.below KW_0.out)
  have lx := hx.len_eq
  have lx' := hx'.len_eq
  have ly := hy.len_eq
  have ly' := hy'.len_eq
  have bN : nv l < 4294967296 := short_lt hx.lim (by omega)
  have bD : dn (nv l') < 4294967296 := dn_lt (short_lt hx'.lim (by omega))
  have bM : nv r < 4294967296 := short_lt hy.lim (by omega)
  have bE : dn (nv r') < 4294967296 := dn_lt (short_lt hy'.lim (by omega))
  have dD := dn_ne (nv l')
  have dE := dn_ne (nv r')
  have WA := Lib.hid (fun w1 (g1 : Rd w1 a n c l) (g2 : Rd w1 a' n' c' l') => words_t (s := true) g1 g2 h1 h2)
  have WB := Lib.hid (fun w1 (g1 : Rd w1 b m g r) (g2 : Rd w1 b' m' g' r') => words_t (s := false) g1 g2 h3 h4)
  have pX := mul_word bN bE
  have pY := mul_word bM bD
  have pZ := mul_word bD bE
  have dZ : dn (nv l') * dn (nv r') ≠ 0 := Nat.mul_ne_zero dD dE
  have hq0 : rv true (nv l * dn (nv r') - nv r * dn (nv l')) (dn (nv l') * dn (nv r')) = rv true (nv l) (nv l') + rv false (nv r) (nv r') := by
    rw [rv_add, ← mkRat_iv true _ dZ]
    generalize nv l * dn (nv r') = x at *
    generalize nv r * dn (nv l') = y at *
    congr 1; simp [iv]; omega
  obtain ⟨q, hq⟩ : ∃ q, rv true (nv l) (nv l') + rv false (nv r) (nv r') = q := ⟨_, rfl⟩
  rw [hq]
  rw [hq] at hq0
  obtain ⟨N, hN⟩ : ∃ x, nv l = x := ⟨_, rfl⟩
  obtain ⟨D, hD⟩ : ∃ x, dn (nv l') = x := ⟨_, rfl⟩
  obtain ⟨M, hM⟩ : ∃ x, nv r = x := ⟨_, rfl⟩
  obtain ⟨E, hE⟩ : ∃ x, dn (nv r') = x := ⟨_, rfl⟩
  rw [hN, hD] at WA
  rw [hM, hE] at WB
  simp only [hN, hD, hM, hE] at hq0 pX pY pZ dZ hc
  obtain ⟨x, hx0⟩ : ∃ x, N * E = x := ⟨_, rfl⟩
  obtain ⟨y, hy0⟩ : ∃ x, M * D = x := ⟨_, rfl⟩
  obtain ⟨z, hz0⟩ : ∃ x, D * E = x := ⟨_, rfl⟩
  rw [hx0] at pX
  rw [hy0] at pY
  rw [hz0] at pZ dZ
  have m1 := mul_wrap hx0 pX
  have m2 := mul_wrap hy0 pY
  have m3 := mul_wrap hz0 pZ
  rw [hx0, hy0] at hc
  rw [hx0, hy0, hz0] at hq0
  have hcd : decide ((y : Int) ≤ x) = true := decide_eq_true (by omega)
  obtain ⟨S, hS⟩ : ∃ S, x - y = S := ⟨_, rfl⟩
  rw [hS] at hq0
  have m4 : IntKind.u64.wrap ((x : Int) - y) = (S : Nat) := by rw [show (x : Int) - y = (S : Nat) from by omega]; exact wr64 (by omega)
  have m5 : (x : Int) - y = (S : Nat) := by omega
  have RW := Lib.hid (fun w1 (hT1 : Tab w1) => reduceWords_c (w := w1) true S z (by omega) pZ dZ hT1)
  rw [hq0] at RW
  clear hx hx' hy hy' hT hq hN hD hM hE lx lx' ly ly' dD dE hx0 hy0 hz0 hS hq0
  go_enter Tryd.func49, Tryd.ntmps49
  obtain ⟨B_c0, B_c1, B_c2, _, _, _, _⟩ := id B_0.out
  obtain ⟨C_c0, C_c1, C_c2, _, _, _, _⟩ := id C_0.out
  obtain ⟨R_c0, R_c1, R_c2, _, _, _, _⟩ := id R_0.out
  go_wp2_with fail
  refine Calls.mono (WA.out _ X_0.out X'_0.out) ?_
  rintro e w1 ⟨rfl, k1⟩
  clear B_c0 B_c1 B_c2 C_c0 C_c1 C_c2 R_c0 R_c1 R_c2
  have Y_1 := Lib.hid (Y_0.out.keep k1)
  have Y'_1 := Lib.hid (Y'_0.out.keep k1)
  have B_1 := Lib.hid (B_0.out.keep k1)
  have C_1 := Lib.hid (C_0.out.keep k1)
  have R_1 := Lib.hid (R_0.out.keep k1)
  have T_1 := Lib.hid (T0.out.keep k1)
  have KW_1 := Lib.hid (KW_0.out.trans k1)
  clear k1 X_0 X'_0 Y_0 Y'_0 B_0 C_0 R_0 T0 KW_0
  obtain ⟨B_c0, B_c1, B_c2, _, _, _, _⟩ := id B_1.out
  obtain ⟨C_c0, C_c1, C_c2, _, _, _, _⟩ := id C_1.out
  obtain ⟨R_c0, R_c1, R_c2, _, _, _, _⟩ := id R_1.out
  go_wp2_with fail
  refine Calls.mono (WB.out _ Y_1.out Y'_1.out) ?_
  rintro e w2 ⟨rfl, k2⟩
  clear B_c0 B_c1 B_c2 C_c0 C_c1 C_c2 R_c0 R_c1 R_c2
  have B_2 := Lib.hid (B_1.out.keep k2)
  have C_2 := Lib.hid (C_1.out.keep k2)
  have R_2 := Lib.hid (R_1.out.keep k2)
  have T_2 := Lib.hid (T_1.out.keep k2)
  have KW_2 := Lib.hid (KW_1.out.trans k2)
  clear k2 Y_1 Y'_1 B_1 C_1 R_1 T_1 KW_1
  obtain ⟨B_c0, B_c1, B_c2, _, _, _, _⟩ := id B_2.out
  obtain ⟨C_c0, C_c1, C_c2, _, _, _, _⟩ := id C_2.out
  obtain ⟨R_c0, R_c1, R_c2, _, _, _, _⟩ := id R_2.out
  go_wp2_with fail
  refine Calls.mono (RW.out _ T_2.out) ?_
  clear m1 m2 m3 m4 m5
  rintro e wz ⟨u, rfl, hu, kz⟩
  clear B_c0 B_c1 B_c2 C_c0 C_c1 C_c2 R_c0 R_c1 R_c2
  obtain ⟨b0, a0, n0, c0, a1, n1, c1, rfl, hcr, hkk, f0, f1, f2, g0, g1, g2, s0, s1, s2⟩ := hu.put (R_2.out.keep kz) (KW_2.out.trans kz) (by omega)
  have FIN := Lib.hid (show R2Post q (.bool true) w (.returned (.tuple #[.agg #[.bool b0, .slice a0 n0 c0, .slice a1 n1 c1], .bool true])) _ from ⟨_, rfl, hcr, hkk⟩)
  clear hcr hkk hu kz KW_2 B_2 C_2 R_2 T_2
  go_wp2
  refine bodyPost_ret (v := .tuple #[.agg #[.bool b0, .slice a0 n0 c0, .slice a1 n1 c1], .bool true]) (by simp [results, Tryd.results49, go_sem, s0, s1, s2]) rfl ?_
  exact .inl FIN.out
set_option maxHeartbeats 1000000 in
theorem addW_tf1 {w : World} {a a' b b' : Option Addr} {n c n' c' m g m' g' : Nat} {l l' r r' : List Nat} (hx : Rd w a n c l) (hx' : Rd w a' n' c' l') (hy : Rd w b m g r) (hy' : Rd w b' m' g' r') (h1 : n ≤ 1) (h2 : n' ≤ 1) (h3 : m ≤ 1) (h4 : m' ≤ 1) (hc : ¬ nv r * dn (nv l') ≤ nv l * dn (nv r')) (hT : Tab w) : Calls Tryd.prog 49 #[.agg #[.bool true, .slice a n c, .slice a' n' c'], .agg #[.bool false, .slice b m g, .slice b' m' g']] w (AWPost (rv true (nv l) (nv l') + rv false (nv r) (nv r')) w) := by
  obtain ⟨B_0, C_0, R_0, KW_0⟩ := op2 w true a n c a' n' c' false b m g b' m' g'
  have T0 := Lib.hid (hT.keep KW_0.out)
  have X_0 := Lib.hid (hx.below KW_0.out)
  have X'_0 := Lib.hid (hx'.below KW_0.out)
  have Y_0 := Lib.hid (hy.below KW_0.out)
  have Y'_0 := Lib.hid (hy'.below KW_0.out)
  have lx := hx.len_eq
  have lx' := hx'.len_eq
  have ly := hy.len_eq
  have ly' := hy'.len_eq
  have bN : nv l < 4294967296 := short_lt hx.lim (by omega)
  have bD : dn (nv l') < 4294967296 := dn_lt (short_lt hx'.lim (by omega))
  have bM : nv r < 4294967296 := short_lt hy.lim (by omega)
  have bE : dn (nv r') < 4294967296 := dn_lt (short_lt hy'.lim (by omega))
  have dD := dn_ne (nv l')
  have dE := dn_ne (nv r')
  have WA := Lib.hid (fun w1 (g1 : Rd w1 a n c l) (g2 : Rd w1 a' n' c' l') => words_t (s := true) g1 g2 h1 h2)
  have WB := Lib.hid (fun w1 (g1 : Rd w1 b m g r) (g2 : Rd w1 b' m' g' r') => words_t (s := false) g1 g2 h3 h4)
  have pX := mul_word bN bE
  have pY := mul_word bM bD
  have pZ := mul_word bD bE
  have dZ : dn (nv l') * dn (nv r') ≠ 0 := Nat.mul_ne_zero dD dE
  have hq0 : rv false (nv r * dn (nv l') - nv l * dn (nv r')) (dn (nv l') * dn (nv r')) = rv true (nv l) (nv l') + rv false (nv r) (nv r') := by
    rw [rv_add, ← mkRat_iv false _ dZ]
    generalize nv l * dn (nv r') = x at *
    generalize nv r * dn (nv l') = y at *
    congr 1; simp [iv]; omega
  obtain ⟨q, hq⟩ : ∃ q, rv true (nv l) (nv l') + rv false (nv r) (nv r') = q := ⟨_, rfl⟩
  rw [hq]
  rw [hq] at hq0
  obtain ⟨N, hN⟩ : ∃ x, nv l = x := ⟨_, rfl⟩
  obtain ⟨D, hD⟩ : ∃ x, dn (nv l') = x := ⟨_, rfl⟩
  obtain ⟨M, hM⟩ : ∃ x, nv r = x := ⟨_, rfl⟩
  obtain ⟨E, hE⟩ : ∃ x, dn (nv r') = x := ⟨_, rfl⟩
  rw [hN, hD] at WA
  rw [hM, hE] at WB
  simp only [hN, hD, hM, hE] at hq0 pX pY pZ dZ hc
  obtain ⟨x, hx0⟩ : ∃ x, N * E = x := ⟨_, rfl⟩
  obtain ⟨y, hy0⟩ : ∃ x, M * D = x := ⟨_, rfl⟩
  obtain ⟨z, hz0⟩ : ∃ x, D * E = x := ⟨_, rfl⟩
  rw [hx0] at pX
  rw [hy0] at pY
  rw [hz0] at pZ dZ
  have m1 := mul_wrap hx0 pX
  have m2 := mul_wrap hy0 pY
  have m3 := mul_wrap hz0 pZ
  rw [hx0, hy0] at hc
  rw [hx0, hy0, hz0] at hq0
  have hcd : decide ((y : Int) ≤ x) = false := decide_eq_false (by omega)
  obtain ⟨S, hS⟩ : ∃ S, y - x = S := ⟨_, rfl⟩
  rw [hS] at hq0
  have m4 : IntKind.u64.wrap ((y : Int) - x) = (S : Nat) := by rw [show (y : Int) - x = (S : Nat) from by omega]; exact wr64 (by omega)
  have m5 : (y : Int) - x = (S : Nat) := by omega
  have RW := Lib.hid (fun w1 (hT1 : Tab w1) => reduceWords_c (w := w1) false S z (by omega) pZ dZ hT1)
  rw [hq0] at RW
  clear hx hx' hy hy' hT hq hN hD hM hE lx lx' ly ly' dD dE hx0 hy0 hz0 hS hq0
  go_enter Tryd.func49, Tryd.ntmps49
  obtain ⟨B_c0, B_c1, B_c2, _, _, _, _⟩ := id B_0.out
  obtain ⟨C_c0, C_c1, C_c2, _, _, _, _⟩ := id C_0.out
  obtain ⟨R_c0, R_c1, R_c2, _, _, _, _⟩ := id R_0.out
  go_wp2_with fail
  refine Calls.mono (WA.out _ X_0.out X'_0.out) ?_
  rintro e w1 ⟨rfl, k1⟩
  clear B_c0 B_c1 B_c2 C_c0 C_c1 C_c2 R_c0 R_c1 R_c2
  have Y_1 := Lib.hid (Y_0.out.keep k1)
  have Y'_1 := Lib.hid (Y'_0.out.keep k1)
  have B_1 := Lib.hid (B_0.out.keep k1)
  have C_1 := Lib.hid (C_0.out.keep k1)
  have R_1 := Lib.hid (R_0.out.keep k1)
  have T_1 := Lib.hid (T0.out.keep k1)
  have KW_1 := Lib.hid (KW_0.out.trans k1)
  clear k1 X_0 X'_0 Y_0 Y'_0 B_0 C_0 R_0 T0 KW_0
  obtain ⟨B_c0, B_c1, B_c2, _, _, _, _⟩ := id B_1.out
  obtain ⟨C_c0, C_c1, C_c2, _, _, _, _⟩ := id C_1.out
  obtain ⟨R_c0, R_c1, R_c2, _, _, _, _⟩ := id R_1.out
  go_wp2_with fail
  refine Calls.mono (WB.out _ Y_1.out Y'_1.out) ?_
  rintro e w2 ⟨rfl, k2⟩
  clear B_c0 B_c1 B_c2 C_c0 C_c1 C_c2 R_c0 R_c1 R_c2
  have B_2 := Lib.hid (B_1.out.keep k2)
  have C_2 := Lib.hid (C_1.out.keep k2)
  have R_2 := Lib.hid (R_1.out.keep k2)
  have T_2 := Lib.hid (T_1.out.keep k2)
  have KW_2 := Lib.hid (KW_1.out.trans k2)
  clear k2 Y_1 Y'_1 B_1 C_1 R_1 T_1 KW_1
  obtain ⟨B_c0, B_c1, B_c2, _, _, _, _⟩ := id B_2.out
  obtain ⟨C_c0, C_c1, C_c2, _, _, _, _⟩ := id C_2.out
  obtain ⟨R_c0, R_c1, R_c2, _, _, _, _⟩ := id R_2.out
  go_wp2_with fail
  refine Calls.mono (RW.out _ T_2.out) ?_
  clear m1 m2 m3 m4 m5
  rintro e wz ⟨u, rfl, hu, kz⟩
  clear B_c0 B_c1 B_c2 C_c0 C_c1 C_c2 R_c0 R_c1 R_c2
  obtain ⟨b0, a0, n0, c0, a1, n1, c1, rfl, hcr, hkk, f0, f1, f2, g0, g1, g2, s0, s1, s2⟩ := hu.put (R_2.out.keep kz) (KW_2.out.trans kz) (by omega)
  have FIN := Lib.hid (show R2Post q (.bool true) w (.returned (.tuple #[.agg #[.bool b0, .slice a0 n0 c0, .slice a1 n1 c1], .bool true])) _ from ⟨_, rfl, hcr, hkk⟩)
  clear hcr hkk hu kz KW_2 B_2 C_2 R_2 T_2
  go_wp2
  refine bodyPost_ret (v := .tuple #[.agg #[.bool b0, .slice a0 n0 c0, .slice a1 n1 c1], .bool true]) (by simp [results, Tryd.results49, go_sem, s0, s1, s2]) rfl ?_
  exact .inl FIN.out
theorem addWords_c {w : World} {s t : Bool} {a a' b b' : Option Addr} {n c n' c' m g m' g' N D M E k : Nat} (hN : Nm w (.slice a n c) N k) (hD : Nm w (.slice a' n' c') D k) (hM : Nm w (.slice b m g) M k) (hE : Nm w (.slice b' m' g') E k) (hT : Tab w) :
    Calls Tryd.prog 49 #[.agg #[.bool s, .slice a n c, .slice a' n' c'], .agg #[.bool t, .slice b m g, .slice b' m' g']] w (AWPost (rv s N D + rv t M E) w) := by
  obtain ⟨_, _, _, l, e0, hx, rfl, _⟩ := hN.form3
  cases e0
  obtain ⟨_, _, _, l', e0, hx', rfl, _⟩ := hD.form3
  cases e0
  obtain ⟨_, _, _, r, e0, hy, rfl, _⟩ := hM.form3
  cases e0
  obtain ⟨_, _, _, r', e0, hy', rfl, _⟩ := hE.form3
  cases e0
  by_cases h1 : n ≤ 1 ∧ n' ≤ 1
  · by_cases h2 : m ≤ 1 ∧ m' ≤ 1
    · by_cases h3 : nv l * dn (nv r') + nv r * dn (nv l') < 18446744073709551616
      · by_cases h4 : nv r * dn (nv l') ≤ nv l * dn (nv r')
        · cases s <;> cases t
          · exact addW_ff0 hx hx' hy hy' h1.1 h1.2 h2.1 h2.2 h3 hT
          · exact addW_ft0 hx hx' hy hy' h1.1 h1.2 h2.1 h2.2 h4 hT
          · exact addW_tf0 hx hx' hy hy' h1.1 h1.2 h2.1 h2.2 h4 hT
          · exact addW_tt0 hx hx' hy hy' h1.1 h1.2 h2.1 h2.2 h3 hT
        · cases s <;> cases t
          · exact addW_ff0 hx hx' hy hy' h1.1 h1.2 h2.1 h2.2 h3 hT
          · exact addW_ft1 hx hx' hy hy' h1.1 h1.2 h2.1 h2.2 h4 hT
          · exact addW_tf1 hx hx' hy hy' h1.1 h1.2 h2.1 h2.2 h4 hT
          · exact addW_tt0 hx hx' hy hy' h1.1 h1.2 h2.1 h2.2 h3 hT
      · by_cases h4 : nv r * dn (nv l') ≤ nv l * dn (nv r')
        · cases s <;> cases t
          · exact addW_ff1 hx hx' hy hy' h1.1 h1.2 h2.1 h2.2 h3 hT
          · exact addW_ft0 hx hx' hy hy' h1.1 h1.2 h2.1 h2.2 h4 hT
          · exact addW_tf0 hx hx' hy hy' h1.1 h1.2 h2.1 h2.2 h4 hT
          · exact addW_tt1 hx hx' hy hy' h1.1 h1.2 h2.1 h2.2 h3 hT
        · cases s <;> cases t
          · exact addW_ff1 hx hx' hy hy' h1.1 h1.2 h2.1 h2.2 h3 hT
          · exact addW_ft1 hx hx' hy hy' h1.1 h1.2 h2.1 h2.2 h4 hT
          · exact addW_tf1 hx hx' hy hy' h1.1 h1.2 h2.1 h2.2 h4 hT
          · exact addW_tt1 hx hx' hy hy' h1.1 h1.2 h2.1 h2.2 h3 hT
    · exact addW_f2 hx hx' hy hy' _ h1.1 h1.2 h2
  · exact addW_f1 hx hx' hy hy' _ h1
end Go.Proofs.YtnalmjbgkedcoaaDoor
