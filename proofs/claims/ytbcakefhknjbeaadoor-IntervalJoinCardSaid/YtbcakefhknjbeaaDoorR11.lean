/- Carried over from another seat by program (portn.py). -/
import Derived.Test.YtbcakefhknjbeaaDoorR10
namespace Go.Proofs.YtbcakefhknjbeaaDoor
open Go.RowKit
set_option linter.unusedVariables false
theorem iC_self (x : Int) : iC x x = 0 := by unfold iC; rw [if_neg (Int.lt_irrefl _), if_neg (Int.lt_irrefl _)]
theorem iC_neg (x y : Int) : iC (-x) (-y) = -iC x y := by
  unfold iC
  rcases Int.lt_trichotomy x y with h | h | h
  · rw [if_neg (by omega), if_pos (by omega), if_pos h]; rfl
  · subst h; rw [if_neg (Int.lt_irrefl _), if_neg (Int.lt_irrefl _), if_neg (Int.lt_irrefl _), if_neg (Int.lt_irrefl _)]; rfl
  · rw [if_pos (by omega), if_neg (by omega), if_pos h]
theorem iC_cmpv (n m : Nat) : cmpv n m = iC n m := by
  unfold cmpv iC
  by_cases h : n < m
  · rw [if_pos h, if_pos (by omega)]
  · by_cases h2 : m < n
    · rw [if_neg h, if_pos h2, if_neg (by omega), if_pos (by omega)]
    · rw [if_neg h, if_neg h2, if_neg (by omega), if_neg (by omega)]
theorem rS_range (p : Rat) : rS p = -1 ∨ rS p = 0 ∨ rS p = 1 := by
  unfold rS; rcases rC_facts p 0 with h | h | h <;> simp [h.1]
theorem iC_range (x y : Int) : iC x y = -1 ∨ iC x y = 0 ∨ iC x y = 1 := by
  unfold iC; split
  · exact .inl rfl
  · split
    · exact .inr (.inr rfl)
    · exact .inr (.inl rfl)
/-- numbers of unlike signs, or two zeros -/
theorem rC_unlike {p q : Rat} (h : rS p ≠ rS q ∨ rS p = 0) : iC (rS p) (rS q) = rC p q := by
  unfold rS at *
  rcases rC_facts p 0 with a | a | a <;> rcases rC_facts q 0 with b | b | b <;> rw [a.1, b.1] at h ⊢
  · simp at h
  · rw [rC_lt (by grind)]; decide
  · rw [rC_lt (by grind)]; decide
  · rw [rC_gt (by grind)]; decide
  · rw [a.2, b.2, rC_self]; decide
  · rw [rC_lt (by grind)]; decide
  · rw [rC_gt (by grind)]; decide
  · rw [rC_gt (by grind)]; decide
  · simp at h
theorem rC_like (s : Bool) {N D M E : Nat} (hN : N ≠ 0) : rC (rv s N D) (rv s M E) = rS (rv s N D) * iC (N * dn E : Nat) (M * dn D : Nat) := by
  rw [rC_rv, rS_n s D hN]
  cases s
  · show iC (N * dn E : Nat) (M * dn D : Nat) = 1 * _; omega
  · show iC (-((N * dn E : Nat) : Int)) (-((M * dn D : Nat) : Int)) = -1 * _
    rw [iC_neg]; omega
theorem rS_sign {s t : Bool} {N D M E : Nat} (h : rS (rv s N D) = rS (rv t M E)) (h0 : rS (rv s N D) ≠ 0) : s = t ∧ N ≠ 0 ∧ M ≠ 0 := by
  have hN : N ≠ 0 := by rintro rfl; exact h0 (rS_0 _ _)
  have hM : M ≠ 0 := by rintro rfl; rw [rS_0] at h; exact h0 h
  rw [rS_n s D hN, rS_n t E hM] at h
  refine ⟨?_, hN, hM⟩
  cases s <;> cases t <;> simp_all
theorem mul_range {x y : Int} (h : x = -1 ∨ x = 0 ∨ x = 1) (h' : y = -1 ∨ y = 0 ∨ y = 1) : wrap64 (x * y) = x * y := by
  rcases h with rfl | rfl | rfl <;> rcases h' with rfl | rfl | rfl <;> exact IntWalk.wrap64_in _ ⟨by decide, by decide⟩
theorem mul_range' {x y : Int} (h : x = -1 ∨ x = 0 ∨ x = 1) (h' : y = -1 ∨ y = 0 ∨ y = 1) : IntKind.i64.wrap (x * y) = x * y := by
  rcases h with rfl | rfl | rfl <;> rcases h' with rfl | rfl | rfl <;> decide
theorem op2n (w : World) (s : Bool) (a : Option Addr) (n c : Nat) (a' : Option Addr) (n' c' : Nat) (t : Bool) (b : Option Addr) (m e : Nat) (b' : Option Addr) (m' e' : Nat) :
    Hid (QBox w.heap.size (.bool s) (.slice a n c) (.slice a' n' c') ((w.alloc (.cells #[.bool s, .slice a n c, .slice a' n' c'] 32)).alloc (.cells #[.bool t, .slice b m e, .slice b' m' e'] 32))) ∧ Hid (QBox (w.heap.size + 1) (.bool t) (.slice b m e) (.slice b' m' e') ((w.alloc (.cells #[.bool s, .slice a n c, .slice a' n' c'] 32)).alloc (.cells #[.bool t, .slice b m e, .slice b' m' e'] 32))) ∧ Hid (Keep w ((w.alloc (.cells #[.bool s, .slice a n c, .slice a' n' c'] 32)).alloc (.cells #[.bool t, .slice b m e, .slice b' m' e'] 32))) :=
  ⟨Lib.hid ((QBox.new w s a n c a' n' c').keep ((Keep.refl _).alloc _)), Lib.hid ((QBox.new (w.alloc _) t b m e b' m' e').at (sz1 _ _)), Lib.hid (((Keep.refl w).alloc _).alloc _)⟩
set_option maxHeartbeats 1000000 in
theorem cmp_a1 {w : World} {s t : Bool} {a a' b b' : Option Addr} {n c n' c' m g m' g' : Nat} {N D M E k : Nat} (hN : Nm w (.slice a n c) N k) (hD : Nm w (.slice a' n' c') D k) (hM : Nm w (.slice b m g) M k) (hE : Nm w (.slice b' m' g') E k) (hk : k < 48) (h : rS (rv s N D) ≠ rS (rv t M E)) : Calls Tryd.prog 54 #[.agg #[.bool s, .slice a n c, .slice a' n' c'], .agg #[.bool t, .slice b m g, .slice b' m' g']] w (VPost (rC (rv s N D) (rv t M E)) w) := by
  obtain ⟨B_0, C_0, KW_0⟩ := op2n w s a n c a' n' c' t b m g b' m' g'
  have PX := Lib.hid (show Ra w (.agg #[.bool s, .slice a n c, .slice a' n' c']) (rv s N D) k from ⟨_, _, _, _, _, rfl, hN, hD, rfl⟩)
  have PY := Lib.hid (show Ra w (.agg #[.bool t, .slice b m g, .slice b' m' g']) (rv t M E) k from ⟨_, _, _, _, _, rfl, hM, hE, rfl⟩)
  have P_0 := Lib.hid (PX.out.keep KW_0.out)
  have Q_0 := Lib.hid (PY.out.keep KW_0.out)
  clear PX PY
  have SA := Lib.hid (fun w1 (h : Ra w1 (.agg #[.bool s, .slice a n c, .slice a' n' c']) (rv s N D) k) => qsign_c h (by omega))
  have SB := Lib.hid (fun w1 (h : Ra w1 (.agg #[.bool t, .slice b m g, .slice b' m' g']) (rv t M E) k) => qsign_c h (by omega))
  have hv := rC_unlike (p := rv s N D) (q := rv t M E) (.inl h)
  have OR := Lib.hid (fun w1 => order_c (rS (rv s N D)) (rS (rv t M E)) w1)
  rw [hv] at OR
  obtain ⟨r, hr⟩ : ∃ r, rC (rv s N D) (rv t M E) = r := ⟨_, rfl⟩
  rw [hr] at OR ⊢
  obtain ⟨x, hx⟩ : ∃ x, rS (rv s N D) = x := ⟨_, rfl⟩
  obtain ⟨y, hy⟩ : ∃ y, rS (rv t M E) = y := ⟨_, rfl⟩
  rw [hx] at SA OR h
  rw [hy] at SB OR h
  have e1 : (x != y) = true := by simpa using h
  clear hN hD hM hE hv hr hx hy h
  go_enter Tryd.func54, Tryd.ntmps54
  have P_1 := Lib.hid (P_0.out.keep (keep_drew _))
  clear P_0
  have Q_1 := Lib.hid (Q_0.out.keep (keep_drew _))
  clear Q_0
  have B_1 := Lib.hid (B_0.out.keep (keep_drew _))
  clear B_0
  have C_1 := Lib.hid (C_0.out.keep (keep_drew _))
  clear C_0
  have KW_1 := Lib.hid (KW_0.out.trans (keep_drew _))
  clear KW_0
  obtain ⟨cB_1_0, cB_1_1, cB_1_2, -, -, -, -⟩ := id B_1.out
  obtain ⟨cC_1_0, cC_1_1, cC_1_2, -, -, -, -⟩ := id C_1.out
  go_wp2
  go_region_held3 (fun w' => w'.cell? ⟨w.heap.size, 0, none⟩ = some (.bool s) ∧ w'.cell? ⟨w.heap.size, 1, none⟩ = some (.slice a n c) ∧ w'.cell? ⟨w.heap.size, 2, none⟩ = some (.slice a' n' c') ∧ w'.cell? ⟨w.heap.size + 1, 0, none⟩ = some (.bool t) ∧ w'.cell? ⟨w.heap.size + 1, 1, none⟩ = some (.slice b m g) ∧ w'.cell? ⟨w.heap.size + 1, 2, none⟩ = some (.slice b' m' g')) (first | exact ⟨cB_3_0, cB_3_1, cB_3_2, cC_3_0, cC_3_1, cC_3_2⟩ | exact ⟨cB_2_0, cB_2_1, cB_2_2, cC_2_0, cC_2_1, cC_2_2⟩ | exact ⟨cB_1_0, cB_1_1, cB_1_2, cC_1_0, cC_1_1, cC_1_2⟩ | go_keep)
    (first
      | (go_at_call_of 88 (Value.agg #[Value.bool t, Value.slice b m g, Value.slice b' m' g']); ((with_reducible refine Calls.mono (SB.out _ Q_2.out) ?_); rintro e w3 ⟨rfl, k3⟩; have P_3 := Lib.hid (P_2.out.keep k3); have Q_3 := Lib.hid (Q_2.out.keep k3); have B_3 := Lib.hid (B_2.out.keep k3); have C_3 := Lib.hid (C_2.out.keep k3); have KW_3 := Lib.hid (KW_2.out.trans k3); obtain ⟨cB_3_0, cB_3_1, cB_3_2, -, -, -, -⟩ := id B_3.out; obtain ⟨cC_3_0, cC_3_1, cC_3_2, -, -, -, -⟩ := id C_3.out; clear k3))
      | (go_at_call_of 88 (Value.agg #[Value.bool s, Value.slice a n c, Value.slice a' n' c']); ((with_reducible refine Calls.mono (SA.out _ P_1.out) ?_); rintro e w2 ⟨rfl, k2⟩; have P_2 := Lib.hid (P_1.out.keep k2); have Q_2 := Lib.hid (Q_1.out.keep k2); have B_2 := Lib.hid (B_1.out.keep k2); have C_2 := Lib.hid (C_1.out.keep k2); have KW_2 := Lib.hid (KW_1.out.trans k2); obtain ⟨cB_2_0, cB_2_1, cB_2_2, -, -, -, -⟩ := id B_2.out; obtain ⟨cC_2_0, cC_2_1, cC_2_2, -, -, -, -⟩ := id C_2.out; clear k2)))
  clear cB_3_0 cB_3_1 cB_3_2 cC_3_0 cC_3_1 cC_3_2 cB_2_0 cB_2_1 cB_2_2 cC_2_0 cC_2_1 cC_2_2 cB_1_0 cB_1_1 cB_1_2 cC_1_0 cC_1_1 cC_1_2
  go_wp2_with fail
  refine Calls.mono (OR.out _) ?_
  rintro e w9 ⟨rfl, rfl⟩
  go_wp2_with fail
  go_ret
  exact ⟨rfl, KW_3.out⟩
set_option maxHeartbeats 1000000 in
theorem cmp_a2 {w : World} {s t : Bool} {a a' b b' : Option Addr} {n c n' c' m g m' g' : Nat} {N D M E k : Nat} (hN : Nm w (.slice a n c) N k) (hD : Nm w (.slice a' n' c') D k) (hM : Nm w (.slice b m g) M k) (hE : Nm w (.slice b' m' g') E k) (hk : k < 48) (h : rS (rv s N D) = rS (rv t M E)) (h0 : rS (rv s N D) = 0) : Calls Tryd.prog 54 #[.agg #[.bool s, .slice a n c, .slice a' n' c'], .agg #[.bool t, .slice b m g, .slice b' m' g']] w (VPost (rC (rv s N D) (rv t M E)) w) := by
  obtain ⟨B_0, C_0, KW_0⟩ := op2n w s a n c a' n' c' t b m g b' m' g'
  have PX := Lib.hid (show Ra w (.agg #[.bool s, .slice a n c, .slice a' n' c']) (rv s N D) k from ⟨_, _, _, _, _, rfl, hN, hD, rfl⟩)
  have PY := Lib.hid (show Ra w (.agg #[.bool t, .slice b m g, .slice b' m' g']) (rv t M E) k from ⟨_, _, _, _, _, rfl, hM, hE, rfl⟩)
  have P_0 := Lib.hid (PX.out.keep KW_0.out)
  have Q_0 := Lib.hid (PY.out.keep KW_0.out)
  clear PX PY
  have SA := Lib.hid (fun w1 (h : Ra w1 (.agg #[.bool s, .slice a n c, .slice a' n' c']) (rv s N D) k) => qsign_c h (by omega))
  have SB := Lib.hid (fun w1 (h : Ra w1 (.agg #[.bool t, .slice b m g, .slice b' m' g']) (rv t M E) k) => qsign_c h (by omega))
  have hv := rC_unlike (p := rv s N D) (q := rv t M E) (.inr h0)
  have OR := Lib.hid (fun w1 => order_c (rS (rv s N D)) (rS (rv t M E)) w1)
  rw [hv] at OR
  obtain ⟨r, hr⟩ : ∃ r, rC (rv s N D) (rv t M E) = r := ⟨_, rfl⟩
  rw [hr] at OR ⊢
  obtain ⟨x, hx⟩ : ∃ x, rS (rv s N D) = x := ⟨_, rfl⟩
  obtain ⟨y, hy⟩ : ∃ y, rS (rv t M E) = y := ⟨_, rfl⟩
  rw [hx] at SA OR h h0
  rw [hy] at SB OR h
  subst h0
  subst h
  clear hN hD hM hE hv hr hx hy
  go_enter Tryd.func54, Tryd.ntmps54
  have P_1 := Lib.hid (P_0.out.keep (keep_drew _))
  clear P_0
  have Q_1 := Lib.hid (Q_0.out.keep (keep_drew _))
  clear Q_0
  have B_1 := Lib.hid (B_0.out.keep (keep_drew _))
  clear B_0
  have C_1 := Lib.hid (C_0.out.keep (keep_drew _))
  clear C_0
  have KW_1 := Lib.hid (KW_0.out.trans (keep_drew _))
  clear KW_0
  obtain ⟨cB_1_0, cB_1_1, cB_1_2, -, -, -, -⟩ := id B_1.out
  obtain ⟨cC_1_0, cC_1_1, cC_1_2, -, -, -, -⟩ := id C_1.out
  go_wp2
  go_region_held3 (fun w' => w'.cell? ⟨w.heap.size, 0, none⟩ = some (.bool s) ∧ w'.cell? ⟨w.heap.size, 1, none⟩ = some (.slice a n c) ∧ w'.cell? ⟨w.heap.size, 2, none⟩ = some (.slice a' n' c') ∧ w'.cell? ⟨w.heap.size + 1, 0, none⟩ = some (.bool t) ∧ w'.cell? ⟨w.heap.size + 1, 1, none⟩ = some (.slice b m g) ∧ w'.cell? ⟨w.heap.size + 1, 2, none⟩ = some (.slice b' m' g')) (first | exact ⟨cB_3_0, cB_3_1, cB_3_2, cC_3_0, cC_3_1, cC_3_2⟩ | exact ⟨cB_2_0, cB_2_1, cB_2_2, cC_2_0, cC_2_1, cC_2_2⟩ | exact ⟨cB_1_0, cB_1_1, cB_1_2, cC_1_0, cC_1_1, cC_1_2⟩ | go_keep)
    (first
      | (go_at_call_of 88 (Value.agg #[Value.bool t, Value.slice b m g, Value.slice b' m' g']); ((with_reducible refine Calls.mono (SB.out _ Q_2.out) ?_); rintro e w3 ⟨rfl, k3⟩; have P_3 := Lib.hid (P_2.out.keep k3); have Q_3 := Lib.hid (Q_2.out.keep k3); have B_3 := Lib.hid (B_2.out.keep k3); have C_3 := Lib.hid (C_2.out.keep k3); have KW_3 := Lib.hid (KW_2.out.trans k3); obtain ⟨cB_3_0, cB_3_1, cB_3_2, -, -, -, -⟩ := id B_3.out; obtain ⟨cC_3_0, cC_3_1, cC_3_2, -, -, -, -⟩ := id C_3.out; clear k3))
      | (go_at_call_of 88 (Value.agg #[Value.bool s, Value.slice a n c, Value.slice a' n' c']); ((with_reducible refine Calls.mono (SA.out _ P_1.out) ?_); rintro e w2 ⟨rfl, k2⟩; have P_2 := Lib.hid (P_1.out.keep k2); have Q_2 := Lib.hid (Q_1.out.keep k2); have B_2 := Lib.hid (B_1.out.keep k2); have C_2 := Lib.hid (C_1.out.keep k2); have KW_2 := Lib.hid (KW_1.out.trans k2); obtain ⟨cB_2_0, cB_2_1, cB_2_2, -, -, -, -⟩ := id B_2.out; obtain ⟨cC_2_0, cC_2_1, cC_2_2, -, -, -, -⟩ := id C_2.out; clear k2)))
  clear cB_3_0 cB_3_1 cB_3_2 cC_3_0 cC_3_1 cC_3_2 cB_2_0 cB_2_1 cB_2_2 cC_2_0 cC_2_1 cC_2_2 cB_1_0 cB_1_1 cB_1_2 cC_1_0 cC_1_1 cC_1_2
  go_wp2_with fail
  refine Calls.mono (OR.out _) ?_
  rintro e w9 ⟨rfl, rfl⟩
  go_wp2_with fail
  go_ret
  exact ⟨rfl, KW_3.out⟩
set_option maxHeartbeats 1000000 in
theorem cmp_b1 {w : World} {s : Bool} {a a' b b' : Option Addr} {n c n' c' m g m' g' : Nat} {l l' r0 r1 : List Nat} (gx : Rd w a n c l) (gx' : Rd w a' n' c' l') (gy : Rd w b m g r0) (gy' : Rd w b' m' g' r1) {N D M E k : Nat} (hN : Nm w (.slice a n c) N k) (hD : Nm w (.slice a' n' c') D k) (hM : Nm w (.slice b m g) M k) (hE : Nm w (.slice b' m' g') E k) (eN : nv l = N) (eD : nv l' = D) (eM : nv r0 = M) (eE : nv r1 = E) (hN0 : N ≠ 0) (hM0 : M ≠ 0) (hk : k < 48) (h1 : n ≤ 1) (h2 : n' ≤ 1) (h3 : m ≤ 1) (h4 : m' ≤ 1) : Calls Tryd.prog 54 #[.agg #[.bool s, .slice a n c, .slice a' n' c'], .agg #[.bool s, .slice b m g, .slice b' m' g']] w (VPost (rC (rv s N D) (rv s M E)) w) := by
  obtain ⟨B_0, C_0, KW_0⟩ := op2n w s a n c a' n' c' s b m g b' m' g'
  have PX := Lib.hid (show Ra w (.agg #[.bool s, .slice a n c, .slice a' n' c']) (rv s N D) k from ⟨_, _, _, _, _, rfl, hN, hD, rfl⟩)
  have PY := Lib.hid (show Ra w (.agg #[.bool s, .slice b m g, .slice b' m' g']) (rv s M E) k from ⟨_, _, _, _, _, rfl, hM, hE, rfl⟩)
  have P_0 := Lib.hid (PX.out.keep KW_0.out)
  have Q_0 := Lib.hid (PY.out.keep KW_0.out)
  clear PX PY
  have SA := Lib.hid (fun w1 (h : Ra w1 (.agg #[.bool s, .slice a n c, .slice a' n' c']) (rv s N D) k) => qsign_c h (by omega))
  have SB := Lib.hid (fun w1 (h : Ra w1 (.agg #[.bool s, .slice b m g, .slice b' m' g']) (rv s M E) k) => qsign_c h (by omega))
  have hv := rC_like s (D := D) (M := M) (E := E) hN0
  have hlike : rS (rv s M E) = rS (rv s N D) := by rw [rS_n s D hN0, rS_n s E hM0]
  rw [hlike] at SB
  have rg := rS_range (rv s N D)
  have hx0 : rS (rv s N D) ≠ 0 := by rw [rS_n s D hN0]; cases s <;> decide
  obtain ⟨x, hx⟩ : ∃ x, rS (rv s N D) = x := ⟨_, rfl⟩
  rw [hx] at SA SB hv rg hx0
  obtain ⟨r, hr⟩ : ∃ r, rC (rv s N D) (rv s M E) = r := ⟨_, rfl⟩
  rw [hr] at hv ⊢
  have hx1 : (x == 0) = false := by simpa using hx0
  have X_0 := Lib.hid (gx.keep KW_0.out)
  have X'_0 := Lib.hid (gx'.keep KW_0.out)
  have Y_0 := Lib.hid (gy.keep KW_0.out)
  have Y'_0 := Lib.hid (gy'.keep KW_0.out)
  have bN : N < 4294967296 := eN ▸ short_lt gx.lim (by rw [gx.len_eq]; exact h1)
  have bD : dn D < 4294967296 := dn_lt (eD ▸ short_lt gx'.lim (by rw [gx'.len_eq]; exact h2))
  have bM : M < 4294967296 := eM ▸ short_lt gy.lim (by rw [gy.len_eq]; exact h3)
  have bE : dn E < 4294967296 := dn_lt (eE ▸ short_lt gy'.lim (by rw [gy'.len_eq]; exact h4))
  have WA := Lib.hid (fun w1 (g1 : Rd w1 a n c l) (g2 : Rd w1 a' n' c' l') => words_t (s := s) g1 g2 h1 h2)
  have WB := Lib.hid (fun w1 (g1 : Rd w1 b m g r0) (g2 : Rd w1 b' m' g' r1) => words_t (s := s) g1 g2 h3 h4)
  rw [eN, eD] at WA
  rw [eM, eE] at WB
  have pX := mul_word bN bE
  have pY := mul_word bM bD
  obtain ⟨D1, hD1⟩ : ∃ x, dn D = x := ⟨_, rfl⟩
  obtain ⟨E1, hE1⟩ : ∃ x, dn E = x := ⟨_, rfl⟩
  rw [hD1] at WA pY hv
  rw [hE1] at WB pX hv
  obtain ⟨y1, hy1⟩ : ∃ x, N * E1 = x := ⟨_, rfl⟩
  obtain ⟨y2, hy2⟩ : ∃ x, M * D1 = x := ⟨_, rfl⟩
  rw [hy1] at pX hv
  rw [hy2] at pY hv
  have m1 := mul_wrap hy1 pX
  have m2 := mul_wrap hy2 pY
  have OR := Lib.hid (fun w1 => orderU_c y1 y2 w1)
  have rg2 := iC_range y1 y2
  obtain ⟨z, hz⟩ : ∃ z, iC (y1 : Int) y2 = z := ⟨_, rfl⟩
  rw [hz] at OR hv rg2
  have m4 := (mul_range rg rg2).trans hv.symm
  have HV := Lib.hid m4
  clear hN hD hM hE eN eD eM eE gx gx' gy gy' hv hr hx hlike rg rg2 hx0 hD1 hE1 hy1 hy2 hz m4
  go_enter Tryd.func54, Tryd.ntmps54
  have P_1 := Lib.hid (P_0.out.keep (keep_drew _))
  clear P_0
  have Q_1 := Lib.hid (Q_0.out.keep (keep_drew _))
  clear Q_0
  have X_1 := Lib.hid (X_0.out.keep (keep_drew _))
  clear X_0
  have X'_1 := Lib.hid (X'_0.out.keep (keep_drew _))
  clear X'_0
  have Y_1 := Lib.hid (Y_0.out.keep (keep_drew _))
  clear Y_0
  have Y'_1 := Lib.hid (Y'_0.out.keep (keep_drew _))
  clear Y'_0
  have B_1 := Lib.hid (B_0.out.keep (keep_drew _))
  clear B_0
  have C_1 := Lib.hid (C_0.out.keep (keep_drew _))
  clear C_0
  have KW_1 := Lib.hid (KW_0.out.trans (keep_drew _))
  clear KW_0
  obtain ⟨cB_1_0, cB_1_1, cB_1_2, -, -, -, -⟩ := id B_1.out
  obtain ⟨cC_1_0, cC_1_1, cC_1_2, -, -, -, -⟩ := id C_1.out
  go_wp2
  go_region_held3 (fun w' => w'.cell? ⟨w.heap.size, 0, none⟩ = some (.bool s) ∧ w'.cell? ⟨w.heap.size, 1, none⟩ = some (.slice a n c) ∧ w'.cell? ⟨w.heap.size, 2, none⟩ = some (.slice a' n' c') ∧ w'.cell? ⟨w.heap.size + 1, 0, none⟩ = some (.bool s) ∧ w'.cell? ⟨w.heap.size + 1, 1, none⟩ = some (.slice b m g) ∧ w'.cell? ⟨w.heap.size + 1, 2, none⟩ = some (.slice b' m' g')) (first | exact ⟨cB_3_0, cB_3_1, cB_3_2, cC_3_0, cC_3_1, cC_3_2⟩ | exact ⟨cB_2_0, cB_2_1, cB_2_2, cC_2_0, cC_2_1, cC_2_2⟩ | exact ⟨cB_1_0, cB_1_1, cB_1_2, cC_1_0, cC_1_1, cC_1_2⟩ | go_keep)
    (first
      | (go_at_call_of 88 (Value.agg #[Value.bool s, Value.slice b m g, Value.slice b' m' g']); ((with_reducible refine Calls.mono (SB.out _ Q_2.out) ?_); rintro e w3 ⟨rfl, k3⟩; have P_3 := Lib.hid (P_2.out.keep k3); have Q_3 := Lib.hid (Q_2.out.keep k3); have X_3 := Lib.hid (X_2.out.keep k3); have X'_3 := Lib.hid (X'_2.out.keep k3); have Y_3 := Lib.hid (Y_2.out.keep k3); have Y'_3 := Lib.hid (Y'_2.out.keep k3); have B_3 := Lib.hid (B_2.out.keep k3); have C_3 := Lib.hid (C_2.out.keep k3); have KW_3 := Lib.hid (KW_2.out.trans k3); obtain ⟨cB_3_0, cB_3_1, cB_3_2, -, -, -, -⟩ := id B_3.out; obtain ⟨cC_3_0, cC_3_1, cC_3_2, -, -, -, -⟩ := id C_3.out; clear k3))
      | (go_at_call_of 88 (Value.agg #[Value.bool s, Value.slice a n c, Value.slice a' n' c']); ((with_reducible refine Calls.mono (SA.out _ P_1.out) ?_); rintro e w2 ⟨rfl, k2⟩; have P_2 := Lib.hid (P_1.out.keep k2); have Q_2 := Lib.hid (Q_1.out.keep k2); have X_2 := Lib.hid (X_1.out.keep k2); have X'_2 := Lib.hid (X'_1.out.keep k2); have Y_2 := Lib.hid (Y_1.out.keep k2); have Y'_2 := Lib.hid (Y'_1.out.keep k2); have B_2 := Lib.hid (B_1.out.keep k2); have C_2 := Lib.hid (C_1.out.keep k2); have KW_2 := Lib.hid (KW_1.out.trans k2); obtain ⟨cB_2_0, cB_2_1, cB_2_2, -, -, -, -⟩ := id B_2.out; obtain ⟨cC_2_0, cC_2_1, cC_2_2, -, -, -, -⟩ := id C_2.out; clear k2)))
  clear cB_3_0 cB_3_1 cB_3_2 cC_3_0 cC_3_1 cC_3_2 cB_2_0 cB_2_1 cB_2_2 cC_2_0 cC_2_1 cC_2_2 cB_1_0 cB_1_1 cB_1_2 cC_1_0 cC_1_1 cC_1_2
  obtain ⟨B_c0, B_c1, B_c2, -, -, -, -⟩ := id B_3.out
  obtain ⟨C_c0, C_c1, C_c2, -, -, -, -⟩ := id C_3.out
  go_wp2_with fail
  refine Calls.mono (WA.out _ X_3.out X'_3.out) ?_
  rintro e w4 ⟨rfl, k4⟩
  clear B_c0 B_c1 B_c2 C_c0 C_c1 C_c2
  have P_4 := Lib.hid (P_3.out.keep k4)
  have Q_4 := Lib.hid (Q_3.out.keep k4)
  have X_4 := Lib.hid (X_3.out.keep k4)
  have X'_4 := Lib.hid (X'_3.out.keep k4)
  have Y_4 := Lib.hid (Y_3.out.keep k4)
  have Y'_4 := Lib.hid (Y'_3.out.keep k4)
  have B_4 := Lib.hid (B_3.out.keep k4)
  have C_4 := Lib.hid (C_3.out.keep k4)
  have KW_4 := Lib.hid (KW_3.out.trans k4)
  clear k4 P_3 Q_3 X_3 X'_3 Y_3 Y'_3 B_3 C_3 KW_3
  obtain ⟨B_c0, B_c1, B_c2, -, -, -, -⟩ := id B_4.out
  obtain ⟨C_c0, C_c1, C_c2, -, -, -, -⟩ := id C_4.out
  go_wp2_with fail
  refine Calls.mono (WB.out _ Y_4.out Y'_4.out) ?_
  rintro e w5 ⟨rfl, k5⟩
  clear B_c0 B_c1 B_c2 C_c0 C_c1 C_c2
  have P_5 := Lib.hid (P_4.out.keep k5)
  have Q_5 := Lib.hid (Q_4.out.keep k5)
  have X_5 := Lib.hid (X_4.out.keep k5)
  have X'_5 := Lib.hid (X'_4.out.keep k5)
  have Y_5 := Lib.hid (Y_4.out.keep k5)
  have Y'_5 := Lib.hid (Y'_4.out.keep k5)
  have B_5 := Lib.hid (B_4.out.keep k5)
  have C_5 := Lib.hid (C_4.out.keep k5)
  have KW_5 := Lib.hid (KW_4.out.trans k5)
  clear k5 P_4 Q_4 X_4 X'_4 Y_4 Y'_4 B_4 C_4 KW_4
  go_wp2_with fail
  refine Calls.mono (OR.out _) ?_
  rintro e w9 ⟨rfl, rfl⟩
  clear m1 m2
  go_wp2_with fail
  go_ret
  exact ⟨ret_int HV.out, KW_5.out⟩
set_option maxHeartbeats 1000000 in
theorem cmp_c10 {w : World} {s : Bool} {a a' b b' : Option Addr} {n c n' c' m g m' g' : Nat} {l l' r0 r1 : List Nat} (gx : Rd w a n c l) (gx' : Rd w a' n' c' l') (gy : Rd w b m g r0) (gy' : Rd w b' m' g' r1) {N D M E k : Nat} (hN : Nm w (.slice a n c) N k) (hD : Nm w (.slice a' n' c') D k) (hM : Nm w (.slice b m g) M k) (hE : Nm w (.slice b' m' g') E k) (eN : nv l = N) (eD : nv l' = D) (eM : nv r0 = M) (eE : nv r1 = E) (hN0 : N ≠ 0) (hM0 : M ≠ 0) (hk : k < 48) (hk1 : 1 ≤ k) (hw : ¬ (n ≤ 1 ∧ n' ≤ 1)) (hd1 : n' = 0) (hd2 : m' = 0) : Calls Tryd.prog 54 #[.agg #[.bool s, .slice a n c, .slice a' n' c'], .agg #[.bool s, .slice b m g, .slice b' m' g']] w (VPost (rC (rv s N D) (rv s M E)) w) := by
  obtain ⟨B_0, C_0, KW_0⟩ := op2n w s a n c a' n' c' s b m g b' m' g'
  have PX := Lib.hid (show Ra w (.agg #[.bool s, .slice a n c, .slice a' n' c']) (rv s N D) k from ⟨_, _, _, _, _, rfl, hN, hD, rfl⟩)
  have PY := Lib.hid (show Ra w (.agg #[.bool s, .slice b m g, .slice b' m' g']) (rv s M E) k from ⟨_, _, _, _, _, rfl, hM, hE, rfl⟩)
  have P_0 := Lib.hid (PX.out.keep KW_0.out)
  have Q_0 := Lib.hid (PY.out.keep KW_0.out)
  clear PX PY
  have SA := Lib.hid (fun w1 (h : Ra w1 (.agg #[.bool s, .slice a n c, .slice a' n' c']) (rv s N D) k) => qsign_c h (by omega))
  have SB := Lib.hid (fun w1 (h : Ra w1 (.agg #[.bool s, .slice b m g, .slice b' m' g']) (rv s M E) k) => qsign_c h (by omega))
  have hv := rC_like s (D := D) (M := M) (E := E) hN0
  have hlike : rS (rv s M E) = rS (rv s N D) := by rw [rS_n s D hN0, rS_n s E hM0]
  rw [hlike] at SB
  have rg := rS_range (rv s N D)
  have hx0 : rS (rv s N D) ≠ 0 := by rw [rS_n s D hN0]; cases s <;> decide
  obtain ⟨x, hx⟩ : ∃ x, rS (rv s N D) = x := ⟨_, rfl⟩
  rw [hx] at SA SB hv rg hx0
  obtain ⟨r, hr⟩ : ∃ r, rC (rv s N D) (rv s M E) = r := ⟨_, rfl⟩
  rw [hr] at hv ⊢
  have hx1 : (x == 0) = false := by simpa using hx0
  have X_0 := Lib.hid (gx.keep KW_0.out)
  have X'_0 := Lib.hid (gx'.keep KW_0.out)
  have Y_0 := Lib.hid (gy.keep KW_0.out)
  have Y'_0 := Lib.hid (gy'.keep KW_0.out)
  have WA := Lib.hid (fun w1 (h1 : Rd w1 a n c l) (h2 : Rd w1 a' n' c' l') => words_f (s := s) h1 h2 hw)
  have WB := Lib.hid (fun w1 (h1 : Rd w1 b m g r0) (h2 : Rd w1 b' m' g' r1) => words_any (s := s) h1 h2)
  have e1 : ((n' : Int) == 0) = true := by simp; exact hd1
  have e2 : ((m' : Int) == 0) = true := by simp; exact hd2
  have eD0 : D = 0 := by rw [← eD]; exact len_zero (gx'.len_eq.trans hd1)
  have eE0 : E = 0 := by rw [← eE]; exact len_zero (gy'.len_eq.trans hd2)
  rw [eD0, eE0, dn_zero, Nat.mul_one, Nat.mul_one, ← iC_cmpv] at hv
  have M_0 := Lib.hid (hN.keep KW_0.out)
  have N_0 := Lib.hid (hM.keep KW_0.out)
  have CM := Lib.hid (fun w1 (h : Nm w1 (.slice a n c) N k) (h' : Nm w1 (.slice b m g) M k) => cmp_n h h')
  have rg2 : cmpv N M = -1 ∨ cmpv N M = 0 ∨ cmpv N M = 1 := by rw [iC_cmpv]; exact iC_range _ _
  obtain ⟨z, hz⟩ : ∃ z, cmpv N M = z := ⟨_, rfl⟩
  rw [hz] at CM hv rg2
  have m4 := (mul_range rg rg2).trans hv.symm
  have HV := Lib.hid m4
  clear hN hD hM hE eN eD eM eE gx gx' gy gy' hv hr hx hlike rg rg2 hx0 hz m4 hd1 eD0 eE0 hd2
  go_enter Tryd.func54, Tryd.ntmps54
  have P_1 := Lib.hid (P_0.out.keep (keep_drew _))
  clear P_0
  have Q_1 := Lib.hid (Q_0.out.keep (keep_drew _))
  clear Q_0
  have X_1 := Lib.hid (X_0.out.keep (keep_drew _))
  clear X_0
  have X'_1 := Lib.hid (X'_0.out.keep (keep_drew _))
  clear X'_0
  have Y_1 := Lib.hid (Y_0.out.keep (keep_drew _))
  clear Y_0
  have Y'_1 := Lib.hid (Y'_0.out.keep (keep_drew _))
  clear Y'_0
  have M_1 := Lib.hid (M_0.out.keep (keep_drew _))
  clear M_0
  have N_1 := Lib.hid (N_0.out.keep (keep_drew _))
  clear N_0
  have B_1 := Lib.hid (B_0.out.keep (keep_drew _))
  clear B_0
  have C_1 := Lib.hid (C_0.out.keep (keep_drew _))
  clear C_0
  have KW_1 := Lib.hid (KW_0.out.trans (keep_drew _))
  clear KW_0
  obtain ⟨cB_1_0, cB_1_1, cB_1_2, -, -, -, -⟩ := id B_1.out
  obtain ⟨cC_1_0, cC_1_1, cC_1_2, -, -, -, -⟩ := id C_1.out
  go_wp2
  go_region_held3 (fun w' => w'.cell? ⟨w.heap.size, 0, none⟩ = some (.bool s) ∧ w'.cell? ⟨w.heap.size, 1, none⟩ = some (.slice a n c) ∧ w'.cell? ⟨w.heap.size, 2, none⟩ = some (.slice a' n' c') ∧ w'.cell? ⟨w.heap.size + 1, 0, none⟩ = some (.bool s) ∧ w'.cell? ⟨w.heap.size + 1, 1, none⟩ = some (.slice b m g) ∧ w'.cell? ⟨w.heap.size + 1, 2, none⟩ = some (.slice b' m' g')) (first | exact ⟨cB_3_0, cB_3_1, cB_3_2, cC_3_0, cC_3_1, cC_3_2⟩ | exact ⟨cB_2_0, cB_2_1, cB_2_2, cC_2_0, cC_2_1, cC_2_2⟩ | exact ⟨cB_1_0, cB_1_1, cB_1_2, cC_1_0, cC_1_1, cC_1_2⟩ | go_keep)
    (first
      | (go_at_call_of 88 (Value.agg #[Value.bool s, Value.slice b m g, Value.slice b' m' g']); ((with_reducible refine Calls.mono (SB.out _ Q_2.out) ?_); rintro e w3 ⟨rfl, k3⟩; have P_3 := Lib.hid (P_2.out.keep k3); have Q_3 := Lib.hid (Q_2.out.keep k3); have X_3 := Lib.hid (X_2.out.keep k3); have X'_3 := Lib.hid (X'_2.out.keep k3); have Y_3 := Lib.hid (Y_2.out.keep k3); have Y'_3 := Lib.hid (Y'_2.out.keep k3); have M_3 := Lib.hid (M_2.out.keep k3); have N_3 := Lib.hid (N_2.out.keep k3); have B_3 := Lib.hid (B_2.out.keep k3); have C_3 := Lib.hid (C_2.out.keep k3); have KW_3 := Lib.hid (KW_2.out.trans k3); obtain ⟨cB_3_0, cB_3_1, cB_3_2, -, -, -, -⟩ := id B_3.out; obtain ⟨cC_3_0, cC_3_1, cC_3_2, -, -, -, -⟩ := id C_3.out; clear k3))
      | (go_at_call_of 88 (Value.agg #[Value.bool s, Value.slice a n c, Value.slice a' n' c']); ((with_reducible refine Calls.mono (SA.out _ P_1.out) ?_); rintro e w2 ⟨rfl, k2⟩; have P_2 := Lib.hid (P_1.out.keep k2); have Q_2 := Lib.hid (Q_1.out.keep k2); have X_2 := Lib.hid (X_1.out.keep k2); have X'_2 := Lib.hid (X'_1.out.keep k2); have Y_2 := Lib.hid (Y_1.out.keep k2); have Y'_2 := Lib.hid (Y'_1.out.keep k2); have M_2 := Lib.hid (M_1.out.keep k2); have N_2 := Lib.hid (N_1.out.keep k2); have B_2 := Lib.hid (B_1.out.keep k2); have C_2 := Lib.hid (C_1.out.keep k2); have KW_2 := Lib.hid (KW_1.out.trans k2); obtain ⟨cB_2_0, cB_2_1, cB_2_2, -, -, -, -⟩ := id B_2.out; obtain ⟨cC_2_0, cC_2_1, cC_2_2, -, -, -, -⟩ := id C_2.out; clear k2)))
  clear cB_3_0 cB_3_1 cB_3_2 cC_3_0 cC_3_1 cC_3_2 cB_2_0 cB_2_1 cB_2_2 cC_2_0 cC_2_1 cC_2_2 cB_1_0 cB_1_1 cB_1_2 cC_1_0 cC_1_1 cC_1_2
  obtain ⟨B_c0, B_c1, B_c2, -, -, -, -⟩ := id B_3.out
  obtain ⟨C_c0, C_c1, C_c2, -, -, -, -⟩ := id C_3.out
  go_wp2_with fail
  refine Calls.mono (WA.out _ X_3.out X'_3.out) ?_
  rintro e w4 ⟨rfl, k4⟩
  clear B_c0 B_c1 B_c2 C_c0 C_c1 C_c2
  have P_4 := Lib.hid (P_3.out.keep k4)
  have Q_4 := Lib.hid (Q_3.out.keep k4)
  have X_4 := Lib.hid (X_3.out.keep k4)
  have X'_4 := Lib.hid (X'_3.out.keep k4)
  have Y_4 := Lib.hid (Y_3.out.keep k4)
  have Y'_4 := Lib.hid (Y'_3.out.keep k4)
  have M_4 := Lib.hid (M_3.out.keep k4)
  have N_4 := Lib.hid (N_3.out.keep k4)
  have B_4 := Lib.hid (B_3.out.keep k4)
  have C_4 := Lib.hid (C_3.out.keep k4)
  have KW_4 := Lib.hid (KW_3.out.trans k4)
  clear k4 P_3 Q_3 X_3 X'_3 Y_3 Y'_3 M_3 N_3 B_3 C_3 KW_3
  obtain ⟨B_c0, B_c1, B_c2, -, -, -, -⟩ := id B_4.out
  obtain ⟨C_c0, C_c1, C_c2, -, -, -, -⟩ := id C_4.out
  go_wp2_with fail
  refine Calls.mono (WB.out _ Y_4.out Y'_4.out) ?_
  rintro e w5 ⟨⟨wp, wq, wr, rfl⟩, k5⟩
  clear B_c0 B_c1 B_c2 C_c0 C_c1 C_c2
  have P_5 := Lib.hid (P_4.out.keep k5)
  have Q_5 := Lib.hid (Q_4.out.keep k5)
  have X_5 := Lib.hid (X_4.out.keep k5)
  have X'_5 := Lib.hid (X'_4.out.keep k5)
  have Y_5 := Lib.hid (Y_4.out.keep k5)
  have Y'_5 := Lib.hid (Y'_4.out.keep k5)
  have M_5 := Lib.hid (M_4.out.keep k5)
  have N_5 := Lib.hid (N_4.out.keep k5)
  have B_5 := Lib.hid (B_4.out.keep k5)
  have C_5 := Lib.hid (C_4.out.keep k5)
  have KW_5 := Lib.hid (KW_4.out.trans k5)
  clear k5 P_4 Q_4 X_4 X'_4 Y_4 Y'_4 M_4 N_4 B_4 C_4 KW_4
  obtain ⟨B_c0, B_c1, B_c2, -, -, -, -⟩ := id B_5.out
  obtain ⟨C_c0, C_c1, C_c2, -, -, -, -⟩ := id C_5.out
  go_wp2_with fail
  refine Calls.mono (CM.out _ M_5.out N_5.out) ?_
  rintro e w9 ⟨rfl, k9⟩
  have KF := Lib.hid (KW_5.out.trans k9)
  clear k9
  go_wp2_with fail
  go_ret
  exact ⟨ret_int HV.out, KF.out⟩
set_option maxHeartbeats 1000000 in
theorem cmp_c11 {w : World} {s : Bool} {a a' b b' : Option Addr} {n c n' c' m g m' g' : Nat} {l l' r0 r1 : List Nat} (gx : Rd w a n c l) (gx' : Rd w a' n' c' l') (gy : Rd w b m g r0) (gy' : Rd w b' m' g' r1) {N D M E k : Nat} (hN : Nm w (.slice a n c) N k) (hD : Nm w (.slice a' n' c') D k) (hM : Nm w (.slice b m g) M k) (hE : Nm w (.slice b' m' g') E k) (eN : nv l = N) (eD : nv l' = D) (eM : nv r0 = M) (eE : nv r1 = E) (hN0 : N ≠ 0) (hM0 : M ≠ 0) (hk : k < 48) (hk1 : 1 ≤ k) (hw : ¬ (n ≤ 1 ∧ n' ≤ 1)) (hd1 : n' ≠ 0) : Calls Tryd.prog 54 #[.agg #[.bool s, .slice a n c, .slice a' n' c'], .agg #[.bool s, .slice b m g, .slice b' m' g']] w (VPost (rC (rv s N D) (rv s M E)) w) := by
  obtain ⟨B_0, C_0, KW_0⟩ := op2n w s a n c a' n' c' s b m g b' m' g'
  have PX := Lib.hid (show Ra w (.agg #[.bool s, .slice a n c, .slice a' n' c']) (rv s N D) k from ⟨_, _, _, _, _, rfl, hN, hD, rfl⟩)
  have PY := Lib.hid (show Ra w (.agg #[.bool s, .slice b m g, .slice b' m' g']) (rv s M E) k from ⟨_, _, _, _, _, rfl, hM, hE, rfl⟩)
  have P_0 := Lib.hid (PX.out.keep KW_0.out)
  have Q_0 := Lib.hid (PY.out.keep KW_0.out)
  clear PX PY
  have SA := Lib.hid (fun w1 (h : Ra w1 (.agg #[.bool s, .slice a n c, .slice a' n' c']) (rv s N D) k) => qsign_c h (by omega))
  have SB := Lib.hid (fun w1 (h : Ra w1 (.agg #[.bool s, .slice b m g, .slice b' m' g']) (rv s M E) k) => qsign_c h (by omega))
  have hv := rC_like s (D := D) (M := M) (E := E) hN0
  have hlike : rS (rv s M E) = rS (rv s N D) := by rw [rS_n s D hN0, rS_n s E hM0]
  rw [hlike] at SB
  have rg := rS_range (rv s N D)
  have hx0 : rS (rv s N D) ≠ 0 := by rw [rS_n s D hN0]; cases s <;> decide
  obtain ⟨x, hx⟩ : ∃ x, rS (rv s N D) = x := ⟨_, rfl⟩
  rw [hx] at SA SB hv rg hx0
  obtain ⟨r, hr⟩ : ∃ r, rC (rv s N D) (rv s M E) = r := ⟨_, rfl⟩
  rw [hr] at hv ⊢
  have hx1 : (x == 0) = false := by simpa using hx0
  have X_0 := Lib.hid (gx.keep KW_0.out)
  have X'_0 := Lib.hid (gx'.keep KW_0.out)
  have Y_0 := Lib.hid (gy.keep KW_0.out)
  have Y'_0 := Lib.hid (gy'.keep KW_0.out)
  have WA := Lib.hid (fun w1 (h1 : Rd w1 a n c l) (h2 : Rd w1 a' n' c' l') => words_f (s := s) h1 h2 hw)
  have WB := Lib.hid (fun w1 (h1 : Rd w1 b m g r0) (h2 : Rd w1 b' m' g' r1) => words_any (s := s) h1 h2)
  have e1 : ((n' : Int) == 0) = false := by simp; exact hd1
  have M_0 := Lib.hid (hN.keep KW_0.out)
  have N_0 := Lib.hid (hM.keep KW_0.out)
  have D_0 := Lib.hid (hD.keep KW_0.out)
  have E_0 := Lib.hid (hE.keep KW_0.out)
  have DA := Lib.hid (fun w1 (h : Nm w1 (.slice a' n' c') D k) => den_c (s := s) (a := a) (n := n) (c := c) h (by omega) hk1)
  have DB := Lib.hid (fun w1 (h : Nm w1 (.slice b' m' g') E k) => den_c (s := s) (a := b) (n := m) (c := g) h (by omega) hk1)
  have lN := hN.lt
  have lM := hM.lt
  have lD := dn_lt' hD.lt hk1
  have lE := dn_lt' hE.lt hk1
  have l1 := lt_mul_pow lN lE
  have l2 := lt_mul_pow lM lD
  have M1 := Lib.hid (fun w1 u (h : Nm w1 (.slice a n c) N k) (hu : Nm w1 u (dn E) k) => mul_n h hu (by omega) (by omega) (.inl hk))
  have M2 := Lib.hid (fun w1 u (h : Nm w1 (.slice b m g) M k) (hu : Nm w1 u (dn D) k) => mul_n h hu (by omega) (by omega) (.inl hk))
  have CM := Lib.hid (fun w1 u v (h : Cn w1 u (N * dn E)) (h' : Cn w1 v (M * dn D)) => cmp_n (h.nm l1) (h'.nm l2))
  rw [← iC_cmpv] at hv
  have rg2 : cmpv (N * dn E) (M * dn D) = -1 ∨ cmpv (N * dn E) (M * dn D) = 0 ∨ cmpv (N * dn E) (M * dn D) = 1 := by rw [iC_cmpv]; exact iC_range _ _
  obtain ⟨z, hz⟩ : ∃ z, cmpv (N * dn E) (M * dn D) = z := ⟨_, rfl⟩
  rw [hz] at CM hv rg2
  have m4 := (mul_range' rg rg2).trans hv.symm
  have HV := Lib.hid m4
  clear hN hD hM hE eN eD eM eE gx gx' gy gy' hv hr hx hlike rg rg2 hx0 hz m4 hd1 lN lM lD lE l1 l2 
  go_enter Tryd.func54, Tryd.ntmps54
  have P_1 := Lib.hid (P_0.out.keep (keep_drew _))
  clear P_0
  have Q_1 := Lib.hid (Q_0.out.keep (keep_drew _))
  clear Q_0
  have X_1 := Lib.hid (X_0.out.keep (keep_drew _))
  clear X_0
  have X'_1 := Lib.hid (X'_0.out.keep (keep_drew _))
  clear X'_0
  have Y_1 := Lib.hid (Y_0.out.keep (keep_drew _))
  clear Y_0
  have Y'_1 := Lib.hid (Y'_0.out.keep (keep_drew _))
  clear Y'_0
  have M_1 := Lib.hid (M_0.out.keep (keep_drew _))
  clear M_0
  have N_1 := Lib.hid (N_0.out.keep (keep_drew _))
  clear N_0
  have D_1 := Lib.hid (D_0.out.keep (keep_drew _))
  clear D_0
  have E_1 := Lib.hid (E_0.out.keep (keep_drew _))
  clear E_0
  have B_1 := Lib.hid (B_0.out.keep (keep_drew _))
  clear B_0
  have C_1 := Lib.hid (C_0.out.keep (keep_drew _))
  clear C_0
  have KW_1 := Lib.hid (KW_0.out.trans (keep_drew _))
  clear KW_0
  obtain ⟨cB_1_0, cB_1_1, cB_1_2, -, -, -, -⟩ := id B_1.out
  obtain ⟨cC_1_0, cC_1_1, cC_1_2, -, -, -, -⟩ := id C_1.out
  go_wp2
  go_region_held3 (fun w' => w'.cell? ⟨w.heap.size, 0, none⟩ = some (.bool s) ∧ w'.cell? ⟨w.heap.size, 1, none⟩ = some (.slice a n c) ∧ w'.cell? ⟨w.heap.size, 2, none⟩ = some (.slice a' n' c') ∧ w'.cell? ⟨w.heap.size + 1, 0, none⟩ = some (.bool s) ∧ w'.cell? ⟨w.heap.size + 1, 1, none⟩ = some (.slice b m g) ∧ w'.cell? ⟨w.heap.size + 1, 2, none⟩ = some (.slice b' m' g')) (first | exact ⟨cB_3_0, cB_3_1, cB_3_2, cC_3_0, cC_3_1, cC_3_2⟩ | exact ⟨cB_2_0, cB_2_1, cB_2_2, cC_2_0, cC_2_1, cC_2_2⟩ | exact ⟨cB_1_0, cB_1_1, cB_1_2, cC_1_0, cC_1_1, cC_1_2⟩ | go_keep)
    (first
      | (go_at_call_of 88 (Value.agg #[Value.bool s, Value.slice b m g, Value.slice b' m' g']); ((with_reducible refine Calls.mono (SB.out _ Q_2.out) ?_); rintro e w3 ⟨rfl, k3⟩; have P_3 := Lib.hid (P_2.out.keep k3); have Q_3 := Lib.hid (Q_2.out.keep k3); have X_3 := Lib.hid (X_2.out.keep k3); have X'_3 := Lib.hid (X'_2.out.keep k3); have Y_3 := Lib.hid (Y_2.out.keep k3); have Y'_3 := Lib.hid (Y'_2.out.keep k3); have M_3 := Lib.hid (M_2.out.keep k3); have N_3 := Lib.hid (N_2.out.keep k3); have D_3 := Lib.hid (D_2.out.keep k3); have E_3 := Lib.hid (E_2.out.keep k3); have B_3 := Lib.hid (B_2.out.keep k3); have C_3 := Lib.hid (C_2.out.keep k3); have KW_3 := Lib.hid (KW_2.out.trans k3); obtain ⟨cB_3_0, cB_3_1, cB_3_2, -, -, -, -⟩ := id B_3.out; obtain ⟨cC_3_0, cC_3_1, cC_3_2, -, -, -, -⟩ := id C_3.out; clear k3))
      | (go_at_call_of 88 (Value.agg #[Value.bool s, Value.slice a n c, Value.slice a' n' c']); ((with_reducible refine Calls.mono (SA.out _ P_1.out) ?_); rintro e w2 ⟨rfl, k2⟩; have P_2 := Lib.hid (P_1.out.keep k2); have Q_2 := Lib.hid (Q_1.out.keep k2); have X_2 := Lib.hid (X_1.out.keep k2); have X'_2 := Lib.hid (X'_1.out.keep k2); have Y_2 := Lib.hid (Y_1.out.keep k2); have Y'_2 := Lib.hid (Y'_1.out.keep k2); have M_2 := Lib.hid (M_1.out.keep k2); have N_2 := Lib.hid (N_1.out.keep k2); have D_2 := Lib.hid (D_1.out.keep k2); have E_2 := Lib.hid (E_1.out.keep k2); have B_2 := Lib.hid (B_1.out.keep k2); have C_2 := Lib.hid (C_1.out.keep k2); have KW_2 := Lib.hid (KW_1.out.trans k2); obtain ⟨cB_2_0, cB_2_1, cB_2_2, -, -, -, -⟩ := id B_2.out; obtain ⟨cC_2_0, cC_2_1, cC_2_2, -, -, -, -⟩ := id C_2.out; clear k2)))
  clear cB_3_0 cB_3_1 cB_3_2 cC_3_0 cC_3_1 cC_3_2 cB_2_0 cB_2_1 cB_2_2 cC_2_0 cC_2_1 cC_2_2 cB_1_0 cB_1_1 cB_1_2 cC_1_0 cC_1_1 cC_1_2
  obtain ⟨B_c0, B_c1, B_c2, -, -, -, -⟩ := id B_3.out
  obtain ⟨C_c0, C_c1, C_c2, -, -, -, -⟩ := id C_3.out
  go_wp2_with fail
  refine Calls.mono (WA.out _ X_3.out X'_3.out) ?_
  rintro e w4 ⟨rfl, k4⟩
  clear B_c0 B_c1 B_c2 C_c0 C_c1 C_c2
  have P_4 := Lib.hid (P_3.out.keep k4)
  have Q_4 := Lib.hid (Q_3.out.keep k4)
  have X_4 := Lib.hid (X_3.out.keep k4)
  have X'_4 := Lib.hid (X'_3.out.keep k4)
  have Y_4 := Lib.hid (Y_3.out.keep k4)
  have Y'_4 := Lib.hid (Y'_3.out.keep k4)
  have M_4 := Lib.hid (M_3.out.keep k4)
  have N_4 := Lib.hid (N_3.out.keep k4)
  have D_4 := Lib.hid (D_3.out.keep k4)
  have E_4 := Lib.hid (E_3.out.keep k4)
  have B_4 := Lib.hid (B_3.out.keep k4)
  have C_4 := Lib.hid (C_3.out.keep k4)
  have KW_4 := Lib.hid (KW_3.out.trans k4)
  clear k4 P_3 Q_3 X_3 X'_3 Y_3 Y'_3 M_3 N_3 D_3 E_3 B_3 C_3 KW_3
  obtain ⟨B_c0, B_c1, B_c2, -, -, -, -⟩ := id B_4.out
  obtain ⟨C_c0, C_c1, C_c2, -, -, -, -⟩ := id C_4.out
  go_wp2_with fail
  refine Calls.mono (WB.out _ Y_4.out Y'_4.out) ?_
  rintro e w5 ⟨⟨wp, wq, wr, rfl⟩, k5⟩
  clear B_c0 B_c1 B_c2 C_c0 C_c1 C_c2
  have P_5 := Lib.hid (P_4.out.keep k5)
  have Q_5 := Lib.hid (Q_4.out.keep k5)
  have X_5 := Lib.hid (X_4.out.keep k5)
  have X'_5 := Lib.hid (X'_4.out.keep k5)
  have Y_5 := Lib.hid (Y_4.out.keep k5)
  have Y'_5 := Lib.hid (Y'_4.out.keep k5)
  have M_5 := Lib.hid (M_4.out.keep k5)
  have N_5 := Lib.hid (N_4.out.keep k5)
  have D_5 := Lib.hid (D_4.out.keep k5)
  have E_5 := Lib.hid (E_4.out.keep k5)
  have B_5 := Lib.hid (B_4.out.keep k5)
  have C_5 := Lib.hid (C_4.out.keep k5)
  have KW_5 := Lib.hid (KW_4.out.trans k5)
  clear k5 P_4 Q_4 X_4 X'_4 Y_4 Y'_4 M_4 N_4 D_4 E_4 B_4 C_4 KW_4
  obtain ⟨oB_0, oB_1, oB_2, -, -, -, -⟩ := id B_5.out
  obtain ⟨oC_0, oC_1, oC_2, -, -, -, -⟩ := id C_5.out
  have P_6 := Lib.hid (P_5.out.keep (keep_drew _))
  clear P_5
  have Q_6 := Lib.hid (Q_5.out.keep (keep_drew _))
  clear Q_5
  have X_6 := Lib.hid (X_5.out.keep (keep_drew _))
  clear X_5
  have X'_6 := Lib.hid (X'_5.out.keep (keep_drew _))
  clear X'_5
  have Y_6 := Lib.hid (Y_5.out.keep (keep_drew _))
  clear Y_5
  have Y'_6 := Lib.hid (Y'_5.out.keep (keep_drew _))
  clear Y'_5
  have M_6 := Lib.hid (M_5.out.keep (keep_drew _))
  clear M_5
  have N_6 := Lib.hid (N_5.out.keep (keep_drew _))
  clear N_5
  have D_6 := Lib.hid (D_5.out.keep (keep_drew _))
  clear D_5
  have E_6 := Lib.hid (E_5.out.keep (keep_drew _))
  clear E_5
  have B_6 := Lib.hid (B_5.out.keep (keep_drew _))
  clear B_5
  have C_6 := Lib.hid (C_5.out.keep (keep_drew _))
  clear C_5
  have KW_6 := Lib.hid (KW_5.out.trans (keep_drew _))
  clear KW_5
  obtain ⟨cB_6_0, cB_6_1, cB_6_2, -, -, -, -⟩ := id B_6.out
  obtain ⟨cC_6_0, cC_6_1, cC_6_2, -, -, -, -⟩ := id C_6.out
  go_wp2
  go_region_held3 (fun w' => w'.cell? ⟨w.heap.size, 0, none⟩ = some (.bool s) ∧ w'.cell? ⟨w.heap.size, 1, none⟩ = some (.slice a n c) ∧ w'.cell? ⟨w.heap.size, 2, none⟩ = some (.slice a' n' c') ∧ w'.cell? ⟨w.heap.size + 1, 0, none⟩ = some (.bool s) ∧ w'.cell? ⟨w.heap.size + 1, 1, none⟩ = some (.slice b m g) ∧ w'.cell? ⟨w.heap.size + 1, 2, none⟩ = some (.slice b' m' g')) (first | exact ⟨cB_11_0, cB_11_1, cB_11_2, cC_11_0, cC_11_1, cC_11_2⟩ | exact ⟨cB_10_0, cB_10_1, cB_10_2, cC_10_0, cC_10_1, cC_10_2⟩ | exact ⟨cB_9_0, cB_9_1, cB_9_2, cC_9_0, cC_9_1, cC_9_2⟩ | exact ⟨cB_8_0, cB_8_1, cB_8_2, cC_8_0, cC_8_1, cC_8_2⟩ | exact ⟨cB_7_0, cB_7_1, cB_7_2, cC_7_0, cC_7_1, cC_7_2⟩ | exact ⟨cB_6_0, cB_6_1, cB_6_2, cC_6_0, cC_6_1, cC_6_2⟩ | go_keep)
    (first
      | (go_at_call 71; ((with_reducible refine Calls.mono (CM.out _ _ _ PP_10.out QQ_10.out) ?_); rintro e w11 ⟨rfl, k11⟩; have P_11 := Lib.hid (P_10.out.keep k11); have Q_11 := Lib.hid (Q_10.out.keep k11); have X_11 := Lib.hid (X_10.out.keep k11); have X'_11 := Lib.hid (X'_10.out.keep k11); have Y_11 := Lib.hid (Y_10.out.keep k11); have Y'_11 := Lib.hid (Y'_10.out.keep k11); have M_11 := Lib.hid (M_10.out.keep k11); have N_11 := Lib.hid (N_10.out.keep k11); have D_11 := Lib.hid (D_10.out.keep k11); have E_11 := Lib.hid (E_10.out.keep k11); have B_11 := Lib.hid (B_10.out.keep k11); have C_11 := Lib.hid (C_10.out.keep k11); have V_11 := Lib.hid (V_10.out.keep k11); have PP_11 := Lib.hid (PP_10.out.keep k11); have U_11 := Lib.hid (U_10.out.keep k11); have QQ_11 := Lib.hid (QQ_10.out.keep k11); have KW_11 := Lib.hid (KW_10.out.trans k11); obtain ⟨cB_11_0, cB_11_1, cB_11_2, -, -, -, -⟩ := id B_11.out; obtain ⟨cC_11_0, cC_11_1, cC_11_2, -, -, -, -⟩ := id C_11.out; clear k11))
      | (go_at_call_of 92 (Value.slice b m g); ((with_reducible refine Calls.mono (M2.out _ _ N_9.out U_9.out) ?_); rintro e w10 ⟨vQ, rfl, hQ, k10⟩; have P_10 := Lib.hid (P_9.out.keep k10); have Q_10 := Lib.hid (Q_9.out.keep k10); have X_10 := Lib.hid (X_9.out.keep k10); have X'_10 := Lib.hid (X'_9.out.keep k10); have Y_10 := Lib.hid (Y_9.out.keep k10); have Y'_10 := Lib.hid (Y'_9.out.keep k10); have M_10 := Lib.hid (M_9.out.keep k10); have N_10 := Lib.hid (N_9.out.keep k10); have D_10 := Lib.hid (D_9.out.keep k10); have E_10 := Lib.hid (E_9.out.keep k10); have B_10 := Lib.hid (B_9.out.keep k10); have C_10 := Lib.hid (C_9.out.keep k10); have V_10 := Lib.hid (V_9.out.keep k10); have PP_10 := Lib.hid (PP_9.out.keep k10); have U_10 := Lib.hid (U_9.out.keep k10); have QQ_10 := Lib.hid hQ; clear hQ; have KW_10 := Lib.hid (KW_9.out.trans k10); obtain ⟨cB_10_0, cB_10_1, cB_10_2, -, -, -, -⟩ := id B_10.out; obtain ⟨cC_10_0, cC_10_1, cC_10_2, -, -, -, -⟩ := id C_10.out; clear k10))
      | (go_at_call_of 93 (Value.agg #[Value.bool s, Value.slice a n c, Value.slice a' n' c']); ((with_reducible refine Calls.mono (DA.out _ D_8.out) ?_); rintro e w9 ⟨vA, rfl, hu1, k9⟩; have P_9 := Lib.hid (P_8.out.keep k9); have Q_9 := Lib.hid (Q_8.out.keep k9); have X_9 := Lib.hid (X_8.out.keep k9); have X'_9 := Lib.hid (X'_8.out.keep k9); have Y_9 := Lib.hid (Y_8.out.keep k9); have Y'_9 := Lib.hid (Y'_8.out.keep k9); have M_9 := Lib.hid (M_8.out.keep k9); have N_9 := Lib.hid (N_8.out.keep k9); have D_9 := Lib.hid (D_8.out.keep k9); have E_9 := Lib.hid (E_8.out.keep k9); have B_9 := Lib.hid (B_8.out.keep k9); have C_9 := Lib.hid (C_8.out.keep k9); have V_9 := Lib.hid (V_8.out.keep k9); have PP_9 := Lib.hid (PP_8.out.keep k9); have U_9 := Lib.hid hu1; clear hu1; have KW_9 := Lib.hid (KW_8.out.trans k9); obtain ⟨cB_9_0, cB_9_1, cB_9_2, -, -, -, -⟩ := id B_9.out; obtain ⟨cC_9_0, cC_9_1, cC_9_2, -, -, -, -⟩ := id C_9.out; clear k9))
      | (go_at_call_of 92 (Value.slice a n c); ((with_reducible refine Calls.mono (M1.out _ _ M_7.out V_7.out) ?_); rintro e w8 ⟨vP, rfl, hP, k8⟩; have P_8 := Lib.hid (P_7.out.keep k8); have Q_8 := Lib.hid (Q_7.out.keep k8); have X_8 := Lib.hid (X_7.out.keep k8); have X'_8 := Lib.hid (X'_7.out.keep k8); have Y_8 := Lib.hid (Y_7.out.keep k8); have Y'_8 := Lib.hid (Y'_7.out.keep k8); have M_8 := Lib.hid (M_7.out.keep k8); have N_8 := Lib.hid (N_7.out.keep k8); have D_8 := Lib.hid (D_7.out.keep k8); have E_8 := Lib.hid (E_7.out.keep k8); have B_8 := Lib.hid (B_7.out.keep k8); have C_8 := Lib.hid (C_7.out.keep k8); have V_8 := Lib.hid (V_7.out.keep k8); have PP_8 := Lib.hid hP; clear hP; have KW_8 := Lib.hid (KW_7.out.trans k8); obtain ⟨cB_8_0, cB_8_1, cB_8_2, -, -, -, -⟩ := id B_8.out; obtain ⟨cC_8_0, cC_8_1, cC_8_2, -, -, -, -⟩ := id C_8.out; clear k8))
      | (go_at_call_of 93 (Value.agg #[Value.bool s, Value.slice b m g, Value.slice b' m' g']); ((with_reducible refine Calls.mono (DB.out _ E_6.out) ?_); rintro e w7 ⟨vB, rfl, hu2, k7⟩; have P_7 := Lib.hid (P_6.out.keep k7); have Q_7 := Lib.hid (Q_6.out.keep k7); have X_7 := Lib.hid (X_6.out.keep k7); have X'_7 := Lib.hid (X'_6.out.keep k7); have Y_7 := Lib.hid (Y_6.out.keep k7); have Y'_7 := Lib.hid (Y'_6.out.keep k7); have M_7 := Lib.hid (M_6.out.keep k7); have N_7 := Lib.hid (N_6.out.keep k7); have D_7 := Lib.hid (D_6.out.keep k7); have E_7 := Lib.hid (E_6.out.keep k7); have B_7 := Lib.hid (B_6.out.keep k7); have C_7 := Lib.hid (C_6.out.keep k7); have V_7 := Lib.hid hu2; clear hu2; have KW_7 := Lib.hid (KW_6.out.trans k7); obtain ⟨cB_7_0, cB_7_1, cB_7_2, -, -, -, -⟩ := id B_7.out; obtain ⟨cC_7_0, cC_7_1, cC_7_2, -, -, -, -⟩ := id C_7.out; clear k7)))
  clear cB_11_0 cB_11_1 cB_11_2 cC_11_0 cC_11_1 cC_11_2 cB_10_0 cB_10_1 cB_10_2 cC_10_0 cC_10_1 cC_10_2 cB_9_0 cB_9_1 cB_9_2 cC_9_0 cC_9_1 cC_9_2 cB_8_0 cB_8_1 cB_8_2 cC_8_0 cC_8_1 cC_8_2 cB_7_0 cB_7_1 cB_7_2 cC_7_0 cC_7_1 cC_7_2 cB_6_0 cB_6_1 cB_6_2 cC_6_0 cC_6_1 cC_6_2 oB_0 oB_1 oB_2 oC_0 oC_1 oC_2
  go_wp2_with fail
  go_ret
  exact ⟨ret_int HV.out, KW_11.out⟩
set_option maxHeartbeats 1000000 in
theorem cmp_c12 {w : World} {s : Bool} {a a' b b' : Option Addr} {n c n' c' m g m' g' : Nat} {l l' r0 r1 : List Nat} (gx : Rd w a n c l) (gx' : Rd w a' n' c' l') (gy : Rd w b m g r0) (gy' : Rd w b' m' g' r1) {N D M E k : Nat} (hN : Nm w (.slice a n c) N k) (hD : Nm w (.slice a' n' c') D k) (hM : Nm w (.slice b m g) M k) (hE : Nm w (.slice b' m' g') E k) (eN : nv l = N) (eD : nv l' = D) (eM : nv r0 = M) (eE : nv r1 = E) (hN0 : N ≠ 0) (hM0 : M ≠ 0) (hk : k < 48) (hk1 : 1 ≤ k) (hw : ¬ (n ≤ 1 ∧ n' ≤ 1)) (hd1 : n' = 0) (hd2 : m' ≠ 0) : Calls Tryd.prog 54 #[.agg #[.bool s, .slice a n c, .slice a' n' c'], .agg #[.bool s, .slice b m g, .slice b' m' g']] w (VPost (rC (rv s N D) (rv s M E)) w) := by
  obtain ⟨B_0, C_0, KW_0⟩ := op2n w s a n c a' n' c' s b m g b' m' g'
  have PX := Lib.hid (show Ra w (.agg #[.bool s, .slice a n c, .slice a' n' c']) (rv s N D) k from ⟨_, _, _, _, _, rfl, hN, hD, rfl⟩)
  have PY := Lib.hid (show Ra w (.agg #[.bool s, .slice b m g, .slice b' m' g']) (rv s M E) k from ⟨_, _, _, _, _, rfl, hM, hE, rfl⟩)
  have P_0 := Lib.hid (PX.out.keep KW_0.out)
  have Q_0 := Lib.hid (PY.out.keep KW_0.out)
  clear PX PY
  have SA := Lib.hid (fun w1 (h : Ra w1 (.agg #[.bool s, .slice a n c, .slice a' n' c']) (rv s N D) k) => qsign_c h (by omega))
  have SB := Lib.hid (fun w1 (h : Ra w1 (.agg #[.bool s, .slice b m g, .slice b' m' g']) (rv s M E) k) => qsign_c h (by omega))
  have hv := rC_like s (D := D) (M := M) (E := E) hN0
  have hlike : rS (rv s M E) = rS (rv s N D) := by rw [rS_n s D hN0, rS_n s E hM0]
  rw [hlike] at SB
  have rg := rS_range (rv s N D)
  have hx0 : rS (rv s N D) ≠ 0 := by rw [rS_n s D hN0]; cases s <;> decide
  obtain ⟨x, hx⟩ : ∃ x, rS (rv s N D) = x := ⟨_, rfl⟩
  rw [hx] at SA SB hv rg hx0
  obtain ⟨r, hr⟩ : ∃ r, rC (rv s N D) (rv s M E) = r := ⟨_, rfl⟩
  rw [hr] at hv ⊢
  have hx1 : (x == 0) = false := by simpa using hx0
  have X_0 := Lib.hid (gx.keep KW_0.out)
  have X'_0 := Lib.hid (gx'.keep KW_0.out)
  have Y_0 := Lib.hid (gy.keep KW_0.out)
  have Y'_0 := Lib.hid (gy'.keep KW_0.out)
  have WA := Lib.hid (fun w1 (h1 : Rd w1 a n c l) (h2 : Rd w1 a' n' c' l') => words_f (s := s) h1 h2 hw)
  have WB := Lib.hid (fun w1 (h1 : Rd w1 b m g r0) (h2 : Rd w1 b' m' g' r1) => words_any (s := s) h1 h2)
  have e1 : ((n' : Int) == 0) = true := by simp; exact hd1
  have e2 : ((m' : Int) == 0) = false := by simp; exact hd2
  have M_0 := Lib.hid (hN.keep KW_0.out)
  have N_0 := Lib.hid (hM.keep KW_0.out)
  have D_0 := Lib.hid (hD.keep KW_0.out)
  have E_0 := Lib.hid (hE.keep KW_0.out)
  have DA := Lib.hid (fun w1 (h : Nm w1 (.slice a' n' c') D k) => den_c (s := s) (a := a) (n := n) (c := c) h (by omega) hk1)
  have DB := Lib.hid (fun w1 (h : Nm w1 (.slice b' m' g') E k) => den_c (s := s) (a := b) (n := m) (c := g) h (by omega) hk1)
  have lN := hN.lt
  have lM := hM.lt
  have lD := dn_lt' hD.lt hk1
  have lE := dn_lt' hE.lt hk1
  have l1 := lt_mul_pow lN lE
  have l2 := lt_mul_pow lM lD
  have M1 := Lib.hid (fun w1 u (h : Nm w1 (.slice a n c) N k) (hu : Nm w1 u (dn E) k) => mul_n h hu (by omega) (by omega) (.inl hk))
  have M2 := Lib.hid (fun w1 u (h : Nm w1 (.slice b m g) M k) (hu : Nm w1 u (dn D) k) => mul_n h hu (by omega) (by omega) (.inl hk))
  have CM := Lib.hid (fun w1 u v (h : Cn w1 u (N * dn E)) (h' : Cn w1 v (M * dn D)) => cmp_n (h.nm l1) (h'.nm l2))
  rw [← iC_cmpv] at hv
  have rg2 : cmpv (N * dn E) (M * dn D) = -1 ∨ cmpv (N * dn E) (M * dn D) = 0 ∨ cmpv (N * dn E) (M * dn D) = 1 := by rw [iC_cmpv]; exact iC_range _ _
  obtain ⟨z, hz⟩ : ∃ z, cmpv (N * dn E) (M * dn D) = z := ⟨_, rfl⟩
  rw [hz] at CM hv rg2
  have m4 := (mul_range' rg rg2).trans hv.symm
  have HV := Lib.hid m4
  clear hN hD hM hE eN eD eM eE gx gx' gy gy' hv hr hx hlike rg rg2 hx0 hz m4 hd1 lN lM lD lE l1 l2 hd2
  go_enter Tryd.func54, Tryd.ntmps54
  have P_1 := Lib.hid (P_0.out.keep (keep_drew _))
  clear P_0
  have Q_1 := Lib.hid (Q_0.out.keep (keep_drew _))
  clear Q_0
  have X_1 := Lib.hid (X_0.out.keep (keep_drew _))
  clear X_0
  have X'_1 := Lib.hid (X'_0.out.keep (keep_drew _))
  clear X'_0
  have Y_1 := Lib.hid (Y_0.out.keep (keep_drew _))
  clear Y_0
  have Y'_1 := Lib.hid (Y'_0.out.keep (keep_drew _))
  clear Y'_0
  have M_1 := Lib.hid (M_0.out.keep (keep_drew _))
  clear M_0
  have N_1 := Lib.hid (N_0.out.keep (keep_drew _))
  clear N_0
  have D_1 := Lib.hid (D_0.out.keep (keep_drew _))
  clear D_0
  have E_1 := Lib.hid (E_0.out.keep (keep_drew _))
  clear E_0
  have B_1 := Lib.hid (B_0.out.keep (keep_drew _))
  clear B_0
  have C_1 := Lib.hid (C_0.out.keep (keep_drew _))
  clear C_0
  have KW_1 := Lib.hid (KW_0.out.trans (keep_drew _))
  clear KW_0
  obtain ⟨cB_1_0, cB_1_1, cB_1_2, -, -, -, -⟩ := id B_1.out
  obtain ⟨cC_1_0, cC_1_1, cC_1_2, -, -, -, -⟩ := id C_1.out
  go_wp2
  go_region_held3 (fun w' => w'.cell? ⟨w.heap.size, 0, none⟩ = some (.bool s) ∧ w'.cell? ⟨w.heap.size, 1, none⟩ = some (.slice a n c) ∧ w'.cell? ⟨w.heap.size, 2, none⟩ = some (.slice a' n' c') ∧ w'.cell? ⟨w.heap.size + 1, 0, none⟩ = some (.bool s) ∧ w'.cell? ⟨w.heap.size + 1, 1, none⟩ = some (.slice b m g) ∧ w'.cell? ⟨w.heap.size + 1, 2, none⟩ = some (.slice b' m' g')) (first | exact ⟨cB_3_0, cB_3_1, cB_3_2, cC_3_0, cC_3_1, cC_3_2⟩ | exact ⟨cB_2_0, cB_2_1, cB_2_2, cC_2_0, cC_2_1, cC_2_2⟩ | exact ⟨cB_1_0, cB_1_1, cB_1_2, cC_1_0, cC_1_1, cC_1_2⟩ | go_keep)
    (first
      | (go_at_call_of 88 (Value.agg #[Value.bool s, Value.slice b m g, Value.slice b' m' g']); ((with_reducible refine Calls.mono (SB.out _ Q_2.out) ?_); rintro e w3 ⟨rfl, k3⟩; have P_3 := Lib.hid (P_2.out.keep k3); have Q_3 := Lib.hid (Q_2.out.keep k3); have X_3 := Lib.hid (X_2.out.keep k3); have X'_3 := Lib.hid (X'_2.out.keep k3); have Y_3 := Lib.hid (Y_2.out.keep k3); have Y'_3 := Lib.hid (Y'_2.out.keep k3); have M_3 := Lib.hid (M_2.out.keep k3); have N_3 := Lib.hid (N_2.out.keep k3); have D_3 := Lib.hid (D_2.out.keep k3); have E_3 := Lib.hid (E_2.out.keep k3); have B_3 := Lib.hid (B_2.out.keep k3); have C_3 := Lib.hid (C_2.out.keep k3); have KW_3 := Lib.hid (KW_2.out.trans k3); obtain ⟨cB_3_0, cB_3_1, cB_3_2, -, -, -, -⟩ := id B_3.out; obtain ⟨cC_3_0, cC_3_1, cC_3_2, -, -, -, -⟩ := id C_3.out; clear k3))
      | (go_at_call_of 88 (Value.agg #[Value.bool s, Value.slice a n c, Value.slice a' n' c']); ((with_reducible refine Calls.mono (SA.out _ P_1.out) ?_); rintro e w2 ⟨rfl, k2⟩; have P_2 := Lib.hid (P_1.out.keep k2); have Q_2 := Lib.hid (Q_1.out.keep k2); have X_2 := Lib.hid (X_1.out.keep k2); have X'_2 := Lib.hid (X'_1.out.keep k2); have Y_2 := Lib.hid (Y_1.out.keep k2); have Y'_2 := Lib.hid (Y'_1.out.keep k2); have M_2 := Lib.hid (M_1.out.keep k2); have N_2 := Lib.hid (N_1.out.keep k2); have D_2 := Lib.hid (D_1.out.keep k2); have E_2 := Lib.hid (E_1.out.keep k2); have B_2 := Lib.hid (B_1.out.keep k2); have C_2 := Lib.hid (C_1.out.keep k2); have KW_2 := Lib.hid (KW_1.out.trans k2); obtain ⟨cB_2_0, cB_2_1, cB_2_2, -, -, -, -⟩ := id B_2.out; obtain ⟨cC_2_0, cC_2_1, cC_2_2, -, -, -, -⟩ := id C_2.out; clear k2)))
  clear cB_3_0 cB_3_1 cB_3_2 cC_3_0 cC_3_1 cC_3_2 cB_2_0 cB_2_1 cB_2_2 cC_2_0 cC_2_1 cC_2_2 cB_1_0 cB_1_1 cB_1_2 cC_1_0 cC_1_1 cC_1_2
  obtain ⟨B_c0, B_c1, B_c2, -, -, -, -⟩ := id B_3.out
  obtain ⟨C_c0, C_c1, C_c2, -, -, -, -⟩ := id C_3.out
  go_wp2_with fail
  refine Calls.mono (WA.out _ X_3.out X'_3.out) ?_
  rintro e w4 ⟨rfl, k4⟩
  clear B_c0 B_c1 B_c2 C_c0 C_c1 C_c2
  have P_4 := Lib.hid (P_3.out.keep k4)
  have Q_4 := Lib.hid (Q_3.out.keep k4)
  have X_4 := Lib.hid (X_3.out.keep k4)
  have X'_4 := Lib.hid (X'_3.out.keep k4)
  have Y_4 := Lib.hid (Y_3.out.keep k4)
  have Y'_4 := Lib.hid (Y'_3.out.keep k4)
  have M_4 := Lib.hid (M_3.out.keep k4)
  have N_4 := Lib.hid (N_3.out.keep k4)
  have D_4 := Lib.hid (D_3.out.keep k4)
  have E_4 := Lib.hid (E_3.out.keep k4)
  have B_4 := Lib.hid (B_3.out.keep k4)
  have C_4 := Lib.hid (C_3.out.keep k4)
  have KW_4 := Lib.hid (KW_3.out.trans k4)
  clear k4 P_3 Q_3 X_3 X'_3 Y_3 Y'_3 M_3 N_3 D_3 E_3 B_3 C_3 KW_3
  obtain ⟨B_c0, B_c1, B_c2, -, -, -, -⟩ := id B_4.out
  obtain ⟨C_c0, C_c1, C_c2, -, -, -, -⟩ := id C_4.out
  go_wp2_with fail
  refine Calls.mono (WB.out _ Y_4.out Y'_4.out) ?_
  rintro e w5 ⟨⟨wp, wq, wr, rfl⟩, k5⟩
  clear B_c0 B_c1 B_c2 C_c0 C_c1 C_c2
  have P_5 := Lib.hid (P_4.out.keep k5)
  have Q_5 := Lib.hid (Q_4.out.keep k5)
  have X_5 := Lib.hid (X_4.out.keep k5)
  have X'_5 := Lib.hid (X'_4.out.keep k5)
  have Y_5 := Lib.hid (Y_4.out.keep k5)
  have Y'_5 := Lib.hid (Y'_4.out.keep k5)
  have M_5 := Lib.hid (M_4.out.keep k5)
  have N_5 := Lib.hid (N_4.out.keep k5)
  have D_5 := Lib.hid (D_4.out.keep k5)
  have E_5 := Lib.hid (E_4.out.keep k5)
  have B_5 := Lib.hid (B_4.out.keep k5)
  have C_5 := Lib.hid (C_4.out.keep k5)
  have KW_5 := Lib.hid (KW_4.out.trans k5)
  clear k5 P_4 Q_4 X_4 X'_4 Y_4 Y'_4 M_4 N_4 D_4 E_4 B_4 C_4 KW_4
  obtain ⟨oB_0, oB_1, oB_2, -, -, -, -⟩ := id B_5.out
  obtain ⟨oC_0, oC_1, oC_2, -, -, -, -⟩ := id C_5.out
  have P_6 := Lib.hid (P_5.out.keep (keep_drew _))
  clear P_5
  have Q_6 := Lib.hid (Q_5.out.keep (keep_drew _))
  clear Q_5
  have X_6 := Lib.hid (X_5.out.keep (keep_drew _))
  clear X_5
  have X'_6 := Lib.hid (X'_5.out.keep (keep_drew _))
  clear X'_5
  have Y_6 := Lib.hid (Y_5.out.keep (keep_drew _))
  clear Y_5
  have Y'_6 := Lib.hid (Y'_5.out.keep (keep_drew _))
  clear Y'_5
  have M_6 := Lib.hid (M_5.out.keep (keep_drew _))
  clear M_5
  have N_6 := Lib.hid (N_5.out.keep (keep_drew _))
  clear N_5
  have D_6 := Lib.hid (D_5.out.keep (keep_drew _))
  clear D_5
  have E_6 := Lib.hid (E_5.out.keep (keep_drew _))
  clear E_5
  have B_6 := Lib.hid (B_5.out.keep (keep_drew _))
  clear B_5
  have C_6 := Lib.hid (C_5.out.keep (keep_drew _))
  clear C_5
  have KW_6 := Lib.hid (KW_5.out.trans (keep_drew _))
  clear KW_5
  obtain ⟨cB_6_0, cB_6_1, cB_6_2, -, -, -, -⟩ := id B_6.out
  obtain ⟨cC_6_0, cC_6_1, cC_6_2, -, -, -, -⟩ := id C_6.out
  go_wp2
  go_region_held3 (fun w' => w'.cell? ⟨w.heap.size, 0, none⟩ = some (.bool s) ∧ w'.cell? ⟨w.heap.size, 1, none⟩ = some (.slice a n c) ∧ w'.cell? ⟨w.heap.size, 2, none⟩ = some (.slice a' n' c') ∧ w'.cell? ⟨w.heap.size + 1, 0, none⟩ = some (.bool s) ∧ w'.cell? ⟨w.heap.size + 1, 1, none⟩ = some (.slice b m g) ∧ w'.cell? ⟨w.heap.size + 1, 2, none⟩ = some (.slice b' m' g')) (first | exact ⟨cB_11_0, cB_11_1, cB_11_2, cC_11_0, cC_11_1, cC_11_2⟩ | exact ⟨cB_10_0, cB_10_1, cB_10_2, cC_10_0, cC_10_1, cC_10_2⟩ | exact ⟨cB_9_0, cB_9_1, cB_9_2, cC_9_0, cC_9_1, cC_9_2⟩ | exact ⟨cB_8_0, cB_8_1, cB_8_2, cC_8_0, cC_8_1, cC_8_2⟩ | exact ⟨cB_7_0, cB_7_1, cB_7_2, cC_7_0, cC_7_1, cC_7_2⟩ | exact ⟨cB_6_0, cB_6_1, cB_6_2, cC_6_0, cC_6_1, cC_6_2⟩ | go_keep)
    (first
      | (go_at_call 71; ((with_reducible refine Calls.mono (CM.out _ _ _ PP_10.out QQ_10.out) ?_); rintro e w11 ⟨rfl, k11⟩; have P_11 := Lib.hid (P_10.out.keep k11); have Q_11 := Lib.hid (Q_10.out.keep k11); have X_11 := Lib.hid (X_10.out.keep k11); have X'_11 := Lib.hid (X'_10.out.keep k11); have Y_11 := Lib.hid (Y_10.out.keep k11); have Y'_11 := Lib.hid (Y'_10.out.keep k11); have M_11 := Lib.hid (M_10.out.keep k11); have N_11 := Lib.hid (N_10.out.keep k11); have D_11 := Lib.hid (D_10.out.keep k11); have E_11 := Lib.hid (E_10.out.keep k11); have B_11 := Lib.hid (B_10.out.keep k11); have C_11 := Lib.hid (C_10.out.keep k11); have V_11 := Lib.hid (V_10.out.keep k11); have PP_11 := Lib.hid (PP_10.out.keep k11); have U_11 := Lib.hid (U_10.out.keep k11); have QQ_11 := Lib.hid (QQ_10.out.keep k11); have KW_11 := Lib.hid (KW_10.out.trans k11); obtain ⟨cB_11_0, cB_11_1, cB_11_2, -, -, -, -⟩ := id B_11.out; obtain ⟨cC_11_0, cC_11_1, cC_11_2, -, -, -, -⟩ := id C_11.out; clear k11))
      | (go_at_call_of 92 (Value.slice b m g); ((with_reducible refine Calls.mono (M2.out _ _ N_9.out U_9.out) ?_); rintro e w10 ⟨vQ, rfl, hQ, k10⟩; have P_10 := Lib.hid (P_9.out.keep k10); have Q_10 := Lib.hid (Q_9.out.keep k10); have X_10 := Lib.hid (X_9.out.keep k10); have X'_10 := Lib.hid (X'_9.out.keep k10); have Y_10 := Lib.hid (Y_9.out.keep k10); have Y'_10 := Lib.hid (Y'_9.out.keep k10); have M_10 := Lib.hid (M_9.out.keep k10); have N_10 := Lib.hid (N_9.out.keep k10); have D_10 := Lib.hid (D_9.out.keep k10); have E_10 := Lib.hid (E_9.out.keep k10); have B_10 := Lib.hid (B_9.out.keep k10); have C_10 := Lib.hid (C_9.out.keep k10); have V_10 := Lib.hid (V_9.out.keep k10); have PP_10 := Lib.hid (PP_9.out.keep k10); have U_10 := Lib.hid (U_9.out.keep k10); have QQ_10 := Lib.hid hQ; clear hQ; have KW_10 := Lib.hid (KW_9.out.trans k10); obtain ⟨cB_10_0, cB_10_1, cB_10_2, -, -, -, -⟩ := id B_10.out; obtain ⟨cC_10_0, cC_10_1, cC_10_2, -, -, -, -⟩ := id C_10.out; clear k10))
      | (go_at_call_of 93 (Value.agg #[Value.bool s, Value.slice a n c, Value.slice a' n' c']); ((with_reducible refine Calls.mono (DA.out _ D_8.out) ?_); rintro e w9 ⟨vA, rfl, hu1, k9⟩; have P_9 := Lib.hid (P_8.out.keep k9); have Q_9 := Lib.hid (Q_8.out.keep k9); have X_9 := Lib.hid (X_8.out.keep k9); have X'_9 := Lib.hid (X'_8.out.keep k9); have Y_9 := Lib.hid (Y_8.out.keep k9); have Y'_9 := Lib.hid (Y'_8.out.keep k9); have M_9 := Lib.hid (M_8.out.keep k9); have N_9 := Lib.hid (N_8.out.keep k9); have D_9 := Lib.hid (D_8.out.keep k9); have E_9 := Lib.hid (E_8.out.keep k9); have B_9 := Lib.hid (B_8.out.keep k9); have C_9 := Lib.hid (C_8.out.keep k9); have V_9 := Lib.hid (V_8.out.keep k9); have PP_9 := Lib.hid (PP_8.out.keep k9); have U_9 := Lib.hid hu1; clear hu1; have KW_9 := Lib.hid (KW_8.out.trans k9); obtain ⟨cB_9_0, cB_9_1, cB_9_2, -, -, -, -⟩ := id B_9.out; obtain ⟨cC_9_0, cC_9_1, cC_9_2, -, -, -, -⟩ := id C_9.out; clear k9))
      | (go_at_call_of 92 (Value.slice a n c); ((with_reducible refine Calls.mono (M1.out _ _ M_7.out V_7.out) ?_); rintro e w8 ⟨vP, rfl, hP, k8⟩; have P_8 := Lib.hid (P_7.out.keep k8); have Q_8 := Lib.hid (Q_7.out.keep k8); have X_8 := Lib.hid (X_7.out.keep k8); have X'_8 := Lib.hid (X'_7.out.keep k8); have Y_8 := Lib.hid (Y_7.out.keep k8); have Y'_8 := Lib.hid (Y'_7.out.keep k8); have M_8 := Lib.hid (M_7.out.keep k8); have N_8 := Lib.hid (N_7.out.keep k8); have D_8 := Lib.hid (D_7.out.keep k8); have E_8 := Lib.hid (E_7.out.keep k8); have B_8 := Lib.hid (B_7.out.keep k8); have C_8 := Lib.hid (C_7.out.keep k8); have V_8 := Lib.hid (V_7.out.keep k8); have PP_8 := Lib.hid hP; clear hP; have KW_8 := Lib.hid (KW_7.out.trans k8); obtain ⟨cB_8_0, cB_8_1, cB_8_2, -, -, -, -⟩ := id B_8.out; obtain ⟨cC_8_0, cC_8_1, cC_8_2, -, -, -, -⟩ := id C_8.out; clear k8))
      | (go_at_call_of 93 (Value.agg #[Value.bool s, Value.slice b m g, Value.slice b' m' g']); ((with_reducible refine Calls.mono (DB.out _ E_6.out) ?_); rintro e w7 ⟨vB, rfl, hu2, k7⟩; have P_7 := Lib.hid (P_6.out.keep k7); have Q_7 := Lib.hid (Q_6.out.keep k7); have X_7 := Lib.hid (X_6.out.keep k7); have X'_7 := Lib.hid (X'_6.out.keep k7); have Y_7 := Lib.hid (Y_6.out.keep k7); have Y'_7 := Lib.hid (Y'_6.out.keep k7); have M_7 := Lib.hid (M_6.out.keep k7); have N_7 := Lib.hid (N_6.out.keep k7); have D_7 := Lib.hid (D_6.out.keep k7); have E_7 := Lib.hid (E_6.out.keep k7); have B_7 := Lib.hid (B_6.out.keep k7); have C_7 := Lib.hid (C_6.out.keep k7); have V_7 := Lib.hid hu2; clear hu2; have KW_7 := Lib.hid (KW_6.out.trans k7); obtain ⟨cB_7_0, cB_7_1, cB_7_2, -, -, -, -⟩ := id B_7.out; obtain ⟨cC_7_0, cC_7_1, cC_7_2, -, -, -, -⟩ := id C_7.out; clear k7)))
  clear cB_11_0 cB_11_1 cB_11_2 cC_11_0 cC_11_1 cC_11_2 cB_10_0 cB_10_1 cB_10_2 cC_10_0 cC_10_1 cC_10_2 cB_9_0 cB_9_1 cB_9_2 cC_9_0 cC_9_1 cC_9_2 cB_8_0 cB_8_1 cB_8_2 cC_8_0 cC_8_1 cC_8_2 cB_7_0 cB_7_1 cB_7_2 cC_7_0 cC_7_1 cC_7_2 cB_6_0 cB_6_1 cB_6_2 cC_6_0 cC_6_1 cC_6_2 oB_0 oB_1 oB_2 oC_0 oC_1 oC_2
  go_wp2_with fail
  go_ret
  exact ⟨ret_int HV.out, KW_11.out⟩
set_option maxHeartbeats 1000000 in
theorem cmp_c20 {w : World} {s : Bool} {a a' b b' : Option Addr} {n c n' c' m g m' g' : Nat} {l l' r0 r1 : List Nat} (gx : Rd w a n c l) (gx' : Rd w a' n' c' l') (gy : Rd w b m g r0) (gy' : Rd w b' m' g' r1) {N D M E k : Nat} (hN : Nm w (.slice a n c) N k) (hD : Nm w (.slice a' n' c') D k) (hM : Nm w (.slice b m g) M k) (hE : Nm w (.slice b' m' g') E k) (eN : nv l = N) (eD : nv l' = D) (eM : nv r0 = M) (eE : nv r1 = E) (hN0 : N ≠ 0) (hM0 : M ≠ 0) (hk : k < 48) (hk1 : 1 ≤ k) (h1 : n ≤ 1) (h2 : n' ≤ 1) (hw : ¬ (m ≤ 1 ∧ m' ≤ 1)) (hd1 : n' = 0) (hd2 : m' = 0) : Calls Tryd.prog 54 #[.agg #[.bool s, .slice a n c, .slice a' n' c'], .agg #[.bool s, .slice b m g, .slice b' m' g']] w (VPost (rC (rv s N D) (rv s M E)) w) := by
  obtain ⟨B_0, C_0, KW_0⟩ := op2n w s a n c a' n' c' s b m g b' m' g'
  have PX := Lib.hid (show Ra w (.agg #[.bool s, .slice a n c, .slice a' n' c']) (rv s N D) k from ⟨_, _, _, _, _, rfl, hN, hD, rfl⟩)
  have PY := Lib.hid (show Ra w (.agg #[.bool s, .slice b m g, .slice b' m' g']) (rv s M E) k from ⟨_, _, _, _, _, rfl, hM, hE, rfl⟩)
  have P_0 := Lib.hid (PX.out.keep KW_0.out)
  have Q_0 := Lib.hid (PY.out.keep KW_0.out)
  clear PX PY
  have SA := Lib.hid (fun w1 (h : Ra w1 (.agg #[.bool s, .slice a n c, .slice a' n' c']) (rv s N D) k) => qsign_c h (by omega))
  have SB := Lib.hid (fun w1 (h : Ra w1 (.agg #[.bool s, .slice b m g, .slice b' m' g']) (rv s M E) k) => qsign_c h (by omega))
  have hv := rC_like s (D := D) (M := M) (E := E) hN0
  have hlike : rS (rv s M E) = rS (rv s N D) := by rw [rS_n s D hN0, rS_n s E hM0]
  rw [hlike] at SB
  have rg := rS_range (rv s N D)
  have hx0 : rS (rv s N D) ≠ 0 := by rw [rS_n s D hN0]; cases s <;> decide
  obtain ⟨x, hx⟩ : ∃ x, rS (rv s N D) = x := ⟨_, rfl⟩
  rw [hx] at SA SB hv rg hx0
  obtain ⟨r, hr⟩ : ∃ r, rC (rv s N D) (rv s M E) = r := ⟨_, rfl⟩
  rw [hr] at hv ⊢
  have hx1 : (x == 0) = false := by simpa using hx0
  have X_0 := Lib.hid (gx.keep KW_0.out)
  have X'_0 := Lib.hid (gx'.keep KW_0.out)
  have Y_0 := Lib.hid (gy.keep KW_0.out)
  have Y'_0 := Lib.hid (gy'.keep KW_0.out)
  have WA := Lib.hid (fun w1 (g1 : Rd w1 a n c l) (g2 : Rd w1 a' n' c' l') => words_t (s := s) g1 g2 h1 h2)
  have WB := Lib.hid (fun w1 (h1 : Rd w1 b m g r0) (h2 : Rd w1 b' m' g' r1) => words_f (s := s) h1 h2 hw)
  have e1 : ((n' : Int) == 0) = true := by simp; exact hd1
  have e2 : ((m' : Int) == 0) = true := by simp; exact hd2
  have eD0 : D = 0 := by rw [← eD]; exact len_zero (gx'.len_eq.trans hd1)
  have eE0 : E = 0 := by rw [← eE]; exact len_zero (gy'.len_eq.trans hd2)
  rw [eD0, eE0, dn_zero, Nat.mul_one, Nat.mul_one, ← iC_cmpv] at hv
  have M_0 := Lib.hid (hN.keep KW_0.out)
  have N_0 := Lib.hid (hM.keep KW_0.out)
  have CM := Lib.hid (fun w1 (h : Nm w1 (.slice a n c) N k) (h' : Nm w1 (.slice b m g) M k) => cmp_n h h')
  have rg2 : cmpv N M = -1 ∨ cmpv N M = 0 ∨ cmpv N M = 1 := by rw [iC_cmpv]; exact iC_range _ _
  obtain ⟨z, hz⟩ : ∃ z, cmpv N M = z := ⟨_, rfl⟩
  rw [hz] at CM hv rg2
  have m4 := (mul_range rg rg2).trans hv.symm
  have HV := Lib.hid m4
  clear hN hD hM hE eN eD eM eE gx gx' gy gy' hv hr hx hlike rg rg2 hx0 hz m4 hd1 eD0 eE0 hd2
  go_enter Tryd.func54, Tryd.ntmps54
  have P_1 := Lib.hid (P_0.out.keep (keep_drew _))
  clear P_0
  have Q_1 := Lib.hid (Q_0.out.keep (keep_drew _))
  clear Q_0
  have X_1 := Lib.hid (X_0.out.keep (keep_drew _))
  clear X_0
  have X'_1 := Lib.hid (X'_0.out.keep (keep_drew _))
  clear X'_0
  have Y_1 := Lib.hid (Y_0.out.keep (keep_drew _))
  clear Y_0
  have Y'_1 := Lib.hid (Y'_0.out.keep (keep_drew _))
  clear Y'_0
  have M_1 := Lib.hid (M_0.out.keep (keep_drew _))
  clear M_0
  have N_1 := Lib.hid (N_0.out.keep (keep_drew _))
  clear N_0
  have B_1 := Lib.hid (B_0.out.keep (keep_drew _))
  clear B_0
  have C_1 := Lib.hid (C_0.out.keep (keep_drew _))
  clear C_0
  have KW_1 := Lib.hid (KW_0.out.trans (keep_drew _))
  clear KW_0
  obtain ⟨cB_1_0, cB_1_1, cB_1_2, -, -, -, -⟩ := id B_1.out
  obtain ⟨cC_1_0, cC_1_1, cC_1_2, -, -, -, -⟩ := id C_1.out
  go_wp2
  go_region_held3 (fun w' => w'.cell? ⟨w.heap.size, 0, none⟩ = some (.bool s) ∧ w'.cell? ⟨w.heap.size, 1, none⟩ = some (.slice a n c) ∧ w'.cell? ⟨w.heap.size, 2, none⟩ = some (.slice a' n' c') ∧ w'.cell? ⟨w.heap.size + 1, 0, none⟩ = some (.bool s) ∧ w'.cell? ⟨w.heap.size + 1, 1, none⟩ = some (.slice b m g) ∧ w'.cell? ⟨w.heap.size + 1, 2, none⟩ = some (.slice b' m' g')) (first | exact ⟨cB_3_0, cB_3_1, cB_3_2, cC_3_0, cC_3_1, cC_3_2⟩ | exact ⟨cB_2_0, cB_2_1, cB_2_2, cC_2_0, cC_2_1, cC_2_2⟩ | exact ⟨cB_1_0, cB_1_1, cB_1_2, cC_1_0, cC_1_1, cC_1_2⟩ | go_keep)
    (first
      | (go_at_call_of 88 (Value.agg #[Value.bool s, Value.slice b m g, Value.slice b' m' g']); ((with_reducible refine Calls.mono (SB.out _ Q_2.out) ?_); rintro e w3 ⟨rfl, k3⟩; have P_3 := Lib.hid (P_2.out.keep k3); have Q_3 := Lib.hid (Q_2.out.keep k3); have X_3 := Lib.hid (X_2.out.keep k3); have X'_3 := Lib.hid (X'_2.out.keep k3); have Y_3 := Lib.hid (Y_2.out.keep k3); have Y'_3 := Lib.hid (Y'_2.out.keep k3); have M_3 := Lib.hid (M_2.out.keep k3); have N_3 := Lib.hid (N_2.out.keep k3); have B_3 := Lib.hid (B_2.out.keep k3); have C_3 := Lib.hid (C_2.out.keep k3); have KW_3 := Lib.hid (KW_2.out.trans k3); obtain ⟨cB_3_0, cB_3_1, cB_3_2, -, -, -, -⟩ := id B_3.out; obtain ⟨cC_3_0, cC_3_1, cC_3_2, -, -, -, -⟩ := id C_3.out; clear k3))
      | (go_at_call_of 88 (Value.agg #[Value.bool s, Value.slice a n c, Value.slice a' n' c']); ((with_reducible refine Calls.mono (SA.out _ P_1.out) ?_); rintro e w2 ⟨rfl, k2⟩; have P_2 := Lib.hid (P_1.out.keep k2); have Q_2 := Lib.hid (Q_1.out.keep k2); have X_2 := Lib.hid (X_1.out.keep k2); have X'_2 := Lib.hid (X'_1.out.keep k2); have Y_2 := Lib.hid (Y_1.out.keep k2); have Y'_2 := Lib.hid (Y'_1.out.keep k2); have M_2 := Lib.hid (M_1.out.keep k2); have N_2 := Lib.hid (N_1.out.keep k2); have B_2 := Lib.hid (B_1.out.keep k2); have C_2 := Lib.hid (C_1.out.keep k2); have KW_2 := Lib.hid (KW_1.out.trans k2); obtain ⟨cB_2_0, cB_2_1, cB_2_2, -, -, -, -⟩ := id B_2.out; obtain ⟨cC_2_0, cC_2_1, cC_2_2, -, -, -, -⟩ := id C_2.out; clear k2)))
  clear cB_3_0 cB_3_1 cB_3_2 cC_3_0 cC_3_1 cC_3_2 cB_2_0 cB_2_1 cB_2_2 cC_2_0 cC_2_1 cC_2_2 cB_1_0 cB_1_1 cB_1_2 cC_1_0 cC_1_1 cC_1_2
  obtain ⟨B_c0, B_c1, B_c2, -, -, -, -⟩ := id B_3.out
  obtain ⟨C_c0, C_c1, C_c2, -, -, -, -⟩ := id C_3.out
  go_wp2_with fail
  refine Calls.mono (WA.out _ X_3.out X'_3.out) ?_
  rintro e w4 ⟨rfl, k4⟩
  clear B_c0 B_c1 B_c2 C_c0 C_c1 C_c2
  have P_4 := Lib.hid (P_3.out.keep k4)
  have Q_4 := Lib.hid (Q_3.out.keep k4)
  have X_4 := Lib.hid (X_3.out.keep k4)
  have X'_4 := Lib.hid (X'_3.out.keep k4)
  have Y_4 := Lib.hid (Y_3.out.keep k4)
  have Y'_4 := Lib.hid (Y'_3.out.keep k4)
  have M_4 := Lib.hid (M_3.out.keep k4)
  have N_4 := Lib.hid (N_3.out.keep k4)
  have B_4 := Lib.hid (B_3.out.keep k4)
  have C_4 := Lib.hid (C_3.out.keep k4)
  have KW_4 := Lib.hid (KW_3.out.trans k4)
  clear k4 P_3 Q_3 X_3 X'_3 Y_3 Y'_3 M_3 N_3 B_3 C_3 KW_3
  obtain ⟨B_c0, B_c1, B_c2, -, -, -, -⟩ := id B_4.out
  obtain ⟨C_c0, C_c1, C_c2, -, -, -, -⟩ := id C_4.out
  go_wp2_with fail
  refine Calls.mono (WB.out _ Y_4.out Y'_4.out) ?_
  rintro e w5 ⟨rfl, k5⟩
  clear B_c0 B_c1 B_c2 C_c0 C_c1 C_c2
  have P_5 := Lib.hid (P_4.out.keep k5)
  have Q_5 := Lib.hid (Q_4.out.keep k5)
  have X_5 := Lib.hid (X_4.out.keep k5)
  have X'_5 := Lib.hid (X'_4.out.keep k5)
  have Y_5 := Lib.hid (Y_4.out.keep k5)
  have Y'_5 := Lib.hid (Y'_4.out.keep k5)
  have M_5 := Lib.hid (M_4.out.keep k5)
  have N_5 := Lib.hid (N_4.out.keep k5)
  have B_5 := Lib.hid (B_4.out.keep k5)
  have C_5 := Lib.hid (C_4.out.keep k5)
  have KW_5 := Lib.hid (KW_4.out.trans k5)
  clear k5 P_4 Q_4 X_4 X'_4 Y_4 Y'_4 M_4 N_4 B_4 C_4 KW_4
  obtain ⟨B_c0, B_c1, B_c2, -, -, -, -⟩ := id B_5.out
  obtain ⟨C_c0, C_c1, C_c2, -, -, -, -⟩ := id C_5.out
  go_wp2_with fail
  refine Calls.mono (CM.out _ M_5.out N_5.out) ?_
  rintro e w9 ⟨rfl, k9⟩
  have KF := Lib.hid (KW_5.out.trans k9)
  clear k9
  go_wp2_with fail
  go_ret
  exact ⟨ret_int HV.out, KF.out⟩
set_option maxHeartbeats 1000000 in
theorem cmp_c21 {w : World} {s : Bool} {a a' b b' : Option Addr} {n c n' c' m g m' g' : Nat} {l l' r0 r1 : List Nat} (gx : Rd w a n c l) (gx' : Rd w a' n' c' l') (gy : Rd w b m g r0) (gy' : Rd w b' m' g' r1) {N D M E k : Nat} (hN : Nm w (.slice a n c) N k) (hD : Nm w (.slice a' n' c') D k) (hM : Nm w (.slice b m g) M k) (hE : Nm w (.slice b' m' g') E k) (eN : nv l = N) (eD : nv l' = D) (eM : nv r0 = M) (eE : nv r1 = E) (hN0 : N ≠ 0) (hM0 : M ≠ 0) (hk : k < 48) (hk1 : 1 ≤ k) (h1 : n ≤ 1) (h2 : n' ≤ 1) (hw : ¬ (m ≤ 1 ∧ m' ≤ 1)) (hd1 : n' ≠ 0) : Calls Tryd.prog 54 #[.agg #[.bool s, .slice a n c, .slice a' n' c'], .agg #[.bool s, .slice b m g, .slice b' m' g']] w (VPost (rC (rv s N D) (rv s M E)) w) := by
  obtain ⟨B_0, C_0, KW_0⟩ := op2n w s a n c a' n' c' s b m g b' m' g'
  have PX := Lib.hid (show Ra w (.agg #[.bool s, .slice a n c, .slice a' n' c']) (rv s N D) k from ⟨_, _, _, _, _, rfl, hN, hD, rfl⟩)
  have PY := Lib.hid (show Ra w (.agg #[.bool s, .slice b m g, .slice b' m' g']) (rv s M E) k from ⟨_, _, _, _, _, rfl, hM, hE, rfl⟩)
  have P_0 := Lib.hid (PX.out.keep KW_0.out)
  have Q_0 := Lib.hid (PY.out.keep KW_0.out)
  clear PX PY
  have SA := Lib.hid (fun w1 (h : Ra w1 (.agg #[.bool s, .slice a n c, .slice a' n' c']) (rv s N D) k) => qsign_c h (by omega))
  have SB := Lib.hid (fun w1 (h : Ra w1 (.agg #[.bool s, .slice b m g, .slice b' m' g']) (rv s M E) k) => qsign_c h (by omega))
  have hv := rC_like s (D := D) (M := M) (E := E) hN0
  have hlike : rS (rv s M E) = rS (rv s N D) := by rw [rS_n s D hN0, rS_n s E hM0]
  rw [hlike] at SB
  have rg := rS_range (rv s N D)
  have hx0 : rS (rv s N D) ≠ 0 := by rw [rS_n s D hN0]; cases s <;> decide
  obtain ⟨x, hx⟩ : ∃ x, rS (rv s N D) = x := ⟨_, rfl⟩
  rw [hx] at SA SB hv rg hx0
  obtain ⟨r, hr⟩ : ∃ r, rC (rv s N D) (rv s M E) = r := ⟨_, rfl⟩
  rw [hr] at hv ⊢
  have hx1 : (x == 0) = false := by simpa using hx0
  have X_0 := Lib.hid (gx.keep KW_0.out)
  have X'_0 := Lib.hid (gx'.keep KW_0.out)
  have Y_0 := Lib.hid (gy.keep KW_0.out)
  have Y'_0 := Lib.hid (gy'.keep KW_0.out)
  have WA := Lib.hid (fun w1 (g1 : Rd w1 a n c l) (g2 : Rd w1 a' n' c' l') => words_t (s := s) g1 g2 h1 h2)
  have WB := Lib.hid (fun w1 (h1 : Rd w1 b m g r0) (h2 : Rd w1 b' m' g' r1) => words_f (s := s) h1 h2 hw)
  have e1 : ((n' : Int) == 0) = false := by simp; exact hd1
  have M_0 := Lib.hid (hN.keep KW_0.out)
  have N_0 := Lib.hid (hM.keep KW_0.out)
  have D_0 := Lib.hid (hD.keep KW_0.out)
  have E_0 := Lib.hid (hE.keep KW_0.out)
  have DA := Lib.hid (fun w1 (h : Nm w1 (.slice a' n' c') D k) => den_c (s := s) (a := a) (n := n) (c := c) h (by omega) hk1)
  have DB := Lib.hid (fun w1 (h : Nm w1 (.slice b' m' g') E k) => den_c (s := s) (a := b) (n := m) (c := g) h (by omega) hk1)
  have lN := hN.lt
  have lM := hM.lt
  have lD := dn_lt' hD.lt hk1
  have lE := dn_lt' hE.lt hk1
  have l1 := lt_mul_pow lN lE
  have l2 := lt_mul_pow lM lD
  have M1 := Lib.hid (fun w1 u (h : Nm w1 (.slice a n c) N k) (hu : Nm w1 u (dn E) k) => mul_n h hu (by omega) (by omega) (.inl hk))
  have M2 := Lib.hid (fun w1 u (h : Nm w1 (.slice b m g) M k) (hu : Nm w1 u (dn D) k) => mul_n h hu (by omega) (by omega) (.inl hk))
  have CM := Lib.hid (fun w1 u v (h : Cn w1 u (N * dn E)) (h' : Cn w1 v (M * dn D)) => cmp_n (h.nm l1) (h'.nm l2))
  rw [← iC_cmpv] at hv
  have rg2 : cmpv (N * dn E) (M * dn D) = -1 ∨ cmpv (N * dn E) (M * dn D) = 0 ∨ cmpv (N * dn E) (M * dn D) = 1 := by rw [iC_cmpv]; exact iC_range _ _
  obtain ⟨z, hz⟩ : ∃ z, cmpv (N * dn E) (M * dn D) = z := ⟨_, rfl⟩
  rw [hz] at CM hv rg2
  have m4 := (mul_range' rg rg2).trans hv.symm
  have HV := Lib.hid m4
  clear hN hD hM hE eN eD eM eE gx gx' gy gy' hv hr hx hlike rg rg2 hx0 hz m4 hd1 lN lM lD lE l1 l2 
  go_enter Tryd.func54, Tryd.ntmps54
  have P_1 := Lib.hid (P_0.out.keep (keep_drew _))
  clear P_0
  have Q_1 := Lib.hid (Q_0.out.keep (keep_drew _))
  clear Q_0
  have X_1 := Lib.hid (X_0.out.keep (keep_drew _))
  clear X_0
  have X'_1 := Lib.hid (X'_0.out.keep (keep_drew _))
  clear X'_0
  have Y_1 := Lib.hid (Y_0.out.keep (keep_drew _))
  clear Y_0
  have Y'_1 := Lib.hid (Y'_0.out.keep (keep_drew _))
  clear Y'_0
  have M_1 := Lib.hid (M_0.out.keep (keep_drew _))
  clear M_0
  have N_1 := Lib.hid (N_0.out.keep (keep_drew _))
  clear N_0
  have D_1 := Lib.hid (D_0.out.keep (keep_drew _))
  clear D_0
  have E_1 := Lib.hid (E_0.out.keep (keep_drew _))
  clear E_0
  have B_1 := Lib.hid (B_0.out.keep (keep_drew _))
  clear B_0
  have C_1 := Lib.hid (C_0.out.keep (keep_drew _))
  clear C_0
  have KW_1 := Lib.hid (KW_0.out.trans (keep_drew _))
  clear KW_0
  obtain ⟨cB_1_0, cB_1_1, cB_1_2, -, -, -, -⟩ := id B_1.out
  obtain ⟨cC_1_0, cC_1_1, cC_1_2, -, -, -, -⟩ := id C_1.out
  go_wp2
  go_region_held3 (fun w' => w'.cell? ⟨w.heap.size, 0, none⟩ = some (.bool s) ∧ w'.cell? ⟨w.heap.size, 1, none⟩ = some (.slice a n c) ∧ w'.cell? ⟨w.heap.size, 2, none⟩ = some (.slice a' n' c') ∧ w'.cell? ⟨w.heap.size + 1, 0, none⟩ = some (.bool s) ∧ w'.cell? ⟨w.heap.size + 1, 1, none⟩ = some (.slice b m g) ∧ w'.cell? ⟨w.heap.size + 1, 2, none⟩ = some (.slice b' m' g')) (first | exact ⟨cB_3_0, cB_3_1, cB_3_2, cC_3_0, cC_3_1, cC_3_2⟩ | exact ⟨cB_2_0, cB_2_1, cB_2_2, cC_2_0, cC_2_1, cC_2_2⟩ | exact ⟨cB_1_0, cB_1_1, cB_1_2, cC_1_0, cC_1_1, cC_1_2⟩ | go_keep)
    (first
      | (go_at_call_of 88 (Value.agg #[Value.bool s, Value.slice b m g, Value.slice b' m' g']); ((with_reducible refine Calls.mono (SB.out _ Q_2.out) ?_); rintro e w3 ⟨rfl, k3⟩; have P_3 := Lib.hid (P_2.out.keep k3); have Q_3 := Lib.hid (Q_2.out.keep k3); have X_3 := Lib.hid (X_2.out.keep k3); have X'_3 := Lib.hid (X'_2.out.keep k3); have Y_3 := Lib.hid (Y_2.out.keep k3); have Y'_3 := Lib.hid (Y'_2.out.keep k3); have M_3 := Lib.hid (M_2.out.keep k3); have N_3 := Lib.hid (N_2.out.keep k3); have D_3 := Lib.hid (D_2.out.keep k3); have E_3 := Lib.hid (E_2.out.keep k3); have B_3 := Lib.hid (B_2.out.keep k3); have C_3 := Lib.hid (C_2.out.keep k3); have KW_3 := Lib.hid (KW_2.out.trans k3); obtain ⟨cB_3_0, cB_3_1, cB_3_2, -, -, -, -⟩ := id B_3.out; obtain ⟨cC_3_0, cC_3_1, cC_3_2, -, -, -, -⟩ := id C_3.out; clear k3))
      | (go_at_call_of 88 (Value.agg #[Value.bool s, Value.slice a n c, Value.slice a' n' c']); ((with_reducible refine Calls.mono (SA.out _ P_1.out) ?_); rintro e w2 ⟨rfl, k2⟩; have P_2 := Lib.hid (P_1.out.keep k2); have Q_2 := Lib.hid (Q_1.out.keep k2); have X_2 := Lib.hid (X_1.out.keep k2); have X'_2 := Lib.hid (X'_1.out.keep k2); have Y_2 := Lib.hid (Y_1.out.keep k2); have Y'_2 := Lib.hid (Y'_1.out.keep k2); have M_2 := Lib.hid (M_1.out.keep k2); have N_2 := Lib.hid (N_1.out.keep k2); have D_2 := Lib.hid (D_1.out.keep k2); have E_2 := Lib.hid (E_1.out.keep k2); have B_2 := Lib.hid (B_1.out.keep k2); have C_2 := Lib.hid (C_1.out.keep k2); have KW_2 := Lib.hid (KW_1.out.trans k2); obtain ⟨cB_2_0, cB_2_1, cB_2_2, -, -, -, -⟩ := id B_2.out; obtain ⟨cC_2_0, cC_2_1, cC_2_2, -, -, -, -⟩ := id C_2.out; clear k2)))
  clear cB_3_0 cB_3_1 cB_3_2 cC_3_0 cC_3_1 cC_3_2 cB_2_0 cB_2_1 cB_2_2 cC_2_0 cC_2_1 cC_2_2 cB_1_0 cB_1_1 cB_1_2 cC_1_0 cC_1_1 cC_1_2
  obtain ⟨B_c0, B_c1, B_c2, -, -, -, -⟩ := id B_3.out
  obtain ⟨C_c0, C_c1, C_c2, -, -, -, -⟩ := id C_3.out
  go_wp2_with fail
  refine Calls.mono (WA.out _ X_3.out X'_3.out) ?_
  rintro e w4 ⟨rfl, k4⟩
  clear B_c0 B_c1 B_c2 C_c0 C_c1 C_c2
  have P_4 := Lib.hid (P_3.out.keep k4)
  have Q_4 := Lib.hid (Q_3.out.keep k4)
  have X_4 := Lib.hid (X_3.out.keep k4)
  have X'_4 := Lib.hid (X'_3.out.keep k4)
  have Y_4 := Lib.hid (Y_3.out.keep k4)
  have Y'_4 := Lib.hid (Y'_3.out.keep k4)
  have M_4 := Lib.hid (M_3.out.keep k4)
  have N_4 := Lib.hid (N_3.out.keep k4)
  have D_4 := Lib.hid (D_3.out.keep k4)
  have E_4 := Lib.hid (E_3.out.keep k4)
  have B_4 := Lib.hid (B_3.out.keep k4)
  have C_4 := Lib.hid (C_3.out.keep k4)
  have KW_4 := Lib.hid (KW_3.out.trans k4)
  clear k4 P_3 Q_3 X_3 X'_3 Y_3 Y'_3 M_3 N_3 D_3 E_3 B_3 C_3 KW_3
  obtain ⟨B_c0, B_c1, B_c2, -, -, -, -⟩ := id B_4.out
  obtain ⟨C_c0, C_c1, C_c2, -, -, -, -⟩ := id C_4.out
  go_wp2_with fail
  refine Calls.mono (WB.out _ Y_4.out Y'_4.out) ?_
  rintro e w5 ⟨rfl, k5⟩
  clear B_c0 B_c1 B_c2 C_c0 C_c1 C_c2
  have P_5 := Lib.hid (P_4.out.keep k5)
  have Q_5 := Lib.hid (Q_4.out.keep k5)
  have X_5 := Lib.hid (X_4.out.keep k5)
  have X'_5 := Lib.hid (X'_4.out.keep k5)
  have Y_5 := Lib.hid (Y_4.out.keep k5)
  have Y'_5 := Lib.hid (Y'_4.out.keep k5)
  have M_5 := Lib.hid (M_4.out.keep k5)
  have N_5 := Lib.hid (N_4.out.keep k5)
  have D_5 := Lib.hid (D_4.out.keep k5)
  have E_5 := Lib.hid (E_4.out.keep k5)
  have B_5 := Lib.hid (B_4.out.keep k5)
  have C_5 := Lib.hid (C_4.out.keep k5)
  have KW_5 := Lib.hid (KW_4.out.trans k5)
  clear k5 P_4 Q_4 X_4 X'_4 Y_4 Y'_4 M_4 N_4 D_4 E_4 B_4 C_4 KW_4
  obtain ⟨oB_0, oB_1, oB_2, -, -, -, -⟩ := id B_5.out
  obtain ⟨oC_0, oC_1, oC_2, -, -, -, -⟩ := id C_5.out
  have P_6 := Lib.hid (P_5.out.keep (keep_drew _))
  clear P_5
  have Q_6 := Lib.hid (Q_5.out.keep (keep_drew _))
  clear Q_5
  have X_6 := Lib.hid (X_5.out.keep (keep_drew _))
  clear X_5
  have X'_6 := Lib.hid (X'_5.out.keep (keep_drew _))
  clear X'_5
  have Y_6 := Lib.hid (Y_5.out.keep (keep_drew _))
  clear Y_5
  have Y'_6 := Lib.hid (Y'_5.out.keep (keep_drew _))
  clear Y'_5
  have M_6 := Lib.hid (M_5.out.keep (keep_drew _))
  clear M_5
  have N_6 := Lib.hid (N_5.out.keep (keep_drew _))
  clear N_5
  have D_6 := Lib.hid (D_5.out.keep (keep_drew _))
  clear D_5
  have E_6 := Lib.hid (E_5.out.keep (keep_drew _))
  clear E_5
  have B_6 := Lib.hid (B_5.out.keep (keep_drew _))
  clear B_5
  have C_6 := Lib.hid (C_5.out.keep (keep_drew _))
  clear C_5
  have KW_6 := Lib.hid (KW_5.out.trans (keep_drew _))
  clear KW_5
  obtain ⟨cB_6_0, cB_6_1, cB_6_2, -, -, -, -⟩ := id B_6.out
  obtain ⟨cC_6_0, cC_6_1, cC_6_2, -, -, -, -⟩ := id C_6.out
  go_wp2
  go_region_held3 (fun w' => w'.cell? ⟨w.heap.size, 0, none⟩ = some (.bool s) ∧ w'.cell? ⟨w.heap.size, 1, none⟩ = some (.slice a n c) ∧ w'.cell? ⟨w.heap.size, 2, none⟩ = some (.slice a' n' c') ∧ w'.cell? ⟨w.heap.size + 1, 0, none⟩ = some (.bool s) ∧ w'.cell? ⟨w.heap.size + 1, 1, none⟩ = some (.slice b m g) ∧ w'.cell? ⟨w.heap.size + 1, 2, none⟩ = some (.slice b' m' g')) (first | exact ⟨cB_11_0, cB_11_1, cB_11_2, cC_11_0, cC_11_1, cC_11_2⟩ | exact ⟨cB_10_0, cB_10_1, cB_10_2, cC_10_0, cC_10_1, cC_10_2⟩ | exact ⟨cB_9_0, cB_9_1, cB_9_2, cC_9_0, cC_9_1, cC_9_2⟩ | exact ⟨cB_8_0, cB_8_1, cB_8_2, cC_8_0, cC_8_1, cC_8_2⟩ | exact ⟨cB_7_0, cB_7_1, cB_7_2, cC_7_0, cC_7_1, cC_7_2⟩ | exact ⟨cB_6_0, cB_6_1, cB_6_2, cC_6_0, cC_6_1, cC_6_2⟩ | go_keep)
    (first
      | (go_at_call 71; ((with_reducible refine Calls.mono (CM.out _ _ _ PP_10.out QQ_10.out) ?_); rintro e w11 ⟨rfl, k11⟩; have P_11 := Lib.hid (P_10.out.keep k11); have Q_11 := Lib.hid (Q_10.out.keep k11); have X_11 := Lib.hid (X_10.out.keep k11); have X'_11 := Lib.hid (X'_10.out.keep k11); have Y_11 := Lib.hid (Y_10.out.keep k11); have Y'_11 := Lib.hid (Y'_10.out.keep k11); have M_11 := Lib.hid (M_10.out.keep k11); have N_11 := Lib.hid (N_10.out.keep k11); have D_11 := Lib.hid (D_10.out.keep k11); have E_11 := Lib.hid (E_10.out.keep k11); have B_11 := Lib.hid (B_10.out.keep k11); have C_11 := Lib.hid (C_10.out.keep k11); have V_11 := Lib.hid (V_10.out.keep k11); have PP_11 := Lib.hid (PP_10.out.keep k11); have U_11 := Lib.hid (U_10.out.keep k11); have QQ_11 := Lib.hid (QQ_10.out.keep k11); have KW_11 := Lib.hid (KW_10.out.trans k11); obtain ⟨cB_11_0, cB_11_1, cB_11_2, -, -, -, -⟩ := id B_11.out; obtain ⟨cC_11_0, cC_11_1, cC_11_2, -, -, -, -⟩ := id C_11.out; clear k11))
      | (go_at_call_of 92 (Value.slice b m g); ((with_reducible refine Calls.mono (M2.out _ _ N_9.out U_9.out) ?_); rintro e w10 ⟨vQ, rfl, hQ, k10⟩; have P_10 := Lib.hid (P_9.out.keep k10); have Q_10 := Lib.hid (Q_9.out.keep k10); have X_10 := Lib.hid (X_9.out.keep k10); have X'_10 := Lib.hid (X'_9.out.keep k10); have Y_10 := Lib.hid (Y_9.out.keep k10); have Y'_10 := Lib.hid (Y'_9.out.keep k10); have M_10 := Lib.hid (M_9.out.keep k10); have N_10 := Lib.hid (N_9.out.keep k10); have D_10 := Lib.hid (D_9.out.keep k10); have E_10 := Lib.hid (E_9.out.keep k10); have B_10 := Lib.hid (B_9.out.keep k10); have C_10 := Lib.hid (C_9.out.keep k10); have V_10 := Lib.hid (V_9.out.keep k10); have PP_10 := Lib.hid (PP_9.out.keep k10); have U_10 := Lib.hid (U_9.out.keep k10); have QQ_10 := Lib.hid hQ; clear hQ; have KW_10 := Lib.hid (KW_9.out.trans k10); obtain ⟨cB_10_0, cB_10_1, cB_10_2, -, -, -, -⟩ := id B_10.out; obtain ⟨cC_10_0, cC_10_1, cC_10_2, -, -, -, -⟩ := id C_10.out; clear k10))
      | (go_at_call_of 93 (Value.agg #[Value.bool s, Value.slice a n c, Value.slice a' n' c']); ((with_reducible refine Calls.mono (DA.out _ D_8.out) ?_); rintro e w9 ⟨vA, rfl, hu1, k9⟩; have P_9 := Lib.hid (P_8.out.keep k9); have Q_9 := Lib.hid (Q_8.out.keep k9); have X_9 := Lib.hid (X_8.out.keep k9); have X'_9 := Lib.hid (X'_8.out.keep k9); have Y_9 := Lib.hid (Y_8.out.keep k9); have Y'_9 := Lib.hid (Y'_8.out.keep k9); have M_9 := Lib.hid (M_8.out.keep k9); have N_9 := Lib.hid (N_8.out.keep k9); have D_9 := Lib.hid (D_8.out.keep k9); have E_9 := Lib.hid (E_8.out.keep k9); have B_9 := Lib.hid (B_8.out.keep k9); have C_9 := Lib.hid (C_8.out.keep k9); have V_9 := Lib.hid (V_8.out.keep k9); have PP_9 := Lib.hid (PP_8.out.keep k9); have U_9 := Lib.hid hu1; clear hu1; have KW_9 := Lib.hid (KW_8.out.trans k9); obtain ⟨cB_9_0, cB_9_1, cB_9_2, -, -, -, -⟩ := id B_9.out; obtain ⟨cC_9_0, cC_9_1, cC_9_2, -, -, -, -⟩ := id C_9.out; clear k9))
      | (go_at_call_of 92 (Value.slice a n c); ((with_reducible refine Calls.mono (M1.out _ _ M_7.out V_7.out) ?_); rintro e w8 ⟨vP, rfl, hP, k8⟩; have P_8 := Lib.hid (P_7.out.keep k8); have Q_8 := Lib.hid (Q_7.out.keep k8); have X_8 := Lib.hid (X_7.out.keep k8); have X'_8 := Lib.hid (X'_7.out.keep k8); have Y_8 := Lib.hid (Y_7.out.keep k8); have Y'_8 := Lib.hid (Y'_7.out.keep k8); have M_8 := Lib.hid (M_7.out.keep k8); have N_8 := Lib.hid (N_7.out.keep k8); have D_8 := Lib.hid (D_7.out.keep k8); have E_8 := Lib.hid (E_7.out.keep k8); have B_8 := Lib.hid (B_7.out.keep k8); have C_8 := Lib.hid (C_7.out.keep k8); have V_8 := Lib.hid (V_7.out.keep k8); have PP_8 := Lib.hid hP; clear hP; have KW_8 := Lib.hid (KW_7.out.trans k8); obtain ⟨cB_8_0, cB_8_1, cB_8_2, -, -, -, -⟩ := id B_8.out; obtain ⟨cC_8_0, cC_8_1, cC_8_2, -, -, -, -⟩ := id C_8.out; clear k8))
      | (go_at_call_of 93 (Value.agg #[Value.bool s, Value.slice b m g, Value.slice b' m' g']); ((with_reducible refine Calls.mono (DB.out _ E_6.out) ?_); rintro e w7 ⟨vB, rfl, hu2, k7⟩; have P_7 := Lib.hid (P_6.out.keep k7); have Q_7 := Lib.hid (Q_6.out.keep k7); have X_7 := Lib.hid (X_6.out.keep k7); have X'_7 := Lib.hid (X'_6.out.keep k7); have Y_7 := Lib.hid (Y_6.out.keep k7); have Y'_7 := Lib.hid (Y'_6.out.keep k7); have M_7 := Lib.hid (M_6.out.keep k7); have N_7 := Lib.hid (N_6.out.keep k7); have D_7 := Lib.hid (D_6.out.keep k7); have E_7 := Lib.hid (E_6.out.keep k7); have B_7 := Lib.hid (B_6.out.keep k7); have C_7 := Lib.hid (C_6.out.keep k7); have V_7 := Lib.hid hu2; clear hu2; have KW_7 := Lib.hid (KW_6.out.trans k7); obtain ⟨cB_7_0, cB_7_1, cB_7_2, -, -, -, -⟩ := id B_7.out; obtain ⟨cC_7_0, cC_7_1, cC_7_2, -, -, -, -⟩ := id C_7.out; clear k7)))
  clear cB_11_0 cB_11_1 cB_11_2 cC_11_0 cC_11_1 cC_11_2 cB_10_0 cB_10_1 cB_10_2 cC_10_0 cC_10_1 cC_10_2 cB_9_0 cB_9_1 cB_9_2 cC_9_0 cC_9_1 cC_9_2 cB_8_0 cB_8_1 cB_8_2 cC_8_0 cC_8_1 cC_8_2 cB_7_0 cB_7_1 cB_7_2 cC_7_0 cC_7_1 cC_7_2 cB_6_0 cB_6_1 cB_6_2 cC_6_0 cC_6_1 cC_6_2 oB_0 oB_1 oB_2 oC_0 oC_1 oC_2
  go_wp2_with fail
  go_ret
  exact ⟨ret_int HV.out, KW_11.out⟩
set_option maxHeartbeats 1000000 in
theorem cmp_c22 {w : World} {s : Bool} {a a' b b' : Option Addr} {n c n' c' m g m' g' : Nat} {l l' r0 r1 : List Nat} (gx : Rd w a n c l) (gx' : Rd w a' n' c' l') (gy : Rd w b m g r0) (gy' : Rd w b' m' g' r1) {N D M E k : Nat} (hN : Nm w (.slice a n c) N k) (hD : Nm w (.slice a' n' c') D k) (hM : Nm w (.slice b m g) M k) (hE : Nm w (.slice b' m' g') E k) (eN : nv l = N) (eD : nv l' = D) (eM : nv r0 = M) (eE : nv r1 = E) (hN0 : N ≠ 0) (hM0 : M ≠ 0) (hk : k < 48) (hk1 : 1 ≤ k) (h1 : n ≤ 1) (h2 : n' ≤ 1) (hw : ¬ (m ≤ 1 ∧ m' ≤ 1)) (hd1 : n' = 0) (hd2 : m' ≠ 0) : Calls Tryd.prog 54 #[.agg #[.bool s, .slice a n c, .slice a' n' c'], .agg #[.bool s, .slice b m g, .slice b' m' g']] w (VPost (rC (rv s N D) (rv s M E)) w) := by
  obtain ⟨B_0, C_0, KW_0⟩ := op2n w s a n c a' n' c' s b m g b' m' g'
  have PX := Lib.hid (show Ra w (.agg #[.bool s, .slice a n c, .slice a' n' c']) (rv s N D) k from ⟨_, _, _, _, _, rfl, hN, hD, rfl⟩)
  have PY := Lib.hid (show Ra w (.agg #[.bool s, .slice b m g, .slice b' m' g']) (rv s M E) k from ⟨_, _, _, _, _, rfl, hM, hE, rfl⟩)
  have P_0 := Lib.hid (PX.out.keep KW_0.out)
  have Q_0 := Lib.hid (PY.out.keep KW_0.out)
  clear PX PY
  have SA := Lib.hid (fun w1 (h : Ra w1 (.agg #[.bool s, .slice a n c, .slice a' n' c']) (rv s N D) k) => qsign_c h (by omega))
  have SB := Lib.hid (fun w1 (h : Ra w1 (.agg #[.bool s, .slice b m g, .slice b' m' g']) (rv s M E) k) => qsign_c h (by omega))
  have hv := rC_like s (D := D) (M := M) (E := E) hN0
  have hlike : rS (rv s M E) = rS (rv s N D) := by rw [rS_n s D hN0, rS_n s E hM0]
  rw [hlike] at SB
  have rg := rS_range (rv s N D)
  have hx0 : rS (rv s N D) ≠ 0 := by rw [rS_n s D hN0]; cases s <;> decide
  obtain ⟨x, hx⟩ : ∃ x, rS (rv s N D) = x := ⟨_, rfl⟩
  rw [hx] at SA SB hv rg hx0
  obtain ⟨r, hr⟩ : ∃ r, rC (rv s N D) (rv s M E) = r := ⟨_, rfl⟩
  rw [hr] at hv ⊢
  have hx1 : (x == 0) = false := by simpa using hx0
  have X_0 := Lib.hid (gx.keep KW_0.out)
  have X'_0 := Lib.hid (gx'.keep KW_0.out)
  have Y_0 := Lib.hid (gy.keep KW_0.out)
  have Y'_0 := Lib.hid (gy'.keep KW_0.out)
  have WA := Lib.hid (fun w1 (g1 : Rd w1 a n c l) (g2 : Rd w1 a' n' c' l') => words_t (s := s) g1 g2 h1 h2)
  have WB := Lib.hid (fun w1 (h1 : Rd w1 b m g r0) (h2 : Rd w1 b' m' g' r1) => words_f (s := s) h1 h2 hw)
  have e1 : ((n' : Int) == 0) = true := by simp; exact hd1
  have e2 : ((m' : Int) == 0) = false := by simp; exact hd2
  have M_0 := Lib.hid (hN.keep KW_0.out)
  have N_0 := Lib.hid (hM.keep KW_0.out)
  have D_0 := Lib.hid (hD.keep KW_0.out)
  have E_0 := Lib.hid (hE.keep KW_0.out)
  have DA := Lib.hid (fun w1 (h : Nm w1 (.slice a' n' c') D k) => den_c (s := s) (a := a) (n := n) (c := c) h (by omega) hk1)
  have DB := Lib.hid (fun w1 (h : Nm w1 (.slice b' m' g') E k) => den_c (s := s) (a := b) (n := m) (c := g) h (by omega) hk1)
  have lN := hN.lt
  have lM := hM.lt
  have lD := dn_lt' hD.lt hk1
  have lE := dn_lt' hE.lt hk1
  have l1 := lt_mul_pow lN lE
  have l2 := lt_mul_pow lM lD
  have M1 := Lib.hid (fun w1 u (h : Nm w1 (.slice a n c) N k) (hu : Nm w1 u (dn E) k) => mul_n h hu (by omega) (by omega) (.inl hk))
  have M2 := Lib.hid (fun w1 u (h : Nm w1 (.slice b m g) M k) (hu : Nm w1 u (dn D) k) => mul_n h hu (by omega) (by omega) (.inl hk))
  have CM := Lib.hid (fun w1 u v (h : Cn w1 u (N * dn E)) (h' : Cn w1 v (M * dn D)) => cmp_n (h.nm l1) (h'.nm l2))
  rw [← iC_cmpv] at hv
  have rg2 : cmpv (N * dn E) (M * dn D) = -1 ∨ cmpv (N * dn E) (M * dn D) = 0 ∨ cmpv (N * dn E) (M * dn D) = 1 := by rw [iC_cmpv]; exact iC_range _ _
  obtain ⟨z, hz⟩ : ∃ z, cmpv (N * dn E) (M * dn D) = z := ⟨_, rfl⟩
  rw [hz] at CM hv rg2
  have m4 := (mul_range' rg rg2).trans hv.symm
  have HV := Lib.hid m4
  clear hN hD hM hE eN eD eM eE gx gx' gy gy' hv hr hx hlike rg rg2 hx0 hz m4 hd1 lN lM lD lE l1 l2 hd2
  go_enter Tryd.func54, Tryd.ntmps54
  have P_1 := Lib.hid (P_0.out.keep (keep_drew _))
  clear P_0
  have Q_1 := Lib.hid (Q_0.out.keep (keep_drew _))
  clear Q_0
  have X_1 := Lib.hid (X_0.out.keep (keep_drew _))
  clear X_0
  have X'_1 := Lib.hid (X'_0.out.keep (keep_drew _))
  clear X'_0
  have Y_1 := Lib.hid (Y_0.out.keep (keep_drew _))
  clear Y_0
  have Y'_1 := Lib.hid (Y'_0.out.keep (keep_drew _))
  clear Y'_0
  have M_1 := Lib.hid (M_0.out.keep (keep_drew _))
  clear M_0
  have N_1 := Lib.hid (N_0.out.keep (keep_drew _))
  clear N_0
  have D_1 := Lib.hid (D_0.out.keep (keep_drew _))
  clear D_0
  have E_1 := Lib.hid (E_0.out.keep (keep_drew _))
  clear E_0
  have B_1 := Lib.hid (B_0.out.keep (keep_drew _))
  clear B_0
  have C_1 := Lib.hid (C_0.out.keep (keep_drew _))
  clear C_0
  have KW_1 := Lib.hid (KW_0.out.trans (keep_drew _))
  clear KW_0
  obtain ⟨cB_1_0, cB_1_1, cB_1_2, -, -, -, -⟩ := id B_1.out
  obtain ⟨cC_1_0, cC_1_1, cC_1_2, -, -, -, -⟩ := id C_1.out
  go_wp2
  go_region_held3 (fun w' => w'.cell? ⟨w.heap.size, 0, none⟩ = some (.bool s) ∧ w'.cell? ⟨w.heap.size, 1, none⟩ = some (.slice a n c) ∧ w'.cell? ⟨w.heap.size, 2, none⟩ = some (.slice a' n' c') ∧ w'.cell? ⟨w.heap.size + 1, 0, none⟩ = some (.bool s) ∧ w'.cell? ⟨w.heap.size + 1, 1, none⟩ = some (.slice b m g) ∧ w'.cell? ⟨w.heap.size + 1, 2, none⟩ = some (.slice b' m' g')) (first | exact ⟨cB_3_0, cB_3_1, cB_3_2, cC_3_0, cC_3_1, cC_3_2⟩ | exact ⟨cB_2_0, cB_2_1, cB_2_2, cC_2_0, cC_2_1, cC_2_2⟩ | exact ⟨cB_1_0, cB_1_1, cB_1_2, cC_1_0, cC_1_1, cC_1_2⟩ | go_keep)
    (first
      | (go_at_call_of 88 (Value.agg #[Value.bool s, Value.slice b m g, Value.slice b' m' g']); ((with_reducible refine Calls.mono (SB.out _ Q_2.out) ?_); rintro e w3 ⟨rfl, k3⟩; have P_3 := Lib.hid (P_2.out.keep k3); have Q_3 := Lib.hid (Q_2.out.keep k3); have X_3 := Lib.hid (X_2.out.keep k3); have X'_3 := Lib.hid (X'_2.out.keep k3); have Y_3 := Lib.hid (Y_2.out.keep k3); have Y'_3 := Lib.hid (Y'_2.out.keep k3); have M_3 := Lib.hid (M_2.out.keep k3); have N_3 := Lib.hid (N_2.out.keep k3); have D_3 := Lib.hid (D_2.out.keep k3); have E_3 := Lib.hid (E_2.out.keep k3); have B_3 := Lib.hid (B_2.out.keep k3); have C_3 := Lib.hid (C_2.out.keep k3); have KW_3 := Lib.hid (KW_2.out.trans k3); obtain ⟨cB_3_0, cB_3_1, cB_3_2, -, -, -, -⟩ := id B_3.out; obtain ⟨cC_3_0, cC_3_1, cC_3_2, -, -, -, -⟩ := id C_3.out; clear k3))
      | (go_at_call_of 88 (Value.agg #[Value.bool s, Value.slice a n c, Value.slice a' n' c']); ((with_reducible refine Calls.mono (SA.out _ P_1.out) ?_); rintro e w2 ⟨rfl, k2⟩; have P_2 := Lib.hid (P_1.out.keep k2); have Q_2 := Lib.hid (Q_1.out.keep k2); have X_2 := Lib.hid (X_1.out.keep k2); have X'_2 := Lib.hid (X'_1.out.keep k2); have Y_2 := Lib.hid (Y_1.out.keep k2); have Y'_2 := Lib.hid (Y'_1.out.keep k2); have M_2 := Lib.hid (M_1.out.keep k2); have N_2 := Lib.hid (N_1.out.keep k2); have D_2 := Lib.hid (D_1.out.keep k2); have E_2 := Lib.hid (E_1.out.keep k2); have B_2 := Lib.hid (B_1.out.keep k2); have C_2 := Lib.hid (C_1.out.keep k2); have KW_2 := Lib.hid (KW_1.out.trans k2); obtain ⟨cB_2_0, cB_2_1, cB_2_2, -, -, -, -⟩ := id B_2.out; obtain ⟨cC_2_0, cC_2_1, cC_2_2, -, -, -, -⟩ := id C_2.out; clear k2)))
  clear cB_3_0 cB_3_1 cB_3_2 cC_3_0 cC_3_1 cC_3_2 cB_2_0 cB_2_1 cB_2_2 cC_2_0 cC_2_1 cC_2_2 cB_1_0 cB_1_1 cB_1_2 cC_1_0 cC_1_1 cC_1_2
  obtain ⟨B_c0, B_c1, B_c2, -, -, -, -⟩ := id B_3.out
  obtain ⟨C_c0, C_c1, C_c2, -, -, -, -⟩ := id C_3.out
  go_wp2_with fail
  refine Calls.mono (WA.out _ X_3.out X'_3.out) ?_
  rintro e w4 ⟨rfl, k4⟩
  clear B_c0 B_c1 B_c2 C_c0 C_c1 C_c2
  have P_4 := Lib.hid (P_3.out.keep k4)
  have Q_4 := Lib.hid (Q_3.out.keep k4)
  have X_4 := Lib.hid (X_3.out.keep k4)
  have X'_4 := Lib.hid (X'_3.out.keep k4)
  have Y_4 := Lib.hid (Y_3.out.keep k4)
  have Y'_4 := Lib.hid (Y'_3.out.keep k4)
  have M_4 := Lib.hid (M_3.out.keep k4)
  have N_4 := Lib.hid (N_3.out.keep k4)
  have D_4 := Lib.hid (D_3.out.keep k4)
  have E_4 := Lib.hid (E_3.out.keep k4)
  have B_4 := Lib.hid (B_3.out.keep k4)
  have C_4 := Lib.hid (C_3.out.keep k4)
  have KW_4 := Lib.hid (KW_3.out.trans k4)
  clear k4 P_3 Q_3 X_3 X'_3 Y_3 Y'_3 M_3 N_3 D_3 E_3 B_3 C_3 KW_3
  obtain ⟨B_c0, B_c1, B_c2, -, -, -, -⟩ := id B_4.out
  obtain ⟨C_c0, C_c1, C_c2, -, -, -, -⟩ := id C_4.out
  go_wp2_with fail
  refine Calls.mono (WB.out _ Y_4.out Y'_4.out) ?_
  rintro e w5 ⟨rfl, k5⟩
  clear B_c0 B_c1 B_c2 C_c0 C_c1 C_c2
  have P_5 := Lib.hid (P_4.out.keep k5)
  have Q_5 := Lib.hid (Q_4.out.keep k5)
  have X_5 := Lib.hid (X_4.out.keep k5)
  have X'_5 := Lib.hid (X'_4.out.keep k5)
  have Y_5 := Lib.hid (Y_4.out.keep k5)
  have Y'_5 := Lib.hid (Y'_4.out.keep k5)
  have M_5 := Lib.hid (M_4.out.keep k5)
  have N_5 := Lib.hid (N_4.out.keep k5)
  have D_5 := Lib.hid (D_4.out.keep k5)
  have E_5 := Lib.hid (E_4.out.keep k5)
  have B_5 := Lib.hid (B_4.out.keep k5)
  have C_5 := Lib.hid (C_4.out.keep k5)
  have KW_5 := Lib.hid (KW_4.out.trans k5)
  clear k5 P_4 Q_4 X_4 X'_4 Y_4 Y'_4 M_4 N_4 D_4 E_4 B_4 C_4 KW_4
  obtain ⟨oB_0, oB_1, oB_2, -, -, -, -⟩ := id B_5.out
  obtain ⟨oC_0, oC_1, oC_2, -, -, -, -⟩ := id C_5.out
  have P_6 := Lib.hid (P_5.out.keep (keep_drew _))
  clear P_5
  have Q_6 := Lib.hid (Q_5.out.keep (keep_drew _))
  clear Q_5
  have X_6 := Lib.hid (X_5.out.keep (keep_drew _))
  clear X_5
  have X'_6 := Lib.hid (X'_5.out.keep (keep_drew _))
  clear X'_5
  have Y_6 := Lib.hid (Y_5.out.keep (keep_drew _))
  clear Y_5
  have Y'_6 := Lib.hid (Y'_5.out.keep (keep_drew _))
  clear Y'_5
  have M_6 := Lib.hid (M_5.out.keep (keep_drew _))
  clear M_5
  have N_6 := Lib.hid (N_5.out.keep (keep_drew _))
  clear N_5
  have D_6 := Lib.hid (D_5.out.keep (keep_drew _))
  clear D_5
  have E_6 := Lib.hid (E_5.out.keep (keep_drew _))
  clear E_5
  have B_6 := Lib.hid (B_5.out.keep (keep_drew _))
  clear B_5
  have C_6 := Lib.hid (C_5.out.keep (keep_drew _))
  clear C_5
  have KW_6 := Lib.hid (KW_5.out.trans (keep_drew _))
  clear KW_5
  obtain ⟨cB_6_0, cB_6_1, cB_6_2, -, -, -, -⟩ := id B_6.out
  obtain ⟨cC_6_0, cC_6_1, cC_6_2, -, -, -, -⟩ := id C_6.out
  go_wp2
  go_region_held3 (fun w' => w'.cell? ⟨w.heap.size, 0, none⟩ = some (.bool s) ∧ w'.cell? ⟨w.heap.size, 1, none⟩ = some (.slice a n c) ∧ w'.cell? ⟨w.heap.size, 2, none⟩ = some (.slice a' n' c') ∧ w'.cell? ⟨w.heap.size + 1, 0, none⟩ = some (.bool s) ∧ w'.cell? ⟨w.heap.size + 1, 1, none⟩ = some (.slice b m g) ∧ w'.cell? ⟨w.heap.size + 1, 2, none⟩ = some (.slice b' m' g')) (first | exact ⟨cB_11_0, cB_11_1, cB_11_2, cC_11_0, cC_11_1, cC_11_2⟩ | exact ⟨cB_10_0, cB_10_1, cB_10_2, cC_10_0, cC_10_1, cC_10_2⟩ | exact ⟨cB_9_0, cB_9_1, cB_9_2, cC_9_0, cC_9_1, cC_9_2⟩ | exact ⟨cB_8_0, cB_8_1, cB_8_2, cC_8_0, cC_8_1, cC_8_2⟩ | exact ⟨cB_7_0, cB_7_1, cB_7_2, cC_7_0, cC_7_1, cC_7_2⟩ | exact ⟨cB_6_0, cB_6_1, cB_6_2, cC_6_0, cC_6_1, cC_6_2⟩ | go_keep)
    (first
      | (go_at_call 71; ((with_reducible refine Calls.mono (CM.out _ _ _ PP_10.out QQ_10.out) ?_); rintro e w11 ⟨rfl, k11⟩; have P_11 := Lib.hid (P_10.out.keep k11); have Q_11 := Lib.hid (Q_10.out.keep k11); have X_11 := Lib.hid (X_10.out.keep k11); have X'_11 := Lib.hid (X'_10.out.keep k11); have Y_11 := Lib.hid (Y_10.out.keep k11); have Y'_11 := Lib.hid (Y'_10.out.keep k11); have M_11 := Lib.hid (M_10.out.keep k11); have N_11 := Lib.hid (N_10.out.keep k11); have D_11 := Lib.hid (D_10.out.keep k11); have E_11 := Lib.hid (E_10.out.keep k11); have B_11 := Lib.hid (B_10.out.keep k11); have C_11 := Lib.hid (C_10.out.keep k11); have V_11 := Lib.hid (V_10.out.keep k11); have PP_11 := Lib.hid (PP_10.out.keep k11); have U_11 := Lib.hid (U_10.out.keep k11); have QQ_11 := Lib.hid (QQ_10.out.keep k11); have KW_11 := Lib.hid (KW_10.out.trans k11); obtain ⟨cB_11_0, cB_11_1, cB_11_2, -, -, -, -⟩ := id B_11.out; obtain ⟨cC_11_0, cC_11_1, cC_11_2, -, -, -, -⟩ := id C_11.out; clear k11))
      | (go_at_call_of 92 (Value.slice b m g); ((with_reducible refine Calls.mono (M2.out _ _ N_9.out U_9.out) ?_); rintro e w10 ⟨vQ, rfl, hQ, k10⟩; have P_10 := Lib.hid (P_9.out.keep k10); have Q_10 := Lib.hid (Q_9.out.keep k10); have X_10 := Lib.hid (X_9.out.keep k10); have X'_10 := Lib.hid (X'_9.out.keep k10); have Y_10 := Lib.hid (Y_9.out.keep k10); have Y'_10 := Lib.hid (Y'_9.out.keep k10); have M_10 := Lib.hid (M_9.out.keep k10); have N_10 := Lib.hid (N_9.out.keep k10); have D_10 := Lib.hid (D_9.out.keep k10); have E_10 := Lib.hid (E_9.out.keep k10); have B_10 := Lib.hid (B_9.out.keep k10); have C_10 := Lib.hid (C_9.out.keep k10); have V_10 := Lib.hid (V_9.out.keep k10); have PP_10 := Lib.hid (PP_9.out.keep k10); have U_10 := Lib.hid (U_9.out.keep k10); have QQ_10 := Lib.hid hQ; clear hQ; have KW_10 := Lib.hid (KW_9.out.trans k10); obtain ⟨cB_10_0, cB_10_1, cB_10_2, -, -, -, -⟩ := id B_10.out; obtain ⟨cC_10_0, cC_10_1, cC_10_2, -, -, -, -⟩ := id C_10.out; clear k10))
      | (go_at_call_of 93 (Value.agg #[Value.bool s, Value.slice a n c, Value.slice a' n' c']); ((with_reducible refine Calls.mono (DA.out _ D_8.out) ?_); rintro e w9 ⟨vA, rfl, hu1, k9⟩; have P_9 := Lib.hid (P_8.out.keep k9); have Q_9 := Lib.hid (Q_8.out.keep k9); have X_9 := Lib.hid (X_8.out.keep k9); have X'_9 := Lib.hid (X'_8.out.keep k9); have Y_9 := Lib.hid (Y_8.out.keep k9); have Y'_9 := Lib.hid (Y'_8.out.keep k9); have M_9 := Lib.hid (M_8.out.keep k9); have N_9 := Lib.hid (N_8.out.keep k9); have D_9 := Lib.hid (D_8.out.keep k9); have E_9 := Lib.hid (E_8.out.keep k9); have B_9 := Lib.hid (B_8.out.keep k9); have C_9 := Lib.hid (C_8.out.keep k9); have V_9 := Lib.hid (V_8.out.keep k9); have PP_9 := Lib.hid (PP_8.out.keep k9); have U_9 := Lib.hid hu1; clear hu1; have KW_9 := Lib.hid (KW_8.out.trans k9); obtain ⟨cB_9_0, cB_9_1, cB_9_2, -, -, -, -⟩ := id B_9.out; obtain ⟨cC_9_0, cC_9_1, cC_9_2, -, -, -, -⟩ := id C_9.out; clear k9))
      | (go_at_call_of 92 (Value.slice a n c); ((with_reducible refine Calls.mono (M1.out _ _ M_7.out V_7.out) ?_); rintro e w8 ⟨vP, rfl, hP, k8⟩; have P_8 := Lib.hid (P_7.out.keep k8); have Q_8 := Lib.hid (Q_7.out.keep k8); have X_8 := Lib.hid (X_7.out.keep k8); have X'_8 := Lib.hid (X'_7.out.keep k8); have Y_8 := Lib.hid (Y_7.out.keep k8); have Y'_8 := Lib.hid (Y'_7.out.keep k8); have M_8 := Lib.hid (M_7.out.keep k8); have N_8 := Lib.hid (N_7.out.keep k8); have D_8 := Lib.hid (D_7.out.keep k8); have E_8 := Lib.hid (E_7.out.keep k8); have B_8 := Lib.hid (B_7.out.keep k8); have C_8 := Lib.hid (C_7.out.keep k8); have V_8 := Lib.hid (V_7.out.keep k8); have PP_8 := Lib.hid hP; clear hP; have KW_8 := Lib.hid (KW_7.out.trans k8); obtain ⟨cB_8_0, cB_8_1, cB_8_2, -, -, -, -⟩ := id B_8.out; obtain ⟨cC_8_0, cC_8_1, cC_8_2, -, -, -, -⟩ := id C_8.out; clear k8))
      | (go_at_call_of 93 (Value.agg #[Value.bool s, Value.slice b m g, Value.slice b' m' g']); ((with_reducible refine Calls.mono (DB.out _ E_6.out) ?_); rintro e w7 ⟨vB, rfl, hu2, k7⟩; have P_7 := Lib.hid (P_6.out.keep k7); have Q_7 := Lib.hid (Q_6.out.keep k7); have X_7 := Lib.hid (X_6.out.keep k7); have X'_7 := Lib.hid (X'_6.out.keep k7); have Y_7 := Lib.hid (Y_6.out.keep k7); have Y'_7 := Lib.hid (Y'_6.out.keep k7); have M_7 := Lib.hid (M_6.out.keep k7); have N_7 := Lib.hid (N_6.out.keep k7); have D_7 := Lib.hid (D_6.out.keep k7); have E_7 := Lib.hid (E_6.out.keep k7); have B_7 := Lib.hid (B_6.out.keep k7); have C_7 := Lib.hid (C_6.out.keep k7); have V_7 := Lib.hid hu2; clear hu2; have KW_7 := Lib.hid (KW_6.out.trans k7); obtain ⟨cB_7_0, cB_7_1, cB_7_2, -, -, -, -⟩ := id B_7.out; obtain ⟨cC_7_0, cC_7_1, cC_7_2, -, -, -, -⟩ := id C_7.out; clear k7)))
  clear cB_11_0 cB_11_1 cB_11_2 cC_11_0 cC_11_1 cC_11_2 cB_10_0 cB_10_1 cB_10_2 cC_10_0 cC_10_1 cC_10_2 cB_9_0 cB_9_1 cB_9_2 cC_9_0 cC_9_1 cC_9_2 cB_8_0 cB_8_1 cB_8_2 cC_8_0 cC_8_1 cC_8_2 cB_7_0 cB_7_1 cB_7_2 cC_7_0 cC_7_1 cC_7_2 cB_6_0 cB_6_1 cB_6_2 cC_6_0 cC_6_1 cC_6_2 oB_0 oB_1 oB_2 oC_0 oC_1 oC_2
  go_wp2_with fail
  go_ret
  exact ⟨ret_int HV.out, KW_11.out⟩
theorem qcmp_c {w : World} {v u : Value} {p q : Rat} {k : Nat} (h : Ra w v p k) (h' : Ra w u q k) (hk : k < 48) (hk1 : 1 ≤ k) : Calls Tryd.prog 54 #[v, u] w (VPost (rC p q) w) := by
  obtain ⟨s, a, n, c, a', n', c', N, D, rfl, hN, hD, rfl⟩ := h.form
  obtain ⟨t, b, m, g, b', m', g', M, E, rfl, hM, hE, rfl⟩ := h'.form
  by_cases h1 : rS (rv s N D) = rS (rv t M E)
  · by_cases h0 : rS (rv s N D) = 0
    · exact cmp_a2 hN hD hM hE hk h1 h0
    · obtain ⟨rfl, hN0, hM0⟩ := rS_sign h1 h0
      obtain ⟨_, _, _, l, e0, gx, eN, _⟩ := hN.form3
      cases e0
      obtain ⟨_, _, _, l', e0, gx', eD, _⟩ := hD.form3
      cases e0
      obtain ⟨_, _, _, r0, e0, gy, eM, _⟩ := hM.form3
      cases e0
      obtain ⟨_, _, _, r1, e0, gy', eE, _⟩ := hE.form3
      cases e0
      by_cases g1 : n ≤ 1 ∧ n' ≤ 1
      · by_cases g2 : m ≤ 1 ∧ m' ≤ 1
        · exact cmp_b1 gx gx' gy gy' hN hD hM hE eN eD eM eE hN0 hM0 hk g1.1 g1.2 g2.1 g2.2
        · by_cases d1 : n' = 0
          · by_cases d2 : m' = 0
            · exact cmp_c20 gx gx' gy gy' hN hD hM hE eN eD eM eE hN0 hM0 hk hk1 g1.1 g1.2 g2 d1 d2
            · exact cmp_c22 gx gx' gy gy' hN hD hM hE eN eD eM eE hN0 hM0 hk hk1 g1.1 g1.2 g2 d1 d2
          · exact cmp_c21 gx gx' gy gy' hN hD hM hE eN eD eM eE hN0 hM0 hk hk1 g1.1 g1.2 g2 d1
      · by_cases d1 : n' = 0
        · by_cases d2 : m' = 0
          · exact cmp_c10 gx gx' gy gy' hN hD hM hE eN eD eM eE hN0 hM0 hk hk1 g1 d1 d2
          · exact cmp_c12 gx gx' gy gy' hN hD hM hE eN eD eM eE hN0 hM0 hk hk1 g1 d1 d2
        · exact cmp_c11 gx gx' gy gy' hN hD hM hE eN eD eM eE hN0 hM0 hk hk1 g1 d1
  · exact cmp_a1 hN hD hM hE hk h1
set_option maxHeartbeats 800000 in
theorem qmin_0 {w : World} {v u : Value} {p q : Rat} {k : Nat} (h : Ra w v p k) (h' : Ra w u q k) (hk : k < 48) (hk1 : 1 ≤ k) (hT : Tab w) (hc : rC p q ≤ 0) : Calls Tryd.prog 61 #[v, u] w (RPost p w) := by
  obtain ⟨s, a, n, c, a', n', c', N, D, rfl, hN, hD, hp⟩ := h.form
  obtain ⟨t, b, m, g, b', m', g', M, E, rfl, hM, hE, hq⟩ := h'.form
  obtain ⟨B_0, C_0, R_0, KW_0⟩ := op2 w s a n c a' n' c' t b m g b' m' g'
  have P_0 := Lib.hid (h.keep KW_0.out)
  have Q_0 := Lib.hid (h'.keep KW_0.out)
  have T_0 := Lib.hid (hT.keep KW_0.out)
  have CP := Lib.hid (fun w1 (h : Ra w1 (.agg #[.bool s, .slice a n c, .slice a' n' c']) p k) (h' : Ra w1 (.agg #[.bool t, .slice b m g, .slice b' m' g']) q k) => qcmp_c h h' hk hk1)
  have CN := Lib.hid (fun w1 (h : Ra w1 (.agg #[.bool s, .slice a n c, .slice a' n' c']) p k) (hT1 : Tab w1) => canon_c h (by omega) hk1 hT1)
  obtain ⟨z, hz⟩ : ∃ z, rC p q = z := ⟨_, rfl⟩
  rw [hz] at CP hc
  have hd : decide (z ≤ 0) = true := by simpa using hc
  clear h h' hN hD hM hE hp hq hT hz
  go_enter Tryd.func61, Tryd.ntmps61
  obtain ⟨B_c0, B_c1, B_c2, -, -, -, -⟩ := id B_0.out
  obtain ⟨C_c0, C_c1, C_c2, -, -, -, -⟩ := id C_0.out
  obtain ⟨R_c0, R_c1, R_c2, -, -, -, -⟩ := id R_0.out
  go_wp2_with fail
  refine Calls.mono (CP.out _ P_0.out Q_0.out) ?_
  rintro e w1 ⟨rfl, k1⟩
  clear B_c0 B_c1 B_c2 C_c0 C_c1 C_c2 R_c0 R_c1 R_c2
  have P_1 := Lib.hid (P_0.out.keep k1)
  have Q_1 := Lib.hid (Q_0.out.keep k1)
  have T_1 := Lib.hid (T_0.out.keep k1)
  have B_1 := Lib.hid (B_0.out.keep k1)
  have C_1 := Lib.hid (C_0.out.keep k1)
  have R_1 := Lib.hid (R_0.out.keep k1)
  have KW_1 := Lib.hid (KW_0.out.trans k1)
  clear k1 P_0 Q_0 T_0 B_0 C_0 R_0 KW_0
  obtain ⟨B_c0, B_c1, B_c2, -, -, -, -⟩ := id B_1.out
  obtain ⟨C_c0, C_c1, C_c2, -, -, -, -⟩ := id C_1.out
  obtain ⟨R_c0, R_c1, R_c2, -, -, -, -⟩ := id R_1.out
  go_wp2_with fail
  refine Calls.mono (CN.out _ P_1.out T_1.out) ?_
  rintro e wz ⟨u, rfl, hu, kz⟩
  clear B_c0 B_c1 B_c2 C_c0 C_c1 C_c2 R_c0 R_c1 R_c2
  obtain ⟨b0, a0, n0, c0, a1, n1, c1, rfl, hcr, hkk, f0, f1, f2, g0, g1, g2, s0, s1, s2⟩ := hu.put (R_1.out.keep kz) (KW_1.out.trans kz) (by omega)
  have FIN := Lib.hid (show RPost p w (.returned (.agg #[.bool b0, .slice a0 n0 c0, .slice a1 n1 c1])) _ from ⟨_, rfl, hcr, hkk⟩)
  clear hcr hkk hu kz KW_1 P_1 Q_1 T_1 B_1 C_1 R_1
  go_wp2
  refine bodyPost_ret (v := .agg #[.bool b0, .slice a0 n0 c0, .slice a1 n1 c1]) (by simp [results, Tryd.results61, go_sem, s0, s1, s2]) rfl ?_
  exact FIN.out
set_option maxHeartbeats 800000 in
theorem qmin_1 {w : World} {v u : Value} {p q : Rat} {k : Nat} (h : Ra w v p k) (h' : Ra w u q k) (hk : k < 48) (hk1 : 1 ≤ k) (hT : Tab w) (hc : ¬ rC p q ≤ 0) : Calls Tryd.prog 61 #[v, u] w (RPost q w) := by
  obtain ⟨s, a, n, c, a', n', c', N, D, rfl, hN, hD, hp⟩ := h.form
  obtain ⟨t, b, m, g, b', m', g', M, E, rfl, hM, hE, hq⟩ := h'.form
  obtain ⟨B_0, C_0, R_0, KW_0⟩ := op2 w s a n c a' n' c' t b m g b' m' g'
  have P_0 := Lib.hid (h.keep KW_0.out)
  have Q_0 := Lib.hid (h'.keep KW_0.out)
  have T_0 := Lib.hid (hT.keep KW_0.out)
  have CP := Lib.hid (fun w1 (h : Ra w1 (.agg #[.bool s, .slice a n c, .slice a' n' c']) p k) (h' : Ra w1 (.agg #[.bool t, .slice b m g, .slice b' m' g']) q k) => qcmp_c h h' hk hk1)
  have CN := Lib.hid (fun w1 (h : Ra w1 (.agg #[.bool t, .slice b m g, .slice b' m' g']) q k) (hT1 : Tab w1) => canon_c h (by omega) hk1 hT1)
  obtain ⟨z, hz⟩ : ∃ z, rC p q = z := ⟨_, rfl⟩
  rw [hz] at CP hc
  have hd : decide (z ≤ 0) = false := by simpa using hc
  clear h h' hN hD hM hE hp hq hT hz
  go_enter Tryd.func61, Tryd.ntmps61
  obtain ⟨B_c0, B_c1, B_c2, -, -, -, -⟩ := id B_0.out
  obtain ⟨C_c0, C_c1, C_c2, -, -, -, -⟩ := id C_0.out
  obtain ⟨R_c0, R_c1, R_c2, -, -, -, -⟩ := id R_0.out
  go_wp2_with fail
  refine Calls.mono (CP.out _ P_0.out Q_0.out) ?_
  rintro e w1 ⟨rfl, k1⟩
  clear B_c0 B_c1 B_c2 C_c0 C_c1 C_c2 R_c0 R_c1 R_c2
  have P_1 := Lib.hid (P_0.out.keep k1)
  have Q_1 := Lib.hid (Q_0.out.keep k1)
  have T_1 := Lib.hid (T_0.out.keep k1)
  have B_1 := Lib.hid (B_0.out.keep k1)
  have C_1 := Lib.hid (C_0.out.keep k1)
  have R_1 := Lib.hid (R_0.out.keep k1)
  have KW_1 := Lib.hid (KW_0.out.trans k1)
  clear k1 P_0 Q_0 T_0 B_0 C_0 R_0 KW_0
  obtain ⟨B_c0, B_c1, B_c2, -, -, -, -⟩ := id B_1.out
  obtain ⟨C_c0, C_c1, C_c2, -, -, -, -⟩ := id C_1.out
  obtain ⟨R_c0, R_c1, R_c2, -, -, -, -⟩ := id R_1.out
  go_wp2_with fail
  refine Calls.mono (CN.out _ Q_1.out T_1.out) ?_
  rintro e wz ⟨u, rfl, hu, kz⟩
  clear B_c0 B_c1 B_c2 C_c0 C_c1 C_c2 R_c0 R_c1 R_c2
  obtain ⟨b0, a0, n0, c0, a1, n1, c1, rfl, hcr, hkk, f0, f1, f2, g0, g1, g2, s0, s1, s2⟩ := hu.put (R_1.out.keep kz) (KW_1.out.trans kz) (by omega)
  have FIN := Lib.hid (show RPost q w (.returned (.agg #[.bool b0, .slice a0 n0 c0, .slice a1 n1 c1])) _ from ⟨_, rfl, hcr, hkk⟩)
  clear hcr hkk hu kz KW_1 P_1 Q_1 T_1 B_1 C_1 R_1
  go_wp2
  refine bodyPost_ret (v := .agg #[.bool b0, .slice a0 n0 c0, .slice a1 n1 c1]) (by simp [results, Tryd.results61, go_sem, s0, s1, s2]) rfl ?_
  exact FIN.out
theorem qmin_c {w : World} {v u : Value} {p q : Rat} {k : Nat} (h : Ra w v p k) (h' : Ra w u q k) (hk : k < 48) (hk1 : 1 ≤ k) (hT : Tab w) : Calls Tryd.prog 61 #[v, u] w (RPost (if rC p q ≤ 0 then p else q) w) := by
  by_cases hc : rC p q ≤ 0
  · rw [if_pos hc]; exact qmin_0 h h' hk hk1 hT hc
  · rw [if_neg hc]; exact qmin_1 h h' hk hk1 hT hc
set_option maxHeartbeats 800000 in
theorem qmax_0 {w : World} {v u : Value} {p q : Rat} {k : Nat} (h : Ra w v p k) (h' : Ra w u q k) (hk : k < 48) (hk1 : 1 ≤ k) (hT : Tab w) (hc : 0 ≤ rC p q) : Calls Tryd.prog 62 #[v, u] w (RPost p w) := by
  obtain ⟨s, a, n, c, a', n', c', N, D, rfl, hN, hD, hp⟩ := h.form
  obtain ⟨t, b, m, g, b', m', g', M, E, rfl, hM, hE, hq⟩ := h'.form
  obtain ⟨B_0, C_0, R_0, KW_0⟩ := op2 w s a n c a' n' c' t b m g b' m' g'
  have P_0 := Lib.hid (h.keep KW_0.out)
  have Q_0 := Lib.hid (h'.keep KW_0.out)
  have T_0 := Lib.hid (hT.keep KW_0.out)
  have CP := Lib.hid (fun w1 (h : Ra w1 (.agg #[.bool s, .slice a n c, .slice a' n' c']) p k) (h' : Ra w1 (.agg #[.bool t, .slice b m g, .slice b' m' g']) q k) => qcmp_c h h' hk hk1)
  have CN := Lib.hid (fun w1 (h : Ra w1 (.agg #[.bool s, .slice a n c, .slice a' n' c']) p k) (hT1 : Tab w1) => canon_c h (by omega) hk1 hT1)
  obtain ⟨z, hz⟩ : ∃ z, rC p q = z := ⟨_, rfl⟩
  rw [hz] at CP hc
  have hd : decide (0 ≤ z) = true := by simpa using hc
  clear h h' hN hD hM hE hp hq hT hz
  go_enter Tryd.func62, Tryd.ntmps62
  obtain ⟨B_c0, B_c1, B_c2, -, -, -, -⟩ := id B_0.out
  obtain ⟨C_c0, C_c1, C_c2, -, -, -, -⟩ := id C_0.out
  obtain ⟨R_c0, R_c1, R_c2, -, -, -, -⟩ := id R_0.out
  go_wp2_with fail
  refine Calls.mono (CP.out _ P_0.out Q_0.out) ?_
  rintro e w1 ⟨rfl, k1⟩
  clear B_c0 B_c1 B_c2 C_c0 C_c1 C_c2 R_c0 R_c1 R_c2
  have P_1 := Lib.hid (P_0.out.keep k1)
  have Q_1 := Lib.hid (Q_0.out.keep k1)
  have T_1 := Lib.hid (T_0.out.keep k1)
  have B_1 := Lib.hid (B_0.out.keep k1)
  have C_1 := Lib.hid (C_0.out.keep k1)
  have R_1 := Lib.hid (R_0.out.keep k1)
  have KW_1 := Lib.hid (KW_0.out.trans k1)
  clear k1 P_0 Q_0 T_0 B_0 C_0 R_0 KW_0
  obtain ⟨B_c0, B_c1, B_c2, -, -, -, -⟩ := id B_1.out
  obtain ⟨C_c0, C_c1, C_c2, -, -, -, -⟩ := id C_1.out
  obtain ⟨R_c0, R_c1, R_c2, -, -, -, -⟩ := id R_1.out
  go_wp2_with fail
  refine Calls.mono (CN.out _ P_1.out T_1.out) ?_
  rintro e wz ⟨u, rfl, hu, kz⟩
  clear B_c0 B_c1 B_c2 C_c0 C_c1 C_c2 R_c0 R_c1 R_c2
  obtain ⟨b0, a0, n0, c0, a1, n1, c1, rfl, hcr, hkk, f0, f1, f2, g0, g1, g2, s0, s1, s2⟩ := hu.put (R_1.out.keep kz) (KW_1.out.trans kz) (by omega)
  have FIN := Lib.hid (show RPost p w (.returned (.agg #[.bool b0, .slice a0 n0 c0, .slice a1 n1 c1])) _ from ⟨_, rfl, hcr, hkk⟩)
  clear hcr hkk hu kz KW_1 P_1 Q_1 T_1 B_1 C_1 R_1
  go_wp2
  refine bodyPost_ret (v := .agg #[.bool b0, .slice a0 n0 c0, .slice a1 n1 c1]) (by simp [results, Tryd.results62, go_sem, s0, s1, s2]) rfl ?_
  exact FIN.out
set_option maxHeartbeats 800000 in
theorem qmax_1 {w : World} {v u : Value} {p q : Rat} {k : Nat} (h : Ra w v p k) (h' : Ra w u q k) (hk : k < 48) (hk1 : 1 ≤ k) (hT : Tab w) (hc : ¬ 0 ≤ rC p q) : Calls Tryd.prog 62 #[v, u] w (RPost q w) := by
  obtain ⟨s, a, n, c, a', n', c', N, D, rfl, hN, hD, hp⟩ := h.form
  obtain ⟨t, b, m, g, b', m', g', M, E, rfl, hM, hE, hq⟩ := h'.form
  obtain ⟨B_0, C_0, R_0, KW_0⟩ := op2 w s a n c a' n' c' t b m g b' m' g'
  have P_0 := Lib.hid (h.keep KW_0.out)
  have Q_0 := Lib.hid (h'.keep KW_0.out)
  have T_0 := Lib.hid (hT.keep KW_0.out)
  have CP := Lib.hid (fun w1 (h : Ra w1 (.agg #[.bool s, .slice a n c, .slice a' n' c']) p k) (h' : Ra w1 (.agg #[.bool t, .slice b m g, .slice b' m' g']) q k) => qcmp_c h h' hk hk1)
  have CN := Lib.hid (fun w1 (h : Ra w1 (.agg #[.bool t, .slice b m g, .slice b' m' g']) q k) (hT1 : Tab w1) => canon_c h (by omega) hk1 hT1)
  obtain ⟨z, hz⟩ : ∃ z, rC p q = z := ⟨_, rfl⟩
  rw [hz] at CP hc
  have hd : decide (0 ≤ z) = false := by simpa using hc
  clear h h' hN hD hM hE hp hq hT hz
  go_enter Tryd.func62, Tryd.ntmps62
  obtain ⟨B_c0, B_c1, B_c2, -, -, -, -⟩ := id B_0.out
  obtain ⟨C_c0, C_c1, C_c2, -, -, -, -⟩ := id C_0.out
  obtain ⟨R_c0, R_c1, R_c2, -, -, -, -⟩ := id R_0.out
  go_wp2_with fail
  refine Calls.mono (CP.out _ P_0.out Q_0.out) ?_
  rintro e w1 ⟨rfl, k1⟩
  clear B_c0 B_c1 B_c2 C_c0 C_c1 C_c2 R_c0 R_c1 R_c2
  have P_1 := Lib.hid (P_0.out.keep k1)
  have Q_1 := Lib.hid (Q_0.out.keep k1)
  have T_1 := Lib.hid (T_0.out.keep k1)
  have B_1 := Lib.hid (B_0.out.keep k1)
  have C_1 := Lib.hid (C_0.out.keep k1)
  have R_1 := Lib.hid (R_0.out.keep k1)
  have KW_1 := Lib.hid (KW_0.out.trans k1)
  clear k1 P_0 Q_0 T_0 B_0 C_0 R_0 KW_0
  obtain ⟨B_c0, B_c1, B_c2, -, -, -, -⟩ := id B_1.out
  obtain ⟨C_c0, C_c1, C_c2, -, -, -, -⟩ := id C_1.out
  obtain ⟨R_c0, R_c1, R_c2, -, -, -, -⟩ := id R_1.out
  go_wp2_with fail
  refine Calls.mono (CN.out _ Q_1.out T_1.out) ?_
  rintro e wz ⟨u, rfl, hu, kz⟩
  clear B_c0 B_c1 B_c2 C_c0 C_c1 C_c2 R_c0 R_c1 R_c2
  obtain ⟨b0, a0, n0, c0, a1, n1, c1, rfl, hcr, hkk, f0, f1, f2, g0, g1, g2, s0, s1, s2⟩ := hu.put (R_1.out.keep kz) (KW_1.out.trans kz) (by omega)
  have FIN := Lib.hid (show RPost q w (.returned (.agg #[.bool b0, .slice a0 n0 c0, .slice a1 n1 c1])) _ from ⟨_, rfl, hcr, hkk⟩)
  clear hcr hkk hu kz KW_1 P_1 Q_1 T_1 B_1 C_1 R_1
  go_wp2
  refine bodyPost_ret (v := .agg #[.bool b0, .slice a0 n0 c0, .slice a1 n1 c1]) (by simp [results, Tryd.results62, go_sem, s0, s1, s2]) rfl ?_
  exact FIN.out
theorem qmax_c {w : World} {v u : Value} {p q : Rat} {k : Nat} (h : Ra w v p k) (h' : Ra w u q k) (hk : k < 48) (hk1 : 1 ≤ k) (hT : Tab w) : Calls Tryd.prog 62 #[v, u] w (RPost (if 0 ≤ rC p q then p else q) w) := by
  by_cases hc : 0 ≤ rC p q
  · rw [if_pos hc]; exact qmax_0 h h' hk hk1 hT hc
  · rw [if_neg hc]; exact qmax_1 h h' hk hk1 hT hc
theorem opm (w : World) (s : Bool) (a : Option Addr) (n c : Nat) (t : Bool) (b : Option Addr) (m g : Nat) :
    Hid (RBox w.heap.size (.bool s) (.slice a n c) (((w.alloc (.cells #[.bool s, .slice a n c] 96)).alloc (.cells #[.bool t, .slice b m g] 96)).alloc (.cells #[.bool false, .slice none 0 0, .slice none 0 0] 32))) ∧ Hid (RBox (w.heap.size + 1) (.bool t) (.slice b m g) (((w.alloc (.cells #[.bool s, .slice a n c] 96)).alloc (.cells #[.bool t, .slice b m g] 96)).alloc (.cells #[.bool false, .slice none 0 0, .slice none 0 0] 32))) ∧ Hid (QBox (w.heap.size + 1 + 1) (.bool false) (.slice none 0 0) (.slice none 0 0) (((w.alloc (.cells #[.bool s, .slice a n c] 96)).alloc (.cells #[.bool t, .slice b m g] 96)).alloc (.cells #[.bool false, .slice none 0 0, .slice none 0 0] 32))) ∧ Hid (Keep w (((w.alloc (.cells #[.bool s, .slice a n c] 96)).alloc (.cells #[.bool t, .slice b m g] 96)).alloc (.cells #[.bool false, .slice none 0 0, .slice none 0 0] 32))) :=
  ⟨Lib.hid ((RBox.new w s a n c).keep (((Keep.refl _).alloc _).alloc _)), Lib.hid (((RBox.new (w.alloc _) t b m g).at (sz1 _ _)).keep ((Keep.refl _).alloc _)), Lib.hid ((QBox.new ((w.alloc _).alloc _) false none 0 0 none 0 0).at (sz2 _ _ _)), Lib.hid ((((Keep.refl w).alloc _).alloc _).alloc _)⟩
theorem rv_frac {x y : Int} (h : y.natAbs ≠ 0) : rv (decide (x < 0) != decide (y < 0)) x.natAbs y.natAbs = (x : Rat) / (y : Rat) := by
  rw [Rat.div_def, ← rv_of x, ← rv_of y, rv_inv _ 0 h, rv_mul, dn_zero, Nat.mul_one, Nat.one_mul, dn_of h]
end Go.Proofs.YtbcakefhknjbeaaDoor
