/- Carried over from another seat by program (portn.py). -/
import Derived.Test.YtcdkehghdhcokaaDoorRE
namespace Go.Proofs.YtcdkehghdhcokaaDoor
open Go.RowKit
set_option linter.unusedVariables false
theorem canB_dig (n : Nat) : canB (dig n) = true := by
  by_cases h : n = 0
  · subst h; rw [dig_zero]; rfl
  · have := dig_top h
    unfold canB
    rw [Bool.or_eq_true]
    right
    rw [bne_iff_ne]
    exact this
theorem canB_of {l : List Nat} (h : Lim l) (hc : canB l = true) : dig (nv l) = l := by
  refine dig_of h ?_
  unfold canB at hc
  rw [Bool.or_eq_true] at hc
  rcases hc with hc | hc
  · left; simpa using hc
  · right; rw [bne_iff_ne] at hc; exact hc
theorem eqB_iff {l t : List Nat} : eqB l t = true ↔ l = t := by unfold eqB; exact beq_iff_eq
theorem okQ_iff {s : Bool} {l l' : List Nat} : okQ s l l' = true ↔ (s = decide ((rv s (nv l) (nv l')).num < 0) ∧ l = dig (rv s (nv l) (nv l')).num.natAbs) ∧ l' = dig (wd (rv s (nv l) (nv l'))) := by
  unfold okQ
  rw [Bool.and_eq_true, Bool.and_eq_true, eqB_iff, eqB_iff, beq_iff_eq]
theorem ok1 {s : Bool} {l l' : List Nat} (h : canB l = false) : okQ s l l' = false := by
  rw [Bool.eq_false_iff]
  intro h1
  have h2 := (okQ_iff.1 h1).1.2
  rw [h2, canB_dig] at h
  cases h
theorem ok2 {s : Bool} {l l' : List Nat} (h : canB l' = false) : okQ s l l' = false := by
  rw [Bool.eq_false_iff]
  intro h1
  have h2 := (okQ_iff.1 h1).2
  rw [h2, canB_dig] at h
  cases h
theorem ok3 {s : Bool} {l l' : List Nat} (h : l = []) (hl : Lim l') (h' : canB l' = true) : okQ s l l' = (!s && decide (l'.length = 0)) := by
  subst h
  have e0 : nv ([] : List Nat) = 0 := rfl
  have e1 : wd (0 : Rat) = 0 := rfl
  have e2 : (0 : Rat).num = 0 := rfl
  unfold okQ
  rw [e0, rv_zero, e1, e2, Int.natAbs_zero, dig_zero]
  have e3 : decide ((0 : Int) < 0) = false := rfl
  rw [e3]
  cases s <;> cases l' <;> rfl
theorem ok4 {s : Bool} {l : List Nat} (hl : Lim l) (h : canB l = true) (h0 : nv l ≠ 0) : okQ s l [] = true := by
  rw [okQ_iff]
  have e0 : nv ([] : List Nat) = 0 := rfl
  rw [e0]
  have p := pack_parts s (n := nv l) (d := 0) (by rw [dn_zero, Nat.gcd_one_right])
  obtain ⟨p1, p2, p3⟩ := p
  refine ⟨⟨(p3 h0).symm, by rw [p1]; exact (canB_of hl h).symm⟩, ?_⟩
  rw [wd, p2, if_pos dn_zero, dig_zero]
theorem ok5 {s : Bool} {l l' : List Nat} (h : l' = [1]) : okQ s l l' = false := by
  rw [Bool.eq_false_iff]
  intro h1
  have h2 := (okQ_iff.1 h1).2
  subst h
  have e0 : nv [1] = 1 := rfl
  rw [e0] at h2
  have e1 : (rv s (nv l) 1).den = 1 := by rw [rv_den s (nv l) (by omega), Nat.gcd_one_right]
  rw [wd, if_pos e1, dig_zero] at h2
  cases h2
theorem ok6 {s : Bool} {l l' : List Nat} (hl : Lim l) (hl' : Lim l') (h : canB l = true) (h' : canB l' = true) (h0 : nv l ≠ 0) (h2 : 2 ≤ nv l') : okQ s l l' = (Nat.gcd (nv l) (nv l') == 1) := by
  have hd : dn (nv l') = nv l' := dn_of (by omega)
  by_cases hg : Nat.gcd (nv l) (nv l') = 1
  · rw [hg, show ((1 : Nat) == 1) = true from rfl, okQ_iff]
    obtain ⟨p1, p2, p3⟩ := pack_parts s (n := nv l) (d := nv l') (by rw [hd]; exact hg)
    refine ⟨⟨(p3 h0).symm, by rw [p1]; exact (canB_of hl h).symm⟩, ?_⟩
    rw [wd, p2, hd, if_neg (by omega)]; exact (canB_of hl' h').symm
  · rw [show (Nat.gcd (nv l) (nv l') == 1) = false from beq_false_of_ne hg, Bool.eq_false_iff]
    intro h1
    have h3 := (okQ_iff.1 h1).1.2
    have h4 : nv l = (rv s (nv l) (nv l')).num.natAbs := by
      have := congrArg nv h3
      rw [nv_dig] at this
      exact this
    rw [rv_abs s (nv l) (by omega)] at h4
    have hgp : 0 < Nat.gcd (nv l) (nv l') := Nat.gcd_pos_of_pos_left _ (by omega)
    have h5 : nv l / Nat.gcd (nv l) (nv l') < nv l := Nat.div_lt_self (by omega) (by omega)
    omega
theorem Rd.cell00 {w : World} {b o n c : Nat} {l : List Nat} (h : Rd w (some ⟨b, o, none⟩) n c l) (hn : 0 < n) : w.cell? ⟨b, o, none⟩ = some (.int .u32 (l.getD 0 0 : Nat)) := by
  obtain ⟨_, _, e, h1, _⟩ := h.cell0 hn
  cases e
  exact h1
theorem bl_one {g : Nat} (h : g ≠ 0) : (((bl g : Nat) : Int) == 1) = (g == 1) := by
  by_cases h1 : g = 1
  · subst h1; decide
  · rw [beq_false_of_ne h1]
    have := bl_le_one (g := g) (by omega)
    simp; omega
set_option maxHeartbeats 800000 in
theorem valid_1 {w : World} {s : Bool} {a a' : Option Addr} {n c n' c' k : Nat} {l l' : List Nat} (hx : Rd w a n c l) (hx' : Rd w a' n' c' l') (hl : l.length ≤ k) (hl' : l'.length ≤ k) (hk : k ≤ 1048575) (hT : Tab w) (h1 : canB l = false) :
    Calls Tryd.prog 42 #[.agg #[.bool s, .slice a n c, .slice a' n' c']] w (BPost false w) := by
  have KW_0 := Lib.hid ((Keep.refl w).alloc (.cells #[.bool s, .slice a n c, .slice a' n' c'] 37))
  have B_0 := Lib.hid (QBox.new w s a n c a' n' c')
  have X_0 := Lib.hid (hx.below KW_0.out)
  have X'_0 := Lib.hid (hx'.below KW_0.out)
  have T_0 := Lib.hid (hT.keep KW_0.out)
  have V1 := Lib.hid (fun w1 (h : Rd w1 a n c l) => valid_n ⟨_, _, _, rfl, h⟩)
  have V2 := Lib.hid (fun w1 (h : Rd w1 a' n' c' l') => valid_n ⟨_, _, _, rfl, h⟩)
  have q1 := hx.le_cap
  have q2 := hx.cap_le
  have q3 := hx'.le_cap
  have q4 := hx'.cap_le
  rw [h1] at V1
  clear hx hx' hl hl' hT h1
  go_enter Tryd.func42, Tryd.ntmps42
  obtain ⟨B_c0, B_c1, B_c2, -, -, -, -⟩ := id B_0.out
  go_wp2_with fail
  refine Calls.mono (V1.out _ X_0.out) ?_
  rintro e w1 ⟨rfl, k1⟩
  clear B_c0 B_c1 B_c2
  have X_1 := Lib.hid (X_0.out.keep k1)
  have X'_1 := Lib.hid (X'_0.out.keep k1)
  have T_1 := Lib.hid (T_0.out.keep k1)
  have B_1 := Lib.hid (B_0.out.keep k1)
  have KW_1 := Lib.hid (KW_0.out.trans k1)
  clear k1 X_0 X'_0 T_0 B_0 KW_0
  obtain ⟨B_c0, B_c1, B_c2, -, -, -, -⟩ := id B_1.out
  go_wp2_with fail
  go_ret
  exact ⟨rfl, KW_1.out⟩
set_option maxHeartbeats 800000 in
theorem valid_2 {w : World} {s : Bool} {a a' : Option Addr} {n c n' c' k : Nat} {l l' : List Nat} (hx : Rd w a n c l) (hx' : Rd w a' n' c' l') (hl : l.length ≤ k) (hl' : l'.length ≤ k) (hk : k ≤ 1048575) (hT : Tab w) (h1 : canB l = true) (h2 : canB l' = false) :
    Calls Tryd.prog 42 #[.agg #[.bool s, .slice a n c, .slice a' n' c']] w (BPost false w) := by
  have KW_0 := Lib.hid ((Keep.refl w).alloc (.cells #[.bool s, .slice a n c, .slice a' n' c'] 37))
  have B_0 := Lib.hid (QBox.new w s a n c a' n' c')
  have X_0 := Lib.hid (hx.below KW_0.out)
  have X'_0 := Lib.hid (hx'.below KW_0.out)
  have T_0 := Lib.hid (hT.keep KW_0.out)
  have V1 := Lib.hid (fun w1 (h : Rd w1 a n c l) => valid_n ⟨_, _, _, rfl, h⟩)
  have V2 := Lib.hid (fun w1 (h : Rd w1 a' n' c' l') => valid_n ⟨_, _, _, rfl, h⟩)
  have q1 := hx.le_cap
  have q2 := hx.cap_le
  have q3 := hx'.le_cap
  have q4 := hx'.cap_le
  rw [h1] at V1
  rw [h2] at V2
  clear hx hx' hl hl' hT h1 h2
  go_enter Tryd.func42, Tryd.ntmps42
  obtain ⟨B_c0, B_c1, B_c2, -, -, -, -⟩ := id B_0.out
  go_wp2_with fail
  refine Calls.mono (V1.out _ X_0.out) ?_
  rintro e w1 ⟨rfl, k1⟩
  clear B_c0 B_c1 B_c2
  have X_1 := Lib.hid (X_0.out.keep k1)
  have X'_1 := Lib.hid (X'_0.out.keep k1)
  have T_1 := Lib.hid (T_0.out.keep k1)
  have B_1 := Lib.hid (B_0.out.keep k1)
  have KW_1 := Lib.hid (KW_0.out.trans k1)
  clear k1 X_0 X'_0 T_0 B_0 KW_0
  obtain ⟨B_c0, B_c1, B_c2, -, -, -, -⟩ := id B_1.out
  go_wp2_with fail
  refine Calls.mono (V2.out _ X'_1.out) ?_
  rintro e w2 ⟨rfl, k2⟩
  clear B_c0 B_c1 B_c2
  have X_2 := Lib.hid (X_1.out.keep k2)
  have X'_2 := Lib.hid (X'_1.out.keep k2)
  have T_2 := Lib.hid (T_1.out.keep k2)
  have B_2 := Lib.hid (B_1.out.keep k2)
  have KW_2 := Lib.hid (KW_1.out.trans k2)
  clear k2 X_1 X'_1 T_1 B_1 KW_1
  obtain ⟨B_c0, B_c1, B_c2, -, -, -, -⟩ := id B_2.out
  go_wp2_with fail
  go_ret
  exact ⟨rfl, KW_2.out⟩
set_option maxHeartbeats 800000 in
theorem valid_3t {w : World} {a a' : Option Addr} {n c n' c' k : Nat} {l l' : List Nat} (hx : Rd w a 0 c l) (hx' : Rd w a' n' c' l') (hl : l.length ≤ k) (hl' : l'.length ≤ k) (hk : k ≤ 1048575) (hT : Tab w) (h1 : canB l = true) (h2 : canB l' = true) :
    Calls Tryd.prog 42 #[.agg #[.bool true, .slice a 0 c, .slice a' n' c']] w (BPost (!true && decide (n' = 0)) w) := by
  have KW_0 := Lib.hid ((Keep.refl w).alloc (.cells #[.bool true, .slice a 0 c, .slice a' n' c'] 37))
  have B_0 := Lib.hid (QBox.new w true a 0 c a' n' c')
  have X_0 := Lib.hid (hx.below KW_0.out)
  have X'_0 := Lib.hid (hx'.below KW_0.out)
  have T_0 := Lib.hid (hT.keep KW_0.out)
  have V1 := Lib.hid (fun w1 (h : Rd w1 a 0 c l) => valid_n ⟨_, _, _, rfl, h⟩)
  have V2 := Lib.hid (fun w1 (h : Rd w1 a' n' c' l') => valid_n ⟨_, _, _, rfl, h⟩)
  have q1 := hx.le_cap
  have q2 := hx.cap_le
  have q3 := hx'.le_cap
  have q4 := hx'.cap_le
  rw [h1] at V1
  rw [h2] at V2
  have d1 : ((n' : Int) == 0) = decide (n' = 0) := by by_cases e : n' = 0 <;> simp [e]
  obtain ⟨z, hz⟩ : ∃ z, decide (n' = 0) = z := ⟨_, rfl⟩
  rw [hz] at d1 ⊢
  clear hz
  clear hx hx' hl hl' hT h1 h2
  go_enter Tryd.func42, Tryd.ntmps42
  obtain ⟨B_c0, B_c1, B_c2, -, -, -, -⟩ := id B_0.out
  go_wp2_with fail
  refine Calls.mono (V1.out _ X_0.out) ?_
  rintro e w1 ⟨rfl, k1⟩
  clear B_c0 B_c1 B_c2
  have X_1 := Lib.hid (X_0.out.keep k1)
  have X'_1 := Lib.hid (X'_0.out.keep k1)
  have T_1 := Lib.hid (T_0.out.keep k1)
  have B_1 := Lib.hid (B_0.out.keep k1)
  have KW_1 := Lib.hid (KW_0.out.trans k1)
  clear k1 X_0 X'_0 T_0 B_0 KW_0
  obtain ⟨B_c0, B_c1, B_c2, -, -, -, -⟩ := id B_1.out
  go_wp2_with fail
  refine Calls.mono (V2.out _ X'_1.out) ?_
  rintro e w2 ⟨rfl, k2⟩
  clear B_c0 B_c1 B_c2
  have X_2 := Lib.hid (X_1.out.keep k2)
  have X'_2 := Lib.hid (X'_1.out.keep k2)
  have T_2 := Lib.hid (T_1.out.keep k2)
  have B_2 := Lib.hid (B_1.out.keep k2)
  have KW_2 := Lib.hid (KW_1.out.trans k2)
  clear k2 X_1 X'_1 T_1 B_1 KW_1
  obtain ⟨B_c0, B_c1, B_c2, -, -, -, -⟩ := id B_2.out
  go_wp2_with fail
  go_ret
  exact ⟨rfl, KW_2.out⟩
set_option maxHeartbeats 800000 in
theorem valid_3f {w : World} {a a' : Option Addr} {n c n' c' k : Nat} {l l' : List Nat} (hx : Rd w a 0 c l) (hx' : Rd w a' n' c' l') (hl : l.length ≤ k) (hl' : l'.length ≤ k) (hk : k ≤ 1048575) (hT : Tab w) (h1 : canB l = true) (h2 : canB l' = true) :
    Calls Tryd.prog 42 #[.agg #[.bool false, .slice a 0 c, .slice a' n' c']] w (BPost (!false && decide (n' = 0)) w) := by
  have KW_0 := Lib.hid ((Keep.refl w).alloc (.cells #[.bool false, .slice a 0 c, .slice a' n' c'] 37))
  have B_0 := Lib.hid (QBox.new w false a 0 c a' n' c')
  have X_0 := Lib.hid (hx.below KW_0.out)
  have X'_0 := Lib.hid (hx'.below KW_0.out)
  have T_0 := Lib.hid (hT.keep KW_0.out)
  have V1 := Lib.hid (fun w1 (h : Rd w1 a 0 c l) => valid_n ⟨_, _, _, rfl, h⟩)
  have V2 := Lib.hid (fun w1 (h : Rd w1 a' n' c' l') => valid_n ⟨_, _, _, rfl, h⟩)
  have q1 := hx.le_cap
  have q2 := hx.cap_le
  have q3 := hx'.le_cap
  have q4 := hx'.cap_le
  rw [h1] at V1
  rw [h2] at V2
  have d1 : ((n' : Int) == 0) = decide (n' = 0) := by by_cases e : n' = 0 <;> simp [e]
  obtain ⟨z, hz⟩ : ∃ z, decide (n' = 0) = z := ⟨_, rfl⟩
  rw [hz] at d1 ⊢
  clear hz
  clear hx hx' hl hl' hT h1 h2
  go_enter Tryd.func42, Tryd.ntmps42
  obtain ⟨B_c0, B_c1, B_c2, -, -, -, -⟩ := id B_0.out
  go_wp2_with fail
  refine Calls.mono (V1.out _ X_0.out) ?_
  rintro e w1 ⟨rfl, k1⟩
  clear B_c0 B_c1 B_c2
  have X_1 := Lib.hid (X_0.out.keep k1)
  have X'_1 := Lib.hid (X'_0.out.keep k1)
  have T_1 := Lib.hid (T_0.out.keep k1)
  have B_1 := Lib.hid (B_0.out.keep k1)
  have KW_1 := Lib.hid (KW_0.out.trans k1)
  clear k1 X_0 X'_0 T_0 B_0 KW_0
  obtain ⟨B_c0, B_c1, B_c2, -, -, -, -⟩ := id B_1.out
  go_wp2_with fail
  refine Calls.mono (V2.out _ X'_1.out) ?_
  rintro e w2 ⟨rfl, k2⟩
  clear B_c0 B_c1 B_c2
  have X_2 := Lib.hid (X_1.out.keep k2)
  have X'_2 := Lib.hid (X'_1.out.keep k2)
  have T_2 := Lib.hid (T_1.out.keep k2)
  have B_2 := Lib.hid (B_1.out.keep k2)
  have KW_2 := Lib.hid (KW_1.out.trans k2)
  clear k2 X_1 X'_1 T_1 B_1 KW_1
  obtain ⟨B_c0, B_c1, B_c2, -, -, -, -⟩ := id B_2.out
  go_wp2_with fail
  go_ret
  exact ⟨rfl, KW_2.out⟩
set_option maxHeartbeats 800000 in
theorem valid_4 {w : World} {s : Bool} {a a' : Option Addr} {n c n' c' k : Nat} {l l' : List Nat} (hx : Rd w a n c l) (hx' : Rd w a' 0 c' l') (hl : l.length ≤ k) (hl' : l'.length ≤ k) (hk : k ≤ 1048575) (hT : Tab w) (h1 : canB l = true) (h2 : canB l' = true) (h0 : n ≠ 0) :
    Calls Tryd.prog 42 #[.agg #[.bool s, .slice a n c, .slice a' 0 c']] w (BPost true w) := by
  have KW_0 := Lib.hid ((Keep.refl w).alloc (.cells #[.bool s, .slice a n c, .slice a' 0 c'] 37))
  have B_0 := Lib.hid (QBox.new w s a n c a' 0 c')
  have X_0 := Lib.hid (hx.below KW_0.out)
  have X'_0 := Lib.hid (hx'.below KW_0.out)
  have T_0 := Lib.hid (hT.keep KW_0.out)
  have V1 := Lib.hid (fun w1 (h : Rd w1 a n c l) => valid_n ⟨_, _, _, rfl, h⟩)
  have V2 := Lib.hid (fun w1 (h : Rd w1 a' 0 c' l') => valid_n ⟨_, _, _, rfl, h⟩)
  have q1 := hx.le_cap
  have q2 := hx.cap_le
  have q3 := hx'.le_cap
  have q4 := hx'.cap_le
  rw [h1] at V1
  rw [h2] at V2
  have d1 : ((n : Int) == 0) = false := by simp; omega
  clear hx hx' hl hl' hT h1 h2
  go_enter Tryd.func42, Tryd.ntmps42
  obtain ⟨B_c0, B_c1, B_c2, -, -, -, -⟩ := id B_0.out
  go_wp2_with fail
  refine Calls.mono (V1.out _ X_0.out) ?_
  rintro e w1 ⟨rfl, k1⟩
  clear B_c0 B_c1 B_c2
  have X_1 := Lib.hid (X_0.out.keep k1)
  have X'_1 := Lib.hid (X'_0.out.keep k1)
  have T_1 := Lib.hid (T_0.out.keep k1)
  have B_1 := Lib.hid (B_0.out.keep k1)
  have KW_1 := Lib.hid (KW_0.out.trans k1)
  clear k1 X_0 X'_0 T_0 B_0 KW_0
  obtain ⟨B_c0, B_c1, B_c2, -, -, -, -⟩ := id B_1.out
  go_wp2_with fail
  refine Calls.mono (V2.out _ X'_1.out) ?_
  rintro e w2 ⟨rfl, k2⟩
  clear B_c0 B_c1 B_c2
  have X_2 := Lib.hid (X_1.out.keep k2)
  have X'_2 := Lib.hid (X'_1.out.keep k2)
  have T_2 := Lib.hid (T_1.out.keep k2)
  have B_2 := Lib.hid (B_1.out.keep k2)
  have KW_2 := Lib.hid (KW_1.out.trans k2)
  clear k2 X_1 X'_1 T_1 B_1 KW_1
  obtain ⟨B_c0, B_c1, B_c2, -, -, -, -⟩ := id B_2.out
  go_wp2_with fail
  go_ret
  exact ⟨rfl, KW_2.out⟩
set_option maxHeartbeats 800000 in
theorem valid_5 {w : World} {s : Bool} {a a' : Option Addr} {b' o' n c n' c' k : Nat} {l l' : List Nat} (hx : Rd w a n c l) (hx' : Rd w (some ⟨b', o', none⟩) 1 c' l') (hl : l.length ≤ k) (hl' : l'.length ≤ k) (hk : k ≤ 1048575) (hT : Tab w) (h1 : canB l = true) (h2 : canB l' = true) (h0 : n ≠ 0) (hy : l'.getD 0 0 = 1) :
    Calls Tryd.prog 42 #[.agg #[.bool s, .slice a n c, .slice (some ⟨b', o', none⟩) 1 c']] w (BPost false w) := by
  have KW_0 := Lib.hid ((Keep.refl w).alloc (.cells #[.bool s, .slice a n c, .slice (some ⟨b', o', none⟩) 1 c'] 37))
  have B_0 := Lib.hid (QBox.new w s a n c (some ⟨b', o', none⟩) 1 c')
  have X_0 := Lib.hid (hx.below KW_0.out)
  have X'_0 := Lib.hid (hx'.below KW_0.out)
  have T_0 := Lib.hid (hT.keep KW_0.out)
  have V1 := Lib.hid (fun w1 (h : Rd w1 a n c l) => valid_n ⟨_, _, _, rfl, h⟩)
  have V2 := Lib.hid (fun w1 (h : Rd w1 (some ⟨b', o', none⟩) 1 c' l') => valid_n ⟨_, _, _, rfl, h⟩)
  have q1 := hx.le_cap
  have q2 := hx.cap_le
  have q3 := hx'.le_cap
  have q4 := hx'.cap_le
  rw [h1] at V1
  rw [h2] at V2
  have d1 : ((n : Int) == 0) = false := by simp; omega
  have hxd : Hid (l'.getD 0 0 = 1) := Lib.hid hy
  clear hx hx' hl hl' hT h1 h2
  go_enter Tryd.func42, Tryd.ntmps42
  obtain ⟨B_c0, B_c1, B_c2, -, -, -, -⟩ := id B_0.out
  go_wp2_with fail
  refine Calls.mono (V1.out _ X_0.out) ?_
  rintro e w1 ⟨rfl, k1⟩
  clear B_c0 B_c1 B_c2
  have X_1 := Lib.hid (X_0.out.keep k1)
  have X'_1 := Lib.hid (X'_0.out.keep k1)
  have T_1 := Lib.hid (T_0.out.keep k1)
  have B_1 := Lib.hid (B_0.out.keep k1)
  have KW_1 := Lib.hid (KW_0.out.trans k1)
  clear k1 X_0 X'_0 T_0 B_0 KW_0
  obtain ⟨B_c0, B_c1, B_c2, -, -, -, -⟩ := id B_1.out
  go_wp2_with fail
  refine Calls.mono (V2.out _ X'_1.out) ?_
  rintro e w2 ⟨rfl, k2⟩
  clear B_c0 B_c1 B_c2
  have X_2 := Lib.hid (X_1.out.keep k2)
  have X'_2 := Lib.hid (X'_1.out.keep k2)
  have T_2 := Lib.hid (T_1.out.keep k2)
  have B_2 := Lib.hid (B_1.out.keep k2)
  have KW_2 := Lib.hid (KW_1.out.trans k2)
  clear k2 X_1 X'_1 T_1 B_1 KW_1
  obtain ⟨B_c0, B_c1, B_c2, -, -, -, -⟩ := id B_2.out
  have cc := Rd.cell00 X'_2.out (by omega)
  rw [hxd.out] at cc
  go_wp2_with fail
  go_ret
  exact ⟨rfl, KW_2.out⟩
set_option maxHeartbeats 800000 in
theorem valid_6 {w : World} {s : Bool} {a a' : Option Addr} {b' o' n c n' c' k : Nat} {l l' : List Nat} (hx : Rd w a n c l) (hx' : Rd w (some ⟨b', o', none⟩) 1 c' l') (hl : l.length ≤ k) (hl' : l'.length ≤ k) (hk : k ≤ 1048575) (hT : Tab w) (h1 : canB l = true) (h2 : canB l' = true) (h0 : n ≠ 0) (hN : nv l ≠ 0) (yy : Nat) (hy : l'.getD 0 0 = yy) (hy2 : yy ≠ 1) :
    Calls Tryd.prog 42 #[.agg #[.bool s, .slice a n c, .slice (some ⟨b', o', none⟩) 1 c']] w (BPost (Nat.gcd (nv l) (nv l') == 1) w) := by
  have KW_0 := Lib.hid ((Keep.refl w).alloc (.cells #[.bool s, .slice a n c, .slice (some ⟨b', o', none⟩) 1 c'] 37))
  have B_0 := Lib.hid (QBox.new w s a n c (some ⟨b', o', none⟩) 1 c')
  have X_0 := Lib.hid (hx.below KW_0.out)
  have X'_0 := Lib.hid (hx'.below KW_0.out)
  have T_0 := Lib.hid (hT.keep KW_0.out)
  have V1 := Lib.hid (fun w1 (h : Rd w1 a n c l) => valid_n ⟨_, _, _, rfl, h⟩)
  have V2 := Lib.hid (fun w1 (h : Rd w1 (some ⟨b', o', none⟩) 1 c' l') => valid_n ⟨_, _, _, rfl, h⟩)
  have q1 := hx.le_cap
  have q2 := hx.cap_le
  have q3 := hx'.le_cap
  have q4 := hx'.cap_le
  rw [h1] at V1
  rw [h2] at V2
  have d1 : ((n : Int) == 0) = false := by simp; omega
  have d2 : ((yy : Int) == 1) = false := by simp; omega
  have hxd : Hid (l'.getD 0 0 = yy) := Lib.hid hy
  obtain ⟨z, hz⟩ : ∃ z, (Nat.gcd (nv l) (nv l') == 1) = z := ⟨_, rfl⟩
  have GC := Lib.hid (fun w1 (h : Rd w1 a n c l) (h' : Rd w1 (some ⟨b', o', none⟩) 1 c' l') (hT1 : Tab w1) => gcd_n (h.toNm rfl hl) (h'.toNm rfl hl') hk hk hT1)
  have hg0 : Nat.gcd (nv l) (nv l') ≠ 0 := by
    intro e
    have := (Nat.gcd_eq_zero_iff.1 e).1
    omega
  have hgl : Nat.gcd (nv l) (nv l') < BB ^ k := Nat.lt_of_le_of_lt (Nat.gcd_le_left _ (by omega)) (Nat.lt_of_lt_of_le (nv_lt hx.lim) (Nat.pow_le_pow_right BB_pos hl))
  obtain ⟨G, hG⟩ : ∃ G, Nat.gcd (nv l) (nv l') = G := ⟨_, rfl⟩
  rw [hG] at GC hz hg0 hgl ⊢
  have BL := Lib.hid (fun w1 u (hu : Cn w1 u G) => bits_n (hu.nm hgl) (by omega))
  have hb := bl_one hg0
  rw [hz] at hb ⊢
  obtain ⟨B, hB⟩ : ∃ B : Nat, bl G = B := ⟨_, rfl⟩
  rw [hB] at BL hb
  clear hG hz hB hg0 hgl
  clear hx hx' hl hl' hT h1 h2
  go_enter Tryd.func42, Tryd.ntmps42
  obtain ⟨B_c0, B_c1, B_c2, -, -, -, -⟩ := id B_0.out
  go_wp2_with fail
  refine Calls.mono (V1.out _ X_0.out) ?_
  rintro e w1 ⟨rfl, k1⟩
  clear B_c0 B_c1 B_c2
  have X_1 := Lib.hid (X_0.out.keep k1)
  have X'_1 := Lib.hid (X'_0.out.keep k1)
  have T_1 := Lib.hid (T_0.out.keep k1)
  have B_1 := Lib.hid (B_0.out.keep k1)
  have KW_1 := Lib.hid (KW_0.out.trans k1)
  clear k1 X_0 X'_0 T_0 B_0 KW_0
  obtain ⟨B_c0, B_c1, B_c2, -, -, -, -⟩ := id B_1.out
  go_wp2_with fail
  refine Calls.mono (V2.out _ X'_1.out) ?_
  rintro e w2 ⟨rfl, k2⟩
  clear B_c0 B_c1 B_c2
  have X_2 := Lib.hid (X_1.out.keep k2)
  have X'_2 := Lib.hid (X'_1.out.keep k2)
  have T_2 := Lib.hid (T_1.out.keep k2)
  have B_2 := Lib.hid (B_1.out.keep k2)
  have KW_2 := Lib.hid (KW_1.out.trans k2)
  clear k2 X_1 X'_1 T_1 B_1 KW_1
  obtain ⟨B_c0, B_c1, B_c2, -, -, -, -⟩ := id B_2.out
  have cc := Rd.cell00 X'_2.out (by omega)
  rw [hxd.out] at cc
  go_wp2_with fail
  refine Calls.mono (GC.out _ X_2.out X'_2.out T_2.out) ?_
  clear cc
  rintro e w3 ⟨vg, rfl, hG, k3⟩
  clear B_c0 B_c1 B_c2
  have X_3 := Lib.hid (X_2.out.keep k3)
  have X'_3 := Lib.hid (X'_2.out.keep k3)
  have T_3 := Lib.hid (T_2.out.keep k3)
  have B_3 := Lib.hid (B_2.out.keep k3)
  have G_3 := Lib.hid hG
  have KW_3 := Lib.hid (KW_2.out.trans k3)
  clear k3 X_2 X'_2 T_2 B_2 hG KW_2
  obtain ⟨B_c0, B_c1, B_c2, -, -, -, -⟩ := id B_3.out
  go_wp2_with fail
  refine Calls.mono (BL.out _ _ G_3.out) ?_
  rintro e w4 ⟨rfl, k4⟩
  clear B_c0 B_c1 B_c2
  have X_4 := Lib.hid (X_3.out.keep k4)
  have X'_4 := Lib.hid (X'_3.out.keep k4)
  have T_4 := Lib.hid (T_3.out.keep k4)
  have B_4 := Lib.hid (B_3.out.keep k4)
  have G_4 := Lib.hid (G_3.out.keep k4)
  have KW_4 := Lib.hid (KW_3.out.trans k4)
  clear k4 X_3 X'_3 T_3 B_3 G_3 KW_3
  obtain ⟨B_c0, B_c1, B_c2, -, -, -, -⟩ := id B_4.out
  go_wp2_with fail
  go_ret
  exact ⟨rfl, KW_4.out⟩
set_option maxHeartbeats 800000 in
theorem valid_7 {w : World} {s : Bool} {a a' : Option Addr} {n c n' c' k : Nat} {l l' : List Nat} (hx : Rd w a n c l) (hx' : Rd w a' n' c' l') (hl : l.length ≤ k) (hl' : l'.length ≤ k) (hk : k ≤ 1048575) (hT : Tab w) (h1 : canB l = true) (h2 : canB l' = true) (h0 : n ≠ 0) (hN : nv l ≠ 0) (h3 : n' ≠ 0) (h4 : n' ≠ 1) :
    Calls Tryd.prog 42 #[.agg #[.bool s, .slice a n c, .slice a' n' c']] w (BPost (Nat.gcd (nv l) (nv l') == 1) w) := by
  have KW_0 := Lib.hid ((Keep.refl w).alloc (.cells #[.bool s, .slice a n c, .slice a' n' c'] 37))
  have B_0 := Lib.hid (QBox.new w s a n c a' n' c')
  have X_0 := Lib.hid (hx.below KW_0.out)
  have X'_0 := Lib.hid (hx'.below KW_0.out)
  have T_0 := Lib.hid (hT.keep KW_0.out)
  have V1 := Lib.hid (fun w1 (h : Rd w1 a n c l) => valid_n ⟨_, _, _, rfl, h⟩)
  have V2 := Lib.hid (fun w1 (h : Rd w1 a' n' c' l') => valid_n ⟨_, _, _, rfl, h⟩)
  have q1 := hx.le_cap
  have q2 := hx.cap_le
  have q3 := hx'.le_cap
  have q4 := hx'.cap_le
  rw [h1] at V1
  rw [h2] at V2
  have d1 : ((n : Int) == 0) = false := by simp; omega
  have d2 : ((n' : Int) == 0) = false := by simp; omega
  have d3 : ((n' : Int) == 1) = false := by simp; omega
  obtain ⟨z, hz⟩ : ∃ z, (Nat.gcd (nv l) (nv l') == 1) = z := ⟨_, rfl⟩
  have GC := Lib.hid (fun w1 (h : Rd w1 a n c l) (h' : Rd w1 a' n' c' l') (hT1 : Tab w1) => gcd_n (h.toNm rfl hl) (h'.toNm rfl hl') hk hk hT1)
  have hg0 : Nat.gcd (nv l) (nv l') ≠ 0 := by
    intro e
    have := (Nat.gcd_eq_zero_iff.1 e).1
    omega
  have hgl : Nat.gcd (nv l) (nv l') < BB ^ k := Nat.lt_of_le_of_lt (Nat.gcd_le_left _ (by omega)) (Nat.lt_of_lt_of_le (nv_lt hx.lim) (Nat.pow_le_pow_right BB_pos hl))
  obtain ⟨G, hG⟩ : ∃ G, Nat.gcd (nv l) (nv l') = G := ⟨_, rfl⟩
  rw [hG] at GC hz hg0 hgl ⊢
  have BL := Lib.hid (fun w1 u (hu : Cn w1 u G) => bits_n (hu.nm hgl) (by omega))
  have hb := bl_one hg0
  rw [hz] at hb ⊢
  obtain ⟨B, hB⟩ : ∃ B : Nat, bl G = B := ⟨_, rfl⟩
  rw [hB] at BL hb
  clear hG hz hB hg0 hgl
  clear hx hx' hl hl' hT h1 h2
  go_enter Tryd.func42, Tryd.ntmps42
  obtain ⟨B_c0, B_c1, B_c2, -, -, -, -⟩ := id B_0.out
  go_wp2_with fail
  refine Calls.mono (V1.out _ X_0.out) ?_
  rintro e w1 ⟨rfl, k1⟩
  clear B_c0 B_c1 B_c2
  have X_1 := Lib.hid (X_0.out.keep k1)
  have X'_1 := Lib.hid (X'_0.out.keep k1)
  have T_1 := Lib.hid (T_0.out.keep k1)
  have B_1 := Lib.hid (B_0.out.keep k1)
  have KW_1 := Lib.hid (KW_0.out.trans k1)
  clear k1 X_0 X'_0 T_0 B_0 KW_0
  obtain ⟨B_c0, B_c1, B_c2, -, -, -, -⟩ := id B_1.out
  go_wp2_with fail
  refine Calls.mono (V2.out _ X'_1.out) ?_
  rintro e w2 ⟨rfl, k2⟩
  clear B_c0 B_c1 B_c2
  have X_2 := Lib.hid (X_1.out.keep k2)
  have X'_2 := Lib.hid (X'_1.out.keep k2)
  have T_2 := Lib.hid (T_1.out.keep k2)
  have B_2 := Lib.hid (B_1.out.keep k2)
  have KW_2 := Lib.hid (KW_1.out.trans k2)
  clear k2 X_1 X'_1 T_1 B_1 KW_1
  obtain ⟨B_c0, B_c1, B_c2, -, -, -, -⟩ := id B_2.out
  go_wp2_with fail
  refine Calls.mono (GC.out _ X_2.out X'_2.out T_2.out) ?_
  rintro e w3 ⟨vg, rfl, hG, k3⟩
  clear B_c0 B_c1 B_c2
  have X_3 := Lib.hid (X_2.out.keep k3)
  have X'_3 := Lib.hid (X'_2.out.keep k3)
  have T_3 := Lib.hid (T_2.out.keep k3)
  have B_3 := Lib.hid (B_2.out.keep k3)
  have G_3 := Lib.hid hG
  have KW_3 := Lib.hid (KW_2.out.trans k3)
  clear k3 X_2 X'_2 T_2 B_2 hG KW_2
  obtain ⟨B_c0, B_c1, B_c2, -, -, -, -⟩ := id B_3.out
  go_wp2_with fail
  refine Calls.mono (BL.out _ _ G_3.out) ?_
  rintro e w4 ⟨rfl, k4⟩
  clear B_c0 B_c1 B_c2
  have X_4 := Lib.hid (X_3.out.keep k4)
  have X'_4 := Lib.hid (X'_3.out.keep k4)
  have T_4 := Lib.hid (T_3.out.keep k4)
  have B_4 := Lib.hid (B_3.out.keep k4)
  have G_4 := Lib.hid (G_3.out.keep k4)
  have KW_4 := Lib.hid (KW_3.out.trans k4)
  clear k4 X_3 X'_3 T_3 B_3 G_3 KW_3
  obtain ⟨B_c0, B_c1, B_c2, -, -, -, -⟩ := id B_4.out
  go_wp2_with fail
  go_ret
  exact ⟨rfl, KW_4.out⟩
theorem qvalid_c {w : World} {s : Bool} {a a' : Option Addr} {n c n' c' k : Nat} {l l' : List Nat} (hx : Rd w a n c l) (hx' : Rd w a' n' c' l') (hl : l.length ≤ k) (hl' : l'.length ≤ k) (hk : k ≤ 1048575) (hT : Tab w) :
    Calls Tryd.prog 42 #[.agg #[.bool s, .slice a n c, .slice a' n' c']] w (BPost (okQ s l l') w) := by
  have el := hx.len_eq
  have el' := hx'.len_eq
  rcases Bool.eq_false_or_eq_true (canB l) with h1 | h1
  · rcases Bool.eq_false_or_eq_true (canB l') with h2 | h2
    · by_cases h0 : n = 0
      · subst h0
        have hnil : l = [] := List.length_eq_zero_iff.1 el
        rw [ok3 hnil hx'.lim h2, el']
        cases s
        · exact valid_3f (n := 0) hx hx' hl hl' hk hT h1 h2
        · exact valid_3t (n := 0) hx hx' hl hl' hk hT h1 h2
      · have hN : nv l ≠ 0 := by
          intro e
          have := canB_of hx.lim h1
          rw [e, dig_zero] at this
          rw [← this] at el
          exact h0 el.symm
        by_cases h3 : n' = 0
        · subst h3
          have hnil : l' = [] := List.length_eq_zero_iff.1 el'
          rw [hnil, ok4 hx.lim h1 hN]
          rw [hnil] at hx' h2 hl'
          exact valid_4 (n' := 0) (a' := a') hx hx' hl hl' hk hT h1 h2 h0
        · have hD : nv l' ≠ 0 := by
            intro e
            have := canB_of hx'.lim h2
            rw [e, dig_zero] at this
            rw [← this] at el'
            exact h3 el'.symm
          by_cases h4 : n' = 1
          · subst h4
            obtain ⟨b, o, rfl, _, _⟩ := hx'.cell0 (by omega)
            have hsing : l' = [l'.getD 0 0] := by
              obtain ⟨x, hx9⟩ := List.length_eq_one_iff.1 el'
              rw [hx9]; rfl
            have hv : nv l' = l'.getD 0 0 := len_one el'
            by_cases h5 : l'.getD 0 0 = 1
            · rw [ok5 (by rw [hsing, h5])]
              exact valid_5 (n' := 1) (a' := none) hx hx' hl hl' hk hT h1 h2 h0 h5
            · rw [ok6 hx.lim hx'.lim h1 h2 hN (by omega)]
              exact valid_6 (n' := 1) (a' := none) hx hx' hl hl' hk hT h1 h2 h0 hN _ rfl h5
          · have h2' : 2 ≤ nv l' := by
              rcases Nat.lt_or_ge (nv l') 2 with h | h
              · have h6 := canB_of hx'.lim h2
                have h7 : (dig (nv l')).length ≤ 1 := dig_len_of (by rw [Nat.pow_one, BB_eq]; omega)
                rw [h6] at h7
                omega
              · exact h
            rw [ok6 hx.lim hx'.lim h1 h2 hN h2']
            exact valid_7 hx hx' hl hl' hk hT h1 h2 h0 hN h3 h4
    · rw [ok2 h2]; exact valid_2 hx hx' hl hl' hk hT h1 h2
  · rw [ok1 h1]; exact valid_1 hx hx' hl hl' hk hT h1
theorem okQ_self (q : Rat) : okQ (decide (q.num < 0)) (dig q.num.natAbs) (dig (wd q)) = true := by
  rw [okQ_iff, nv_dig, nv_dig, rv_wd]
  exact ⟨⟨rfl, rfl⟩, rfl⟩
theorem qvalid_t {w : World} {v : Value} {q : Rat} {k : Nat} (h : Cr w v q) (hq : Rb q k) (hk : k ≤ 1048575) (hT : Tab w) : Calls Tryd.prog 42 #[v] w (BPost true w) := by
  obtain ⟨a, n, c, a', n', c', rfl, _, _, h1, h2⟩ := h.form
  have H := qvalid_c (s := decide (q.num < 0)) h1 h2 (dig_len_of hq.1) (dig_len_of hq.wd) hk hT
  rw [okQ_self] at H
  exact H
end Go.Proofs.YtcdkehghdhcokaaDoor
