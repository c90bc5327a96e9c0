/- Walks of layer 2: the laws of Make, Neg. -/
import Derived.Test.YtjkfnnoakjdgmaaG
namespace Go.Proofs.Ytjkfnnoakjdgmaa
open Go.RowKit
set_option linter.unusedVariables false
/-- a block that holds a struct whose limbs are l -/
structure Bx (g : Nat) (b : Bool) (a : Option Addr) (n c : Nat) (l : List Nat) (w : World) : Prop where
  box : RBox g (.bool b) (.slice a n c) w
  rd : Rd w a n c l
theorem Bx.keep {g : Nat} {b : Bool} {a : Option Addr} {n c : Nat} {l : List Nat} {w w' : World} (h : Bx g b a n c l w) (k : Keep w w') : Bx g b a n c l w' := ⟨h.box.keep k, h.rd.below k⟩
theorem Bx.iz {g : Nat} {b : Bool} {a : Option Addr} {n c : Nat} {l : List Nat} {w : World} {k : Nat} (h : Bx g b a n c l w) (hk : l.length ≤ k) : Iz w (.agg #[.bool b, .slice a n c]) (iv b (nv l)) k := ⟨b, nv l, rfl, _, rfl, h.rd.nm hk⟩
theorem canB_dig (n : Nat) : canB (dig n) = true := by
  by_cases h : n = 0
  · subst h; rw [dig_zero]; rfl
  · have := dig_top h
    unfold canB
    rw [Bool.or_eq_true]
    right
    rw [bne_iff_ne]
    exact this
theorem canI_z (z : Int) : canI (decide (z < 0)) (dig z.natAbs) = true := by
  unfold canI
  rw [canB_dig]
  by_cases h : z < 0
  · have : (dig z.natAbs).length ≠ 0 := by rw [Ne, dig_len_pos]; omega
    simp [this]
  · simp [h]
/-- a block that holds the canonical form of z -/
structure Cx (g : Nat) (b : Bool) (a : Option Addr) (n c : Nat) (z : Int) (w : World) : Prop where
  bx : Bx g b a n c (dig z.natAbs) w
  sg : decide (z < 0) = b
theorem Cx.keep {g : Nat} {b : Bool} {a : Option Addr} {n c : Nat} {z : Int} {w w' : World} (h : Cx g b a n c z w) (k : Keep w w') : Cx g b a n c z w' := ⟨h.bx.keep k, h.sg⟩
theorem Cx.ci {g : Nat} {b : Bool} {a : Option Addr} {n c : Nat} {z : Int} {w : World} (h : Cx g b a n c z w) : Ci w (.agg #[.bool b, .slice a n c]) z := ⟨.slice a n c, by rw [h.sg], a, n, c, rfl, h.bx.rd⟩
theorem Cx.valid {g : Nat} {b : Bool} {a : Option Addr} {n c : Nat} {z : Int} {w : World} (h : Cx g b a n c z w) : Calls Try.prog 14 #[.agg #[.bool b, .slice a n c]] w (BPost true w) := by
  have H := ivalid_c (s := b) h.bx.rd
  have hb : canI b (dig z.natAbs) = true := by rw [← h.sg]; exact canI_z z
  rw [hb] at H
  exact H
theorem Ci.box {w : World} {v : Value} {z : Int} (h : Ci w v z) : ∃ b a n c, v = .agg #[.bool b, .slice a n c] ∧ Cx w.heap.size b a n c z (w.alloc (.cells #[.bool b, .slice a n c] 25)) := by
  obtain ⟨a, n, c, rfl, _, hr⟩ := h.form'
  exact ⟨_, a, n, c, rfl, ⟨RBox.new w _ a n c, hr.alloc _⟩, rfl⟩
theorem keep_new (w : World) (o : Obj) : Keep w (w.alloc o).drew := ((Keep.refl w).alloc o).drew
theorem keep_drew (w : World) : Keep w w.drew := (Keep.refl w).drew
set_option maxHeartbeats 1000000 in
theorem law3_big {w : World} {s : Bool} {a : Option Addr} {len cap : Nat} {l : List Nat} (hr : Rd w a len cap l) (hb : 30 < len) : Calls Try.prog 3 #[.agg #[.bool s, .slice a len cap]] w (BPost true w) := by
  have K0 : Keep w (w.alloc (.cells #[.bool s, .slice a len cap] 25)) := (Keep.refl w).alloc _
  have B0 := RBox.new w s a len cap
  have h5 := hr.le_cap
  have h6 := hr.cap_le
  have hd : decide ((30 : Int) < (len : Int)) = true := decide_eq_true (by omega)
  have AW := Lib.hid (fun w1 => awake_c w1)
  clear hr
  go_enter Try.func3, Try.ntmps3
  go_wp2_with fail
  refine Calls.mono (AW.out _) ?_
  rintro e w1 ⟨rfl, k1⟩
  obtain ⟨q0, q1, _, _, _⟩ := B0.keep k1
  have HK := Lib.hid (K0.trans k1)
  clear K0 B0 k1
  go_wp2
  go_ret
  exact ⟨rfl, HK.out⟩
set_option maxHeartbeats 2000000 in
theorem law3_small {w : World} {s : Bool} {a : Option Addr} {len cap : Nat} {l : List Nat} (hr : Rd w a len cap l) (hb : ¬ 30 < len) : Calls Try.prog 3 #[.agg #[.bool s, .slice a len cap]] w (BPost true w) := by
  have X0 : Bx w.heap.size s a len cap l (w.alloc (.cells #[.bool s, .slice a len cap] 25)) := ⟨RBox.new w s a len cap, hr.alloc _⟩
  have K0 : Keep w (w.alloc (.cells #[.bool s, .slice a len cap] 25)) := (Keep.refl w).alloc _
  have h5 := hr.le_cap
  have h6 := hr.cap_le
  have hlen : l.length ≤ 30 := by rw [hr.len_eq]; omega
  have hd : decide ((30 : Int) < (len : Int)) = false := decide_eq_false (by omega)
  have AW := Lib.hid (fun w1 => awake_c w1)
  obtain ⟨z, hz⟩ : ∃ z, iv s (nv l) = z := ⟨_, rfl⟩
  have HZ := Lib.hid hz
  have HL := Lib.hid hlen
  clear hr hz hlen
  go_enter Try.func3, Try.ntmps3
  go_wp2_with fail
  refine Calls.mono (AW.out _) ?_
  rintro e w1 ⟨rfl, k1⟩
  have X1 := X0.keep k1
  have K1 := K0.trans k1
  obtain ⟨q0, q1, _, _, _⟩ := X1.box
  clear X0 K0 k1
  have MK := Lib.hid (imake_c s (X1.rd.nm HL.out) (by omega))
  rw [HZ.out] at MK
  go_wp2_with fail
  refine Calls.mono MK.out ?_
  rintro e w2 ⟨v, rfl, hv, k2⟩
  obtain ⟨b, va, vn, vc, rfl, V2⟩ := hv.box
  have X2 := X1.keep k2
  have K2 := K1.trans k2
  have x_0 := Lib.hid (X2.keep (keep_new w2 (.cells #[.bool b, .slice va vn vc] 25)))
  have v_0 := Lib.hid (V2.keep (keep_drew _))
  have bw_0 := Lib.hid (K2.trans (keep_new w2 (.cells #[.bool b, .slice va vn vc] 25)))
  obtain ⟨p0, p1, _, _, _⟩ := x_0.out.box
  obtain ⟨p2, p3, _, _, _⟩ := v_0.out.bx.box
  obtain ⟨r0, r1, _, _, _⟩ := X2.box
  clear X1 K1 k2 hv V2 X2 K2
  go_wp2
  go_region_held3 (fun w' => w'.cell? ⟨w.heap.size, 0, none⟩ = some (.bool s) ∧ w'.cell? ⟨w.heap.size, 1, none⟩ = some (.slice a len cap) ∧ w'.cell? ⟨w2.heap.size, 0, none⟩ = some (.bool b) ∧ w'.cell? ⟨w2.heap.size, 1, none⟩ = some (.slice va vn vc)) (first | exact ⟨x_7_0, x_7_1, v_7_0, v_7_1⟩ | exact ⟨x_6_0, x_6_1, v_6_0, v_6_1⟩ | exact ⟨x_5_0, x_5_1, v_5_0, v_5_1⟩ | exact ⟨x_4_0, x_4_1, v_4_0, v_4_1⟩ | exact ⟨x_3_0, x_3_1, v_3_0, v_3_1⟩ | exact ⟨x_2_0, x_2_1, v_2_0, v_2_1⟩ | exact ⟨x_1_0, x_1_1, v_1_0, v_1_1⟩ | go_keep)
    (first
      | (go_at_call_of 17 (Value.agg #[Value.bool s, Value.slice a len cap]); ((with_reducible refine Calls.mono (rsign_z (x_6.out.iz HL.out) (by omega)) ?_); rintro e w_7 ⟨rfl, k_7⟩; have x_7 := Lib.hid (x_6.out.keep k_7); obtain ⟨x_7_0, x_7_1, _, _, _⟩ := x_7.out.box; have v_7 := Lib.hid (v_6.out.keep k_7); obtain ⟨v_7_0, v_7_1, _, _, _⟩ := v_7.out.bx.box; have bw_7 := Lib.hid (bw_6.out.trans k_7); clear k_7))
      | (go_at_call_of 16 (Value.agg #[Value.bool s, Value.slice a len cap]); ((with_reducible refine Calls.mono (sign_z (x_5.out.iz HL.out) (by omega)) ?_); rintro e w_6 ⟨rfl, k_6⟩; have x_6 := Lib.hid (x_5.out.keep k_6); obtain ⟨x_6_0, x_6_1, _, _, _⟩ := x_6.out.box; have v_6 := Lib.hid (v_5.out.keep k_6); obtain ⟨v_6_0, v_6_1, _, _, _⟩ := v_6.out.bx.box; have bw_6 := Lib.hid (bw_5.out.trans k_6); clear k_6))
      | (go_at_call_of 14 (Value.agg #[Value.bool b, Value.slice va vn vc]); ((with_reducible refine Calls.mono (v_4.out.valid) ?_); rintro e w_5 ⟨rfl, k_5⟩; have x_5 := Lib.hid (x_4.out.keep k_5); obtain ⟨x_5_0, x_5_1, _, _, _⟩ := x_5.out.box; have v_5 := Lib.hid (v_4.out.keep k_5); obtain ⟨v_5_0, v_5_1, _, _, _⟩ := v_5.out.bx.box; have bw_5 := Lib.hid (bw_4.out.trans k_5); clear k_5))
      | (go_at_call_of 15 (Value.agg #[Value.bool s, Value.slice a len cap]); ((with_reducible refine Calls.mono (rivalid_c x_3.out.rd) ?_); rintro e w_4 ⟨rfl, k_4⟩; have x_4 := Lib.hid (x_3.out.keep k_4); obtain ⟨x_4_0, x_4_1, _, _, _⟩ := x_4.out.box; have v_4 := Lib.hid (v_3.out.keep k_4); obtain ⟨v_4_0, v_4_1, _, _, _⟩ := v_4.out.bx.box; have bw_4 := Lib.hid (bw_3.out.trans k_4); clear k_4))
      | (go_at_call_of 14 (Value.agg #[Value.bool s, Value.slice a len cap]); ((with_reducible refine Calls.mono (ivalid_c x_2.out.rd) ?_); rintro e w_3 ⟨rfl, k_3⟩; have x_3 := Lib.hid (x_2.out.keep k_3); obtain ⟨x_3_0, x_3_1, _, _, _⟩ := x_3.out.box; have v_3 := Lib.hid (v_2.out.keep k_3); obtain ⟨v_3_0, v_3_1, _, _, _⟩ := v_3.out.bx.box; have bw_3 := Lib.hid (bw_2.out.trans k_3); clear k_3))
      | (go_at_call 12; ((with_reducible refine Calls.mono (isame_t v_1.out.ci U_1.out rfl) ?_); rintro e w_2 ⟨rfl, k_2⟩; have x_2 := Lib.hid (x_1.out.keep k_2); obtain ⟨x_2_0, x_2_1, _, _, _⟩ := x_2.out.box; have v_2 := Lib.hid (v_1.out.keep k_2); obtain ⟨v_2_0, v_2_1, _, _, _⟩ := v_2.out.bx.box; have bw_2 := Lib.hid (bw_1.out.trans k_2); clear k_2))
      | (go_at_call 13; ((with_reducible refine Calls.mono ((by have H := rimake_c s (x_0.out.rd.nm HL.out) (by omega); rw [HZ.out] at H; exact H)) ?_); rintro e w_1 ⟨u, rfl, hu, k_1⟩; have x_1 := Lib.hid (x_0.out.keep k_1); obtain ⟨x_1_0, x_1_1, _, _, _⟩ := x_1.out.box; have v_1 := Lib.hid (v_0.out.keep k_1); obtain ⟨v_1_0, v_1_1, _, _, _⟩ := v_1.out.bx.box; have bw_1 := Lib.hid (bw_0.out.trans k_1); have U_1 := Lib.hid hu; clear hu; clear k_1)))
  all_goals
    go_wp2
    go_ret
    exact ⟨rfl, bw_7.out⟩
theorem law3_c {w : World} {s : Bool} {a : Option Addr} {len cap : Nat} {l : List Nat} (hr : Rd w a len cap l) : Calls Try.prog 3 #[.agg #[.bool s, .slice a len cap]] w (BPost true w) := by
  by_cases h : 30 < len
  · exact law3_big hr h
  · exact law3_small hr h
end Go.Proofs.Ytjkfnnoakjdgmaa
