/- Walks of layer 2: the law of Divide. -/
import Derived.Test.YtjkfnnoakjdgmaaK
namespace Go.Proofs.Ytjkfnnoakjdgmaa
open Go.RowKit
set_option linter.unusedVariables false
theorem zq_facts {x y : Int} (hy : y ≠ 0) : zQ x y * y + zR x y = x ∧ 0 ≤ zR x y ∧ (zR x y).natAbs < y.natAbs ∧ (zQ x y).natAbs ≤ x.natAbs + 1 := by
  have e1 : zQ x y = x / y := if_neg hy
  have e2 : zR x y = x % y := if_neg hy
  rw [e1, e2]
  have h1 : y * (x / y) + x % y = x := Int.mul_ediv_add_emod x y
  have h2 := Int.emod_nonneg x hy
  have h3 : x % y < (y.natAbs : Int) := by
    have := Int.emod_lt x hy
    omega
  have h4 : x / y * y + x % y = x := by rw [Int.mul_comm]; exact h1
  refine ⟨h4, h2, by omega, ?_⟩
  have h5 : (x / y).natAbs * y.natAbs = (x / y * y).natAbs := (Int.natAbs_mul _ _).symm
  have h6 : (x / y * y).natAbs ≤ x.natAbs + y.natAbs := by omega
  by_cases h7 : (x / y).natAbs ≤ x.natAbs + 1
  · exact h7
  · exfalso
    have a1 : (x.natAbs + 2) * y.natAbs ≤ (x / y).natAbs * y.natAbs := Nat.mul_le_mul_right _ (by omega)
    have a2 : x.natAbs ≤ x.natAbs * y.natAbs := Nat.le_mul_of_pos_right _ (by omega)
    rw [Nat.add_mul] at a1
    omega
/-- the two results of a division in their boxes -/
theorem pr_cx {w : World} {u v : Value} {q r : Int} (hu : Ci w u q) (hv : Ci w v r) : ∃ b a n c b' a' n' c', u = .agg #[.bool b, .slice a n c] ∧ v = .agg #[.bool b', .slice a' n' c'] ∧
    Cx w.heap.size b a n c q (prW w b a n c b' a' n' c') ∧ Cx (w.heap.size + 1) b' a' n' c' r (prW w b a n c b' a' n' c') ∧ Keep w (prW w b a n c b' a' n' c') := by
  obtain ⟨a, n, c, rfl, _, hr⟩ := hu.form'
  obtain ⟨a', n', c', rfl, _, hr'⟩ := hv.form'
  obtain ⟨P0, P1, PK⟩ := pr_new w (decide (q < 0)) a n c (decide (r < 0)) a' n' c'
  exact ⟨_, a, n, c, _, a', n', c', rfl, rfl, ⟨⟨P0, hr.below PK⟩, rfl⟩, ⟨⟨P1, hr'.below PK⟩, rfl⟩, PK⟩
theorem ci_zero (w : World) : Ci w (.agg #[.bool false, .slice none 0 0]) 0 := ⟨.slice none 0 0, rfl, none, 0, 0, rfl, by rw [show dig (Int.natAbs 0) = [] from dig_zero]; exact Rd.nil w⟩
theorem two_boxes (w : World) (s : Bool) (a : Option Addr) (n c : Nat) (l : List Nat) (s' : Bool) (a' : Option Addr) (n' c' : Nat) (l' : List Nat) (hr : Rd w a n c l) (hr' : Rd w a' n' c' l') :
    Bx w.heap.size s a n c l ((w.alloc (.cells #[.bool s, .slice a n c] 25)).alloc (.cells #[.bool s', .slice a' n' c'] 25)) ∧
    Bx (w.heap.size + 1) s' a' n' c' l' ((w.alloc (.cells #[.bool s, .slice a n c] 25)).alloc (.cells #[.bool s', .slice a' n' c'] 25)) ∧
    Keep w ((w.alloc (.cells #[.bool s, .slice a n c] 25)).alloc (.cells #[.bool s', .slice a' n' c'] 25)) :=
  ⟨⟨(RBox.new w s a n c).keep ((Keep.refl _).alloc _), (hr.alloc _).alloc _⟩, ⟨(RBox.new (w.alloc _) s' a' n' c').at (sz1 _ _), (hr'.alloc _).alloc _⟩, ((Keep.refl w).alloc _).alloc _⟩
theorem mag_cmp {g g' : Nat} {b b' : Bool} {a a' : Option Addr} {n c n' c' : Nat} {l l' : List Nat} {w : World} {k k' : Nat} (h : Bx g b a n c l w) (h' : Bx g' b' a' n' c' l' w) (hk : l.length ≤ k) (hk' : l'.length ≤ k') :
    Calls Try.prog 33 #[.slice a n c, .slice a' n' c'] w fun e w' => e = .returned (.int .i64 (cmpv (nv l) (nv l'))) ∧ Keep w w' :=
  rcmp_n (h.rd.nm hk) (h'.rd.nm hk')
set_option maxHeartbeats 2000000 in
theorem law8_big1 {w : World} {s s2 : Bool} {a a2 : Option Addr} {len cap len2 cap2 : Nat} {l l2 : List Nat} (hr : Rd w a len cap l) (hr2 : Rd w a2 len2 cap2 l2) (hb : 6 < len) : Calls Try.prog 8 #[.agg #[.bool s, .slice a len cap], .agg #[.bool s2, .slice a2 len2 cap2]] w (BPost true w) := by
  obtain ⟨X0, Y0, K0⟩ := two_boxes w s a len cap l s2 a2 len2 cap2 l2 hr hr2
  have h5 := hr.le_cap
  have h6 := hr.cap_le
  have h7 := hr2.le_cap
  have h8 := hr2.cap_le
  have AW := Lib.hid (fun w1 => awake_c w1)
  have hd1 : decide ((6 : Int) < (len : Int)) = true := decide_eq_true (by omega)
  clear hr hr2
  go_enter Try.func8, Try.ntmps8
  go_wp2_with fail
  refine Calls.mono (AW.out _) ?_
  rintro e w1 ⟨rfl, k1⟩
  have X1 := X0.keep k1
  have Y1 := Y0.keep k1
  have K1 := K0.trans k1
  obtain ⟨⟨q0, q1, _, _, _⟩, _⟩ := id X1
  obtain ⟨⟨q2, q3, _, _, _⟩, _⟩ := id Y1
  clear X0 Y0 K0 k1
  have HK := Lib.hid K1
  clear X1 Y1 K1
  go_wp2
  go_ret
  exact ⟨rfl, HK.out⟩
set_option maxHeartbeats 2000000 in
theorem law8_big2 {w : World} {s s2 : Bool} {a a2 : Option Addr} {len cap len2 cap2 : Nat} {l l2 : List Nat} (hr : Rd w a len cap l) (hr2 : Rd w a2 len2 cap2 l2) (hb : ¬ 6 < len) (hb2 : 6 < len2) : Calls Try.prog 8 #[.agg #[.bool s, .slice a len cap], .agg #[.bool s2, .slice a2 len2 cap2]] w (BPost true w) := by
  obtain ⟨X0, Y0, K0⟩ := two_boxes w s a len cap l s2 a2 len2 cap2 l2 hr hr2
  have h5 := hr.le_cap
  have h6 := hr.cap_le
  have h7 := hr2.le_cap
  have h8 := hr2.cap_le
  have AW := Lib.hid (fun w1 => awake_c w1)
  have hd1 : decide ((6 : Int) < (len : Int)) = false := decide_eq_false (by omega)
  have hd2 : decide ((6 : Int) < (len2 : Int)) = true := decide_eq_true (by omega)
  clear hr hr2
  go_enter Try.func8, Try.ntmps8
  go_wp2_with fail
  refine Calls.mono (AW.out _) ?_
  rintro e w1 ⟨rfl, k1⟩
  have X1 := X0.keep k1
  have Y1 := Y0.keep k1
  have K1 := K0.trans k1
  obtain ⟨⟨q0, q1, _, _, _⟩, _⟩ := id X1
  obtain ⟨⟨q2, q3, _, _, _⟩, _⟩ := id Y1
  clear X0 Y0 K0 k1
  have HK := Lib.hid K1
  clear X1 Y1 K1
  go_wp2
  go_ret
  exact ⟨rfl, HK.out⟩
set_option maxHeartbeats 2000000 in
theorem law8_zero {w : World} {s s2 : Bool} {a a2 : Option Addr} {len cap len2 cap2 : Nat} {l l2 : List Nat} (hr : Rd w a len cap l) (hr2 : Rd w a2 len2 cap2 l2) (hb : ¬ 6 < len) (hb2 : ¬ 6 < len2) (hy : iv s2 (nv l2) = 0) : Calls Try.prog 8 #[.agg #[.bool s, .slice a len cap], .agg #[.bool s2, .slice a2 len2 cap2]] w (BPost true w) := by
  obtain ⟨X0, Y0, K0⟩ := two_boxes w s a len cap l s2 a2 len2 cap2 l2 hr hr2
  have h5 := hr.le_cap
  have h6 := hr.cap_le
  have h7 := hr2.le_cap
  have h8 := hr2.cap_le
  have AW := Lib.hid (fun w1 => awake_c w1)
  have hd1 : decide ((6 : Int) < (len : Int)) = false := decide_eq_false (by omega)
  have hd2 : decide ((6 : Int) < (len2 : Int)) = false := decide_eq_false (by omega)
  have hlen : l.length ≤ 6 := by rw [hr.len_eq]; omega
  have hlen2 : l2.length ≤ 6 := by rw [hr2.len_eq]; omega
  obtain ⟨z, hz⟩ : ∃ z, iv s (nv l) = z := ⟨_, rfl⟩
  have HZ := Lib.hid hz
  have HL := Lib.hid hlen
  have HL2 := Lib.hid hlen2
  have hzb : z.natAbs < BB ^ 6 := by rw [← hz, iv_abs']; exact Nat.lt_of_lt_of_le (nv_lt hr.lim) (Nat.pow_le_pow_right BB_pos hlen)
  have HY := Lib.hid hy
  have hQ0 : Hid (zQ z 0 = 0 ∧ zR z 0 = 0 ∧ zE 0 = 3) := Lib.hid ⟨rfl, rfl, rfl⟩
  clear hr hr2 hz hlen hlen2 hzb hy
  go_enter Try.func8, Try.ntmps8
  go_wp2_with fail
  refine Calls.mono (AW.out _) ?_
  rintro e w1 ⟨rfl, k1⟩
  have X1 := X0.keep k1
  have Y1 := Y0.keep k1
  have K1 := K0.trans k1
  obtain ⟨⟨q0, q1, _, _, _⟩, _⟩ := id X1
  obtain ⟨⟨q2, q3, _, _, _⟩, _⟩ := id Y1
  clear X0 Y0 K0 k1
  have DM := Lib.hid (dm_z (X1.iz HL.out) (Y1.iz HL2.out) (by omega) (by omega))
  rw [HZ.out, HY.out, hQ0.out.1, hQ0.out.2.1, hQ0.out.2.2] at DM
  go_wp2_with fail
  refine Calls.mono DM.out ?_
  rintro e w2 ⟨u, v, rfl, hu, hv, k2⟩
  obtain ⟨bq, aq, nq, cq, br, ar, nr, cr, rfl, rfl, Q2, R2, PK⟩ := pr_cx hu hv
  have k2p := k2.trans PK
  have X2 := X1.keep k2p
  have Y2 := Y1.keep k2p
  have K2 := K1.trans k2p
  unfold prW at *
  clear DM hu hv X1 Y1 K1 k2 PK k2p
  obtain ⟨⟨q4, q5, _, _, _⟩, _⟩ := id Y2
  have SG := Lib.hid (rsign_z (Y2.iz HL2.out) (by omega))
  rw [HY.out, show sgn 0 = 0 from rfl] at SG
  go_wp2_with fail
  refine Calls.mono SG.out ?_
  rintro e w3 ⟨rfl, k3⟩
  have X3 := X2.keep k3
  have Y3 := Y2.keep k3
  have Q3 := Q2.keep k3
  have R3 := R2.keep k3
  have K3 := K2.trans k3
  clear SG X2 Y2 Q2 R2 K2 k3
  obtain ⟨⟨s0, s1, _, _, _⟩, _⟩ := id Q3.bx
  go_wp2_with fail
  refine Calls.mono (isame_t Q3.ci (ci_zero _) rfl) ?_
  rintro e w4 ⟨rfl, k4⟩
  have R4 := R3.keep k4
  have K4 := K3.trans k4
  obtain ⟨⟨s2_, s3, _, _, _⟩, _⟩ := id R4.bx
  clear X3 Y3 Q3 R3 K3 k4
  go_wp2_with fail
  refine Calls.mono (isame_t R4.ci (ci_zero _) rfl) ?_
  rintro e w5 ⟨rfl, k5⟩
  have K5 := Lib.hid (K4.trans k5)
  clear R4 K4 k5
  go_wp2
  go_ret
  exact ⟨rfl, K5.out⟩
set_option maxHeartbeats 2000000 in
theorem law8_more {w : World} {s s2 : Bool} {a a2 : Option Addr} {len cap len2 cap2 : Nat} {l l2 : List Nat} (hr : Rd w a len cap l) (hr2 : Rd w a2 len2 cap2 l2) (hb : ¬ 6 < len) (hb2 : ¬ 6 < len2) (hy : iv s2 (nv l2) ≠ 0) : Calls Try.prog 8 #[.agg #[.bool s, .slice a len cap], .agg #[.bool s2, .slice a2 len2 cap2]] w (BPost true w) := by
  obtain ⟨X0, Y0, K0⟩ := two_boxes w s a len cap l s2 a2 len2 cap2 l2 hr hr2
  have h5 := hr.le_cap
  have h6 := hr.cap_le
  have h7 := hr2.le_cap
  have h8 := hr2.cap_le
  have AW := Lib.hid (fun w1 => awake_c w1)
  have hd1 : decide ((6 : Int) < (len : Int)) = false := decide_eq_false (by omega)
  have hd2 : decide ((6 : Int) < (len2 : Int)) = false := decide_eq_false (by omega)
  have hlen : l.length ≤ 6 := by rw [hr.len_eq]; omega
  have hlen2 : l2.length ≤ 6 := by rw [hr2.len_eq]; omega
  obtain ⟨z, hz⟩ : ∃ z, iv s (nv l) = z := ⟨_, rfl⟩
  have HZ := Lib.hid hz
  have HL := Lib.hid hlen
  have HL2 := Lib.hid hlen2
  have hzb : z.natAbs < BB ^ 6 := by rw [← hz, iv_abs']; exact Nat.lt_of_lt_of_le (nv_lt hr.lim) (Nat.pow_le_pow_right BB_pos hlen)
  obtain ⟨y, hye⟩ : ∃ y, iv s2 (nv l2) = y := ⟨_, rfl⟩
  rw [hye] at hy
  have HY := Lib.hid hye
  have hyb : y.natAbs < BB ^ 6 := by rw [← hye, iv_abs']; exact Nat.lt_of_lt_of_le (nv_lt hr2.lim) (Nat.pow_le_pow_right BB_pos hlen2)
  have hyn : y.natAbs = nv l2 := by rw [← hye, iv_abs']
  obtain ⟨f1, f2, f3, f4⟩ := zq_facts (x := z) hy
  have hE : zE y = 0 := if_neg hy
  obtain ⟨zq, hzq⟩ : ∃ q, zQ z y = q := ⟨_, rfl⟩
  obtain ⟨zr, hzr⟩ : ∃ r, zR z y = r := ⟨_, rfl⟩
  rw [hzq, hzr] at f1
  rw [hzr] at f2 f3
  rw [hzq] at f4
  have HQR : Hid (zQ z y = zq ∧ zR z y = zr ∧ zE y = 0) := Lib.hid ⟨hzq, hzr, hE⟩
  have hqb : zq.natAbs < BB ^ 7 := by
    have : BB ^ 7 = BB ^ 6 * BB := Nat.pow_succ ..
    have h2 : BB ^ 6 * 2 ≤ BB ^ 6 * BB := Nat.mul_le_mul_left _ (by decide)
    have h3 : 0 < BB ^ 6 := Nat.pow_pos BB_pos
    omega
  have HQL : Hid ((dig zq.natAbs).length ≤ 7) := Lib.hid (dig_len_of hqb)
  have HRL : Hid ((dig zr.natAbs).length ≤ 6) := Lib.hid (dig_len_of (by omega))
  have HMB : Hid ((zq * y).natAbs < BB ^ 13) := Lib.hid (by rw [Int.natAbs_mul]; exact mul_lt hqb hyb)
  have HSUM := Lib.hid f1
  have HZB := Lib.hid hzb
  have HCM : Hid (cmpv zr.natAbs (nv l2) = -1) := Lib.hid (cmpv_lt (by omega))
  have HCC : Hid (zC z z = 0) := Lib.hid (by unfold zC; rw [if_neg (by omega), if_pos rfl])
  obtain ⟨ρ, hρ⟩ : ∃ r, sgn zr = r := ⟨_, rfl⟩
  have hρ0 : 0 ≤ ρ := by rcases sgn_facts zr with h | h | h <;> omega
  have hρd : decide (0 ≤ ρ) = true := decide_eq_true hρ0
  have HS := Lib.hid hρ
  obtain ⟨σ, hσ⟩ : ∃ r, sgn y = r := ⟨_, rfl⟩
  have hσ0 : (σ == 0) = false := by
    have : σ ≠ 0 := by rcases sgn_facts y with h | h | h <;> omega
    simpa using this
  have HSY := Lib.hid hσ
  clear hr hr2 hz hlen hlen2 hzb hy hye hyb hyn f1 f2 f3 f4 hE hzq hzr hqb hρ hσ
  go_enter Try.func8, Try.ntmps8
  go_wp2_with fail
  refine Calls.mono (AW.out _) ?_
  rintro e w1 ⟨rfl, k1⟩
  have X1 := X0.keep k1
  have Y1 := Y0.keep k1
  have K1 := K0.trans k1
  obtain ⟨⟨q0, q1, _, _, _⟩, _⟩ := id X1
  obtain ⟨⟨q2, q3, _, _, _⟩, _⟩ := id Y1
  clear X0 Y0 K0 k1
  have DM := Lib.hid (dm_z (X1.iz HL.out) (Y1.iz HL2.out) (by omega) (by omega))
  rw [HZ.out, HY.out, HQR.out.1, HQR.out.2.1, HQR.out.2.2] at DM
  go_wp2_with fail
  refine Calls.mono DM.out ?_
  rintro e w2 ⟨u, v, rfl, hu, hv, k2⟩
  obtain ⟨bq, aq, nq, cq, br, ar, nr, cr, rfl, rfl, Q2, R2, PK⟩ := pr_cx hu hv
  have k2p := k2.trans PK
  have X2 := X1.keep k2p
  have Y2 := Y1.keep k2p
  have K2 := K1.trans k2p
  unfold prW at *
  clear DM hu hv X1 Y1 K1 k2 PK k2p
  obtain ⟨⟨q4, q5, _, _, _⟩, _⟩ := id Y2
  have SG := Lib.hid (rsign_z (Y2.iz HL2.out) (by omega))
  rw [HY.out, HSY.out] at SG
  go_wp2_with fail
  refine Calls.mono SG.out ?_
  rintro e w3 ⟨rfl, k3⟩
  have X3 := X2.keep k3
  have Y3 := Y2.keep k3
  have Q3 := Q2.keep k3
  have R3 := R2.keep k3
  have K3 := K2.trans k3
  clear SG X2 Y2 Q2 R2 K2 k3
  have x_0 := Lib.hid (X3.keep (keep_drew _))
  have y_0 := Lib.hid (Y3.keep (keep_drew _))
  have vq_0 := Lib.hid (Q3.keep (keep_drew _))
  have vr_0 := Lib.hid (R3.keep (keep_drew _))
  have bw_0 := Lib.hid (K3.trans (keep_drew _))
  obtain ⟨p0, p1, _, _, _⟩ := x_0.out.box
  obtain ⟨p2, p3, _, _, _⟩ := y_0.out.box
  obtain ⟨p4, p5, _, _, _⟩ := vq_0.out.bx.box
  obtain ⟨p6, p7, _, _, _⟩ := vr_0.out.bx.box
  obtain ⟨⟨s0, s1, _, _, _⟩, _⟩ := X3
  obtain ⟨⟨s2_, s3, _, _, _⟩, _⟩ := Y3
  obtain ⟨⟨⟨s4, s5, _, _, _⟩, _⟩, _⟩ := Q3
  obtain ⟨⟨⟨s6, s7, _, _, _⟩, _⟩, _⟩ := R3
  clear K3
  go_wp2
  go_region_held3 (fun w' => w'.cell? ⟨w.heap.size, 0, none⟩ = some (.bool s) ∧ w'.cell? ⟨w.heap.size, 1, none⟩ = some (.slice a len cap) ∧ w'.cell? ⟨(w.heap.size + 1), 0, none⟩ = some (.bool s2) ∧ w'.cell? ⟨(w.heap.size + 1), 1, none⟩ = some (.slice a2 len2 cap2) ∧ w'.cell? ⟨w2.heap.size, 0, none⟩ = some (.bool bq) ∧ w'.cell? ⟨w2.heap.size, 1, none⟩ = some (.slice aq nq cq) ∧ w'.cell? ⟨(w2.heap.size + 1), 0, none⟩ = some (.bool br) ∧ w'.cell? ⟨(w2.heap.size + 1), 1, none⟩ = some (.slice ar nr cr)) (first | exact ⟨x_7_0, x_7_1, y_7_0, y_7_1, vq_7_0, vq_7_1, vr_7_0, vr_7_1⟩ | exact ⟨x_6_0, x_6_1, y_6_0, y_6_1, vq_6_0, vq_6_1, vr_6_0, vr_6_1⟩ | exact ⟨x_5_0, x_5_1, y_5_0, y_5_1, vq_5_0, vq_5_1, vr_5_0, vr_5_1⟩ | exact ⟨x_4_0, x_4_1, y_4_0, y_4_1, vq_4_0, vq_4_1, vr_4_0, vr_4_1⟩ | exact ⟨x_3_0, x_3_1, y_3_0, y_3_1, vq_3_0, vq_3_1, vr_3_0, vr_3_1⟩ | exact ⟨x_2_0, x_2_1, y_2_0, y_2_1, vq_2_0, vq_2_1, vr_2_0, vr_2_1⟩ | exact ⟨x_1_0, x_1_1, y_1_0, y_1_1, vq_1_0, vq_1_1, vr_1_0, vr_1_1⟩ | go_keep)
    (first
      | (go_at_call 31; ((with_reducible refine Calls.mono ((by have H := rcmp_z (U_6.out.iz (k := 6) HZB.out) (x_6.out.iz HL.out) (by omega) (by omega); rw [HZ.out, HCC.out] at H; exact H)) ?_); rintro e w_7 ⟨rfl, k_7⟩; have x_7 := Lib.hid (x_6.out.keep k_7); obtain ⟨x_7_0, x_7_1, _, _, _⟩ := x_7.out.box; have y_7 := Lib.hid (y_6.out.keep k_7); obtain ⟨y_7_0, y_7_1, _, _, _⟩ := y_7.out.box; have vq_7 := Lib.hid (vq_6.out.keep k_7); obtain ⟨vq_7_0, vq_7_1, _, _, _⟩ := vq_7.out.bx.box; have vr_7 := Lib.hid (vr_6.out.keep k_7); obtain ⟨vr_7_0, vr_7_1, _, _, _⟩ := vr_7.out.bx.box; have bw_7 := Lib.hid (bw_6.out.trans k_7); clear k_7))
      | (go_at_call 24; ((with_reducible refine Calls.mono ((by have H := radd_z (U_5.out.iz (k := 13) HMB.out) (vr_5.out.iz HRL.out) (by omega) (by omega); rw [HSUM.out] at H; exact H)) ?_); rintro e w_6 ⟨u6, rfl, hu, k_6⟩; have x_6 := Lib.hid (x_5.out.keep k_6); obtain ⟨x_6_0, x_6_1, _, _, _⟩ := x_6.out.box; have y_6 := Lib.hid (y_5.out.keep k_6); obtain ⟨y_6_0, y_6_1, _, _, _⟩ := y_6.out.box; have vq_6 := Lib.hid (vq_5.out.keep k_6); obtain ⟨vq_6_0, vq_6_1, _, _, _⟩ := vq_6.out.bx.box; have vr_6 := Lib.hid (vr_5.out.keep k_6); obtain ⟨vr_6_0, vr_6_1, _, _, _⟩ := vr_6.out.bx.box; have bw_6 := Lib.hid (bw_5.out.trans k_6); have U_6 := Lib.hid hu; clear hu; clear k_6))
      | (go_at_call 29; ((with_reducible refine Calls.mono ((by have H := rmul_z (vq_4.out.iz HQL.out) (y_4.out.iz HL2.out) (by omega) (by omega); rw [HY.out] at H; exact H)) ?_); rintro e w_5 ⟨u5, rfl, hu, k_5⟩; have x_5 := Lib.hid (x_4.out.keep k_5); obtain ⟨x_5_0, x_5_1, _, _, _⟩ := x_5.out.box; have y_5 := Lib.hid (y_4.out.keep k_5); obtain ⟨y_5_0, y_5_1, _, _, _⟩ := y_5.out.box; have vq_5 := Lib.hid (vq_4.out.keep k_5); obtain ⟨vq_5_0, vq_5_1, _, _, _⟩ := vq_5.out.bx.box; have vr_5 := Lib.hid (vr_4.out.keep k_5); obtain ⟨vr_5_0, vr_5_1, _, _, _⟩ := vr_5.out.bx.box; have bw_5 := Lib.hid (bw_4.out.trans k_5); have U_5 := Lib.hid hu; clear hu; clear k_5))
      | (go_at_call 33; ((with_reducible refine Calls.mono ((by have H := mag_cmp vr_3.out.bx y_3.out HRL.out HL2.out; rw [nv_dig, HCM.out] at H; exact H)) ?_); rintro e w_4 ⟨rfl, k_4⟩; have x_4 := Lib.hid (x_3.out.keep k_4); obtain ⟨x_4_0, x_4_1, _, _, _⟩ := x_4.out.box; have y_4 := Lib.hid (y_3.out.keep k_4); obtain ⟨y_4_0, y_4_1, _, _, _⟩ := y_4.out.box; have vq_4 := Lib.hid (vq_3.out.keep k_4); obtain ⟨vq_4_0, vq_4_1, _, _, _⟩ := vq_4.out.bx.box; have vr_4 := Lib.hid (vr_3.out.keep k_4); obtain ⟨vr_4_0, vr_4_1, _, _, _⟩ := vr_4.out.bx.box; have bw_4 := Lib.hid (bw_3.out.trans k_4); clear k_4))
      | (go_at_call 17; ((with_reducible refine Calls.mono ((by have H := rsign_z (vr_2.out.iz HRL.out) (by omega); rw [HS.out] at H; exact H)) ?_); rintro e w_3 ⟨rfl, k_3⟩; have x_3 := Lib.hid (x_2.out.keep k_3); obtain ⟨x_3_0, x_3_1, _, _, _⟩ := x_3.out.box; have y_3 := Lib.hid (y_2.out.keep k_3); obtain ⟨y_3_0, y_3_1, _, _, _⟩ := y_3.out.box; have vq_3 := Lib.hid (vq_2.out.keep k_3); obtain ⟨vq_3_0, vq_3_1, _, _, _⟩ := vq_3.out.bx.box; have vr_3 := Lib.hid (vr_2.out.keep k_3); obtain ⟨vr_3_0, vr_3_1, _, _, _⟩ := vr_3.out.bx.box; have bw_3 := Lib.hid (bw_2.out.trans k_3); clear k_3))
      | (go_at_call_of 14 (Value.agg #[Value.bool br, Value.slice ar nr cr]); ((with_reducible refine Calls.mono (vr_1.out.valid) ?_); rintro e w_2 ⟨rfl, k_2⟩; have x_2 := Lib.hid (x_1.out.keep k_2); obtain ⟨x_2_0, x_2_1, _, _, _⟩ := x_2.out.box; have y_2 := Lib.hid (y_1.out.keep k_2); obtain ⟨y_2_0, y_2_1, _, _, _⟩ := y_2.out.box; have vq_2 := Lib.hid (vq_1.out.keep k_2); obtain ⟨vq_2_0, vq_2_1, _, _, _⟩ := vq_2.out.bx.box; have vr_2 := Lib.hid (vr_1.out.keep k_2); obtain ⟨vr_2_0, vr_2_1, _, _, _⟩ := vr_2.out.bx.box; have bw_2 := Lib.hid (bw_1.out.trans k_2); clear k_2))
      | (go_at_call_of 14 (Value.agg #[Value.bool bq, Value.slice aq nq cq]); ((with_reducible refine Calls.mono (vq_0.out.valid) ?_); rintro e w_1 ⟨rfl, k_1⟩; have x_1 := Lib.hid (x_0.out.keep k_1); obtain ⟨x_1_0, x_1_1, _, _, _⟩ := x_1.out.box; have y_1 := Lib.hid (y_0.out.keep k_1); obtain ⟨y_1_0, y_1_1, _, _, _⟩ := y_1.out.box; have vq_1 := Lib.hid (vq_0.out.keep k_1); obtain ⟨vq_1_0, vq_1_1, _, _, _⟩ := vq_1.out.bx.box; have vr_1 := Lib.hid (vr_0.out.keep k_1); obtain ⟨vr_1_0, vr_1_1, _, _, _⟩ := vr_1.out.bx.box; have bw_1 := Lib.hid (bw_0.out.trans k_1); clear k_1)))
  all_goals
    go_wp2
    go_ret
    exact ⟨rfl, bw_7.out⟩
theorem law8_c {w : World} {s s2 : Bool} {a a2 : Option Addr} {len cap len2 cap2 : Nat} {l l2 : List Nat} (hr : Rd w a len cap l) (hr2 : Rd w a2 len2 cap2 l2) : Calls Try.prog 8 #[.agg #[.bool s, .slice a len cap], .agg #[.bool s2, .slice a2 len2 cap2]] w (BPost true w) := by
  by_cases h : 6 < len
  · exact law8_big1 hr hr2 h
  · by_cases h2 : 6 < len2
    · exact law8_big2 hr hr2 h h2
    · by_cases h3 : iv s2 (nv l2) = 0
      · exact law8_zero hr hr2 h h2 h3
      · exact law8_more hr hr2 h h2 h3
end Go.Proofs.Ytjkfnnoakjdgmaa
