/- The law of uniqueness. -/
import Derived.Test.YtcdkehghdhcokaaDoorX17
import Derived.Test.YtcdkehghdhcokaaDoorW22
import Derived.Test.YtcdkehghdhcokaaDoorW12
import Derived.Deep.RegionHeld3
import Derived.Deep.Cut
namespace Go.Proofs.YtcdkehghdhcokaaDoor.wr
open Go.RowKit
set_option linter.unusedVariables false

set_option linter.unusedSimpArgs false
theorem zz_uzz {m : Nat} (h : m < 18446744073709551616) : zz (uzz m) = m ∧ -9223372036854775808 ≤ uzz m ∧ uzz m ≤ 9223372036854775807 := by
  unfold uzz zz
  by_cases h0 : m % 2 = 0
  · rw [if_pos h0, if_pos (by omega)]
    omega
  · rw [if_neg h0, if_neg (by omega)]
    omega
theorem pre_sl {w : World} {a : Option Addr} {n c p : Nat} {L A T : List Int} (h : SlB w a n c L) (e : L = A ++ T) (hp : A.length = p) : SlB w a p c A := by
  subst e
  have hl := h.1
  rw [List.length_append] at hl
  refine ⟨hp, by have := h.2.1; omega, h.2.2.1, fun h0 => ⟨by have := (h.2.2.2.1 h0).1; omega, (h.2.2.2.1 h0).2⟩, ?_⟩
  by_cases h0 : p = 0
  · exact .inl h0
  · obtain ⟨b, off, ea, hb, hc⟩ := h.at (by omega)
    refine .inr ⟨b, off, ea, hb, fun i hi => ?_⟩
    rw [hc i (by omega), List.getD_eq_getElem?_getD, List.getD_eq_getElem?_getD, List.getElem?_append_left (by omega)]
theorem nums_str {B : List Int} (h : Bytes B) : nums (strOfNums B) = B := by
  unfold nums
  rw [strOfNums_data, List.map_map]
  conv => rhs; rw [← List.map_id B]
  apply List.map_congr_left
  intro x hx
  have := h x hx
  simp
  omega
theorem tk_cases {L : List Int} (hb : Bytes L) : tk (some L) = ([], 5, none) ∨ ∃ B T, tk (some L) = (B, 0, some T) ∧ L = (grp B.length ++ B) ++ T := by
  cases hd : dec L with
  | none => exact .inl (tk_none hd)
  | some p =>
    obtain ⟨m, T⟩ := p
    rw [tk_some hd]
    by_cases h1 : T.length < m
    · rw [if_pos h1]; exact .inl rfl
    · rw [if_neg h1]
      refine .inr ⟨_, _, rfl, ?_⟩
      rw [List.length_take, Nat.min_eq_left (by omega), List.append_assoc, List.take_append_drop]
      exact (dec_grp hb hd).1
theorem rR_cases {L : List Int} {sg : Bool} {l1 l2 : List Int} {er : Int} {s3 : Option (List Int)} (hb : Bytes L) (h : rR (some L) = ((sg, l1, l2), er, s3)) :
    (er = 5 ∧ l1 = [] ∧ l2 = [] ∧ s3 = none) ∨ ∃ T, er = 0 ∧ s3 = some T ∧ L = ([if sg then 1 else 0] ++ nb l1 ++ nb l2) ++ T := by
  have bad : ∀ {x : (Bool × List Int × List Int) × Int × Option (List Int)}, x = ((sg, l1, l2), er, s3) → x = ((false, [], []), 5, none) → (er = 5 ∧ l1 = [] ∧ l2 = [] ∧ s3 = none) := by
    rintro x e1 e2
    rw [e1] at e2
    injection e2 with g1 g2
    injection g1 with g1 g3
    injection g3 with g3 g4
    injection g2 with g5 g6
    exact ⟨g5, g3, g4, g6⟩
  cases L with
  | nil => exact .inl (bad h rfl)
  | cons x T =>
    unfold rR at h
    dsimp only at h
    by_cases hx : 1 < x
    · rw [if_pos hx] at h; exact .inl (bad h rfl)
    · rw [if_neg hx] at h
      have hx0 := hb x (by simp)
      rcases nR_cases (some T) with e1 | ⟨l, T1, e1⟩
      · exact .inl (bad h (r2_bad1 e1))
      · have b1 := nR_ok hb.tail e1
        have hbT1 : Bytes T1 := by have := hb.tail; rw [b1.1] at this; exact this.right
        rcases nR_cases (some T1) with e2 | ⟨l', T2, e2⟩
        · exact .inl (bad h (r2_bad2 e1 e2))
        · have b2 := nR_ok hbT1 e2
          rw [r2_ok e1 e2] at h
          split at h
          · injection h with g1 g2
            injection g1 with g1 g3
            injection g3 with g3 g4
            injection g2 with g5 g6
            refine .inr ⟨T2, g5.symm, g6.symm, ?_⟩
            subst g3; subst g4
            rw [b1.1, b2.1, ← g1]
            have hxe : x = 0 ∨ x = 1 := by omega
            rcases hxe with rfl | rfl <;> simp
          · exact .inl (bad h rfl)

set_option maxHeartbeats 8000000 in
set_option maxRecDepth 100000 in
theorem uniq_uint (a : Option Addr) (n c : Nat) (L : List Int) (k : Int) (w : World) (h : SlB w a n c L) (hby : Bytes L) (hT : Tab w) (hk : 0 ≤ k ∧ k < 256) (q0 : ¬ 200 < n) (hj : k % 4 = 0) :
    Calls Tryd.prog 5 #[.slice a n c, .int .u8 k] w fun e w' => e = .returned (.bool true) ∧ Below w.heap.size w w' := by
  have H := Lib.hid h
  have HT := Lib.hid hT
  have HBY := Lib.hid hby
  have HL := Lib.hid h.1
  have hnc := h.2.1
  have hc63 := h.2.2.1
  have OKL := Lib.hid (show Ok (some L) from fun L' e => by injection e with e; subst e; exact ⟨hby, by rw [h.1]; omega⟩)
  have t1 : k.tmod 4 = 0 := by rw [Int.tmod_eq_emod_of_nonneg hk.1]; exact hj
  have t2 : k % 4 = 0 := hj
  have q0i : ¬ ((200 : Int) < (n : Int)) := by omega
  have hn4 : (n : Int) ≤ 200 := by omega
  have hn200 : n ≤ 200 := by omega
  clear h hT hby hj hk
  go_enter Tryd.func5, Tryd.ntmps5
  go_wp2_with fail
  refine (awake_c w).mono ?_
  rintro e w1 ⟨rfl, hb1⟩
  have B1 := Lib.hid hb1
  have S1 := Lib.hid (H.out.below hb1)
  clear hb1
  go_wp2_with fail
  refine (made_g a n c L w1 S1.out (by omega)).mono ?_
  rintro e w2 ⟨R, rfl, hR, hR2, hst, hb2⟩
  have B2 := Lib.hid (B1.out.trans (hb2.mono B1.out.size))
  have LR := Lib.hid (Nat.le_trans B1.out.size hR)
  have SR2 := Lib.hid hst
  have T2 := Lib.hid (HT.out.below B2.out)
  clear hst hb2 hR hR2
  go_wp2_with fail
  refine (uint_g R (some L) w2 SR2.out OKL.out.by).mono ?_
  rintro e w3 ⟨rfl, st3, g3⟩
  have B3 := Lib.hid (B2.out.grown g3 B2.out.size (fun j hj => by injection hj with hj; have := LR.out; omega))
  have SR3 := Lib.hid st3
  clear st3 g3
  cases hd : dec L with
  | none =>
    rw [uR_none hd] at SR3 ⊢
    dsimp only at SR3 ⊢
    go_wp2_with fail
    refine (appendUint_c none 0 0 [] 0 w3 (SlB.nil _) (by omega) (by omega)).mono ?_
    rintro e w4 ⟨v, rfl, hO, hb⟩
    obtain ⟨a4, c4, rfl⟩ := hO.slice
    have SR4 := Lib.hid (show St 63 w4 R none from SR3.out.below hb)
    have B4 := Lib.hid (B3.out.trans (hb.mono B3.out.size))
    clear hO hb hd
    have LF := Lib.hid (left_g R none w4 SR4.out)
    have DF := Lib.hid (done_g R none w4 SR4.out)
    go_wp2_with fail
    refine LF.out.mono ?_
    rintro e w5 ⟨rfl, rfl⟩
    simp only [lft]
    go_wp2_with fail
    refine DF.out.mono ?_
    rintro e w6 ⟨rfl, rfl⟩
    simp only [dn]
    go_wp2
    refine bodyPost_ret (results_tmp rfl _ _ _) rfl ?_
    exact ⟨rfl, B4.out⟩
  | some pr =>
    obtain ⟨m0, T⟩ := pr
    rw [uR_some hd] at SR3 ⊢
    dsimp only at SR3 ⊢
    obtain ⟨e1, e2⟩ := dec_grp HBY.out hd
    have hO0 := appendUint_c none 0 0 [] m0 w3 (SlB.nil _) e2 (by omega)
    obtain ⟨A, hA⟩ : ∃ A, grp m0 = A := ⟨_, rfl⟩
    rw [List.nil_append, hA] at hO0
    rw [hA] at e1
    have LA := Lib.hid e1
    have CO := Lib.hid hO0
    clear hO0 e1 hA hd
    go_wp2_with fail
    refine CO.out.mono ?_
    rintro e w4 ⟨v, rfl, hO, hb⟩
    obtain ⟨a4, c4, rfl⟩ := hO.slice
    have SG0 := hO.sl rfl
    obtain ⟨n4, hn4'⟩ : ∃ q, A.length = q := ⟨_, rfl⟩
    rw [hn4'] at SG0 ⊢
    have SG := Lib.hid SG0
    have SR4 := Lib.hid (show St 63 w4 R (some T) from SR3.out.below hb)
    have B4 := Lib.hid (B3.out.trans (hb.mono B3.out.size))
    clear hO hb SG0 CO hn4'
    obtain ⟨m, hm⟩ : ∃ m, T.length = m := ⟨_, rfl⟩
    obtain ⟨p, hp⟩ : ∃ p, A.length = p := ⟨_, rfl⟩
    have hlen : Hid (n = p + m) := Lib.hid (by rw [← HL.out, LA.out, List.length_append, hm, hp])
    have CL := left_g R (some T) w4 SR4.out
    simp only [lft, hm] at CL
    have LF := Lib.hid CL
    have HP := Lib.hid hp
    clear CL hm hp
    have i1 : (n : Int) - (m : Int) = (p : Int) := by have := hlen.out; omega
    have i2 : (p : Int) ≤ (n : Int) := by have := hlen.out; omega
    have i3 : (0 : Int) ≤ (p : Int) := by omega
    have i4 : (p : Int) ≤ (c : Int) := by omega
    have i5 : (m : Int) ≤ (n : Int) := by have := hlen.out; omega
    have i6 : (0 : Int) ≤ (m : Int) := by omega
    have i7 : p ≤ c := by omega
    obtain ⟨st, hst⟩ : ∃ st, strOfNums A = st := ⟨_, rfl⟩
    have cv1 := conv_sl SG.out
    rw [hst] at cv1
    have cv2 := conv_sl (pre_sl (H.out.below B4.out) LA.out HP.out)
    rw [hst] at cv2
    have cvd1 : ∀ j, (convert 22 9 (.slice a4 n4 c4)).run Tryd.prog (w4.drewN j) = .ok (.string st) (w4.drewN j) := fun j => by have := conv_sl (SG.out.below (below_drewN (Below.refl _ w4) j)); rw [hst] at this; exact this
    have cvd2 : ∀ j, (convert 22 9 (.slice a p c)).run Tryd.prog (w4.drewN j) = .ok (.string st) (w4.drewN j) := fun j => by have := conv_sl (pre_sl (H.out.below (below_drewN B4.out j)) LA.out HP.out); rw [hst] at this; exact this
    have cw1 : (convert 22 9 (.slice a4 n4 c4)).run Tryd.prog w4.drew = .ok (.string st) w4.drew := cvd1 1
    have cw2 : (convert 22 9 (.slice a p c)).run Tryd.prog w4.drew = .ok (.string st) w4.drew := cvd2 1
    clear cvd1 cvd2
    go_wp2_with fail
    refine LF.out.mono ?_
    rintro e w5 ⟨rfl, rfl⟩
    go_upto_region 21 with (fail)
    refine wp_region_held_drew (S := (fun w' => (convert 22 9 (.slice a4 n4 c4)).run Tryd.prog w' = .ok (.string st) w' ∧ (convert 22 9 (.slice a p c)).run Tryd.prog w' = .ok (.string st) w')) (by kernel_rfl) ⟨cw1, cw2⟩ (fun hHeld => ?_)
    refine wpAnyH_take (i := 0) (oi := _) (v := ?vA0) rfl (by kernel_rfl) (by kernel_rfl) (by kernel_rfl) (fun _ _ _ h => h) (Or.inl ⟨by rfl, ?hyA0⟩) (by assumption) ?restA0
    case hyA0 => (intro wq hSw; (try dsimp only at hSw); first | (go_simp; done) | (go_simp; with_reducible rfl))
    try simp only [Act.put, List.getElem_toArray, List.getElem_cons_succ, List.getElem_cons_zero, List.setIfInBounds_toArray, List.set_cons_zero, List.set_cons_succ]
    refine wpAnyH_take (i := 1) (oi := _) (v := ?vA1) rfl (by kernel_rfl) (by kernel_rfl) (by kernel_rfl) (fun _ _ _ h => h) (Or.inl ⟨by rfl, ?hyA1⟩) (by assumption) ?restA1
    case hyA1 => (intro wq hSw; (try dsimp only at hSw); first | (go_simp; done) | (go_simp; with_reducible rfl))
    try simp only [Act.put, List.getElem_toArray, List.getElem_cons_succ, List.getElem_cons_zero, List.setIfInBounds_toArray, List.set_cons_zero, List.set_cons_succ]
    refine wpAnyH_take (i := 2) (oi := _) (v := ?vA2) rfl (by kernel_rfl) (by kernel_rfl) (by kernel_rfl) (fun _ _ _ h => h) (Or.inl ⟨by rfl, ?hyA2⟩) (by assumption) ?restA2
    case hyA2 => (intro wq hSw; (try dsimp only at hSw); first | (go_simp; done) | (go_simp; with_reducible rfl))
    try simp only [Act.put, List.getElem_toArray, List.getElem_cons_succ, List.getElem_cons_zero, List.setIfInBounds_toArray, List.set_cons_zero, List.set_cons_succ]
    refine wpAnyH_take (i := 3) (oi := _) (v := ?vA3) rfl (by kernel_rfl) (by kernel_rfl) (by kernel_rfl) (fun _ _ _ h => h) (Or.inl ⟨by rfl, ?hyA3⟩) (by assumption) ?restA3
    case hyA3 => (intro wq hSw; (try dsimp only at hSw); first | (go_simp; done) | (go_simp; with_reducible rfl))
    try simp only [Act.put, List.getElem_toArray, List.getElem_cons_succ, List.getElem_cons_zero, List.setIfInBounds_toArray, List.set_cons_zero, List.set_cons_succ]
    refine wpAnyH_take (i := 4) (oi := _) (v := ?vA4) rfl (by kernel_rfl) (by kernel_rfl) (by kernel_rfl) (fun _ _ _ h => h) (Or.inl ⟨by rfl, ?hyA4⟩) (by assumption) ?restA4
    case hyA4 => (intro wq hSw; (try dsimp only at hSw); first | (go_simp; done) | (go_simp; with_reducible rfl))
    try simp only [Act.put, List.getElem_toArray, List.getElem_cons_succ, List.getElem_cons_zero, List.setIfInBounds_toArray, List.set_cons_zero, List.set_cons_succ]
    refine wpAnyH_take (i := 5) (oi := _) (v := ?vA5) rfl (by kernel_rfl) (by kernel_rfl) (by kernel_rfl) (fun _ _ _ h => h) (Or.inl ⟨by rfl, ?hyA5⟩) (by assumption) ?restA5
    case hyA5 => (intro wq hSw; (try dsimp only at hSw); first | (go_simp; done) | (go_simp; with_reducible rfl))
    try simp only [Act.put, List.getElem_toArray, List.getElem_cons_succ, List.getElem_cons_zero, List.setIfInBounds_toArray, List.set_cons_zero, List.set_cons_succ]
    refine wpAnyH_take (i := 6) (oi := _) (v := ?vA6) rfl (by kernel_rfl) (by kernel_rfl) (by kernel_rfl) (fun _ _ _ h => h) (Or.inl ⟨by rfl, ?hyA6⟩) (by assumption) ?restA6
    case hyA6 => (intro wq hSw; (try dsimp only at hSw); first | (go_simp; done) | (go_simp; with_reducible rfl))
    try simp only [Act.put, List.getElem_toArray, List.getElem_cons_succ, List.getElem_cons_zero, List.setIfInBounds_toArray, List.set_cons_zero, List.set_cons_succ]
    refine wpAnyH_take (i := 7) (oi := _) (v := ?vA7) rfl (by kernel_rfl) (by kernel_rfl) (by kernel_rfl) (fun _ _ _ h => h) (Or.inl ⟨by rfl, ?hyA7⟩) (by assumption) ?restA7
    case hyA7 => (intro wq hSw; (try dsimp only at hSw); first | (go_simp; done) | (go_simp; with_reducible rfl))
    try simp only [Act.put, List.getElem_toArray, List.getElem_cons_succ, List.getElem_cons_zero, List.setIfInBounds_toArray, List.set_cons_zero, List.set_cons_succ]
    refine wpAnyH_take (i := 8) (oi := _) (v := ?vA8) rfl (by kernel_rfl) (by kernel_rfl) (by kernel_rfl) (fun _ _ _ h => h) (Or.inl ⟨by rfl, ?hyA8⟩) (by assumption) ?restA8
    case hyA8 => (intro wq hSw; (try dsimp only at hSw); first | (go_simp; done) | (go_simp; with_reducible rfl))
    try simp only [Act.put, List.getElem_toArray, List.getElem_cons_succ, List.getElem_cons_zero, List.setIfInBounds_toArray, List.set_cons_zero, List.set_cons_succ]
    refine wpAnyH_take (i := 9) (oi := _) (v := ?vA9) rfl (by kernel_rfl) (by kernel_rfl) (by kernel_rfl) (fun _ _ _ h => h) (Or.inl ⟨by rfl, ?hyA9⟩) (by assumption) ?restA9
    case hyA9 => (intro wq hSw; (try dsimp only at hSw); first | (go_simp; done) | (go_simp; with_reducible rfl))
    try simp only [Act.put, List.getElem_toArray, List.getElem_cons_succ, List.getElem_cons_zero, List.setIfInBounds_toArray, List.set_cons_zero, List.set_cons_succ]
    refine wpAnyH_take (i := 10) (oi := _) (v := ?vA10) rfl (by kernel_rfl) (by kernel_rfl) (by kernel_rfl) (fun _ _ _ h => h) (Or.inl ⟨by rfl, ?hyA10⟩) (by assumption) ?restA10
    case hyA10 => (intro wq hSw; (try dsimp only at hSw); first | (go_simp; done) | (go_simp; with_reducible rfl))
    try simp only [Act.put, List.getElem_toArray, List.getElem_cons_succ, List.getElem_cons_zero, List.setIfInBounds_toArray, List.set_cons_zero, List.set_cons_succ]
    refine wpAnyH_take (i := 11) (oi := _) (v := ?vA11) rfl (by kernel_rfl) (by kernel_rfl) (by kernel_rfl) (fun _ _ _ h => h) (Or.inl ⟨by rfl, ?hyA11⟩) (by assumption) ?restA11
    case hyA11 => (intro wq hSw; (try dsimp only at hSw); first | (go_simp; done) | (go_simp; with_reducible rfl))
    try simp only [Act.put, List.getElem_toArray, List.getElem_cons_succ, List.getElem_cons_zero, List.setIfInBounds_toArray, List.set_cons_zero, List.set_cons_succ]
    refine wpAnyH_take (i := 12) (oi := _) (v := ?vA12) rfl (by kernel_rfl) (by kernel_rfl) (by kernel_rfl) (fun _ _ _ h => h) (Or.inl ⟨by rfl, ?hyA12⟩) (by assumption) ?restA12
    case hyA12 => (intro wq hSw; (try dsimp only at hSw); first | (go_simp; done) | (go_simp; with_reducible rfl))
    try simp only [Act.put, List.getElem_toArray, List.getElem_cons_succ, List.getElem_cons_zero, List.setIfInBounds_toArray, List.set_cons_zero, List.set_cons_succ]
    refine wpAnyH_take (i := 13) (oi := _) (v := ?vA13) rfl (by kernel_rfl) (by kernel_rfl) (by kernel_rfl) (fun _ _ _ h => h) (Or.inl ⟨by rfl, ?hyA13⟩) (by assumption) ?restA13
    case hyA13 => (intro wq hSw; (try dsimp only at hSw); first | (go_simp; done) | (go_simp; with_reducible rfl))
    try simp only [Act.put, List.getElem_toArray, List.getElem_cons_succ, List.getElem_cons_zero, List.setIfInBounds_toArray, List.set_cons_zero, List.set_cons_succ]
    refine wpAnyH_take (i := 14) (oi := _) (v := ?vA14) rfl (by kernel_rfl) (by kernel_rfl) (by kernel_rfl) (fun _ _ _ h => h) (Or.inl ⟨by rfl, ?hyA14⟩) (by assumption) ?restA14
    case hyA14 => (intro wq hSw; (try dsimp only at hSw); first | (go_simp; done) | (go_simp; with_reducible rfl))
    try simp only [Act.put, List.getElem_toArray, List.getElem_cons_succ, List.getElem_cons_zero, List.setIfInBounds_toArray, List.set_cons_zero, List.set_cons_succ]
    refine wpAnyH_take (i := 15) (oi := _) (v := ?vA15) rfl (by kernel_rfl) (by kernel_rfl) (by kernel_rfl) (fun _ _ _ h => h) (Or.inl ⟨by rfl, ?hyA15⟩) (by assumption) ?restA15
    case hyA15 => (intro wq hSw; (try dsimp only at hSw); first | (go_simp; done) | (go_simp; with_reducible rfl))
    try simp only [Act.put, List.getElem_toArray, List.getElem_cons_succ, List.getElem_cons_zero, List.setIfInBounds_toArray, List.set_cons_zero, List.set_cons_succ]
    refine wpAnyH_take (i := 16) (oi := _) (v := ?vA16) rfl (by kernel_rfl) (by kernel_rfl) (by kernel_rfl) (fun _ _ _ h => h) (Or.inl ⟨by rfl, ?hyA16⟩) (by assumption) ?restA16
    case hyA16 => (intro wq hSw; (try dsimp only at hSw); first | (go_simp; done) | (go_simp; with_reducible rfl))
    try simp only [Act.put, List.getElem_toArray, List.getElem_cons_succ, List.getElem_cons_zero, List.setIfInBounds_toArray, List.set_cons_zero, List.set_cons_succ]
    refine wpAnyH_take (i := 17) (oi := _) (v := ?vA17) rfl (by kernel_rfl) (by kernel_rfl) (by kernel_rfl) (fun _ _ _ h => h) (Or.inl ⟨by rfl, ?hyA17⟩) (by assumption) ?restA17
    case hyA17 => (intro wq hSw; (try dsimp only at hSw); first | (go_simp; done) | (go_simp; with_reducible rfl))
    try simp only [Act.put, List.getElem_toArray, List.getElem_cons_succ, List.getElem_cons_zero, List.setIfInBounds_toArray, List.set_cons_zero, List.set_cons_succ]
    refine wpAnyH_done (by kernel_rfl) ?_ _
    try go_simp
    clear hHeld
    go_wp2
    refine bodyPost_ret (results_tmp rfl _ _ _) rfl ?_
    exact ⟨rfl, below_drewN B4.out 1⟩

set_option maxHeartbeats 8000000 in
set_option maxRecDepth 100000 in
theorem uniq_int (a : Option Addr) (n c : Nat) (L : List Int) (k : Int) (w : World) (h : SlB w a n c L) (hby : Bytes L) (hT : Tab w) (hk : 0 ≤ k ∧ k < 256) (q0 : ¬ 200 < n) (hj : k % 4 = 1) :
    Calls Tryd.prog 5 #[.slice a n c, .int .u8 k] w fun e w' => e = .returned (.bool true) ∧ Below w.heap.size w w' := by
  have H := Lib.hid h
  have HT := Lib.hid hT
  have HBY := Lib.hid hby
  have HL := Lib.hid h.1
  have hnc := h.2.1
  have hc63 := h.2.2.1
  have OKL := Lib.hid (show Ok (some L) from fun L' e => by injection e with e; subst e; exact ⟨hby, by rw [h.1]; omega⟩)
  have t1 : k.tmod 4 = 1 := by rw [Int.tmod_eq_emod_of_nonneg hk.1]; exact hj
  have t2 : k % 4 = 1 := hj
  have q0i : ¬ ((200 : Int) < (n : Int)) := by omega
  have hn4 : (n : Int) ≤ 200 := by omega
  have hn200 : n ≤ 200 := by omega
  clear h hT hby hj hk
  go_enter Tryd.func5, Tryd.ntmps5
  go_wp2_with fail
  refine (awake_c w).mono ?_
  rintro e w1 ⟨rfl, hb1⟩
  have B1 := Lib.hid hb1
  have S1 := Lib.hid (H.out.below hb1)
  clear hb1
  go_wp2_with fail
  refine (made_g a n c L w1 S1.out (by omega)).mono ?_
  rintro e w2 ⟨R, rfl, hR, hR2, hst, hb2⟩
  have B2 := Lib.hid (B1.out.trans (hb2.mono B1.out.size))
  have LR := Lib.hid (Nat.le_trans B1.out.size hR)
  have SR2 := Lib.hid hst
  have T2 := Lib.hid (HT.out.below B2.out)
  clear hst hb2 hR hR2
  go_wp2_with fail
  refine (int_g R (some L) w2 SR2.out OKL.out.by).mono ?_
  rintro e w3 ⟨rfl, st3, g3⟩
  have B3 := Lib.hid (B2.out.grown g3 B2.out.size (fun j hj => by injection hj with hj; have := LR.out; omega))
  have SR3 := Lib.hid st3
  clear st3 g3
  cases hd : dec L with
  | none =>
    rw [uR_none hd] at SR3 ⊢
    dsimp only at SR3 ⊢
    rw [show uzz 0 = 0 from rfl]
    go_wp2_with fail
    refine (appendInt_c none 0 0 [] 0 w3 (SlB.nil _) (by omega) (by omega) (by omega)).mono ?_
    rintro e w4 ⟨v, rfl, hO, hb⟩
    obtain ⟨a4, c4, rfl⟩ := hO.slice
    have SR4 := Lib.hid (show St 63 w4 R none from SR3.out.below hb)
    have B4 := Lib.hid (B3.out.trans (hb.mono B3.out.size))
    clear hO hb hd
    have LF := Lib.hid (left_g R none w4 SR4.out)
    have DF := Lib.hid (done_g R none w4 SR4.out)
    go_wp2_with fail
    refine LF.out.mono ?_
    rintro e w5 ⟨rfl, rfl⟩
    simp only [lft]
    go_wp2_with fail
    refine DF.out.mono ?_
    rintro e w6 ⟨rfl, rfl⟩
    simp only [dn]
    go_wp2
    refine bodyPost_ret (results_tmp rfl _ _ _) rfl ?_
    exact ⟨rfl, B4.out⟩
  | some pr =>
    obtain ⟨m0, T⟩ := pr
    rw [uR_some hd] at SR3 ⊢
    dsimp only at SR3 ⊢
    obtain ⟨e1, e2⟩ := dec_grp HBY.out hd
    obtain ⟨z, hz⟩ : ∃ z, uzz m0 = z := ⟨_, rfl⟩
    have hzz := zz_uzz e2
    rw [hz] at hzz
    rw [hz]
    have hO0 := appendInt_c none 0 0 [] z w3 (SlB.nil _) hzz.2.1 hzz.2.2 (by omega)
    rw [hzz.1] at hO0
    obtain ⟨A, hA⟩ : ∃ A, grp m0 = A := ⟨_, rfl⟩
    rw [List.nil_append, hA] at hO0
    rw [hA] at e1
    have LA := Lib.hid e1
    have CO := Lib.hid hO0
    clear hO0 e1 hA hd hz hzz
    go_wp2_with fail
    refine CO.out.mono ?_
    rintro e w4 ⟨v, rfl, hO, hb⟩
    obtain ⟨a4, c4, rfl⟩ := hO.slice
    have SG0 := hO.sl rfl
    obtain ⟨n4, hn4'⟩ : ∃ q, A.length = q := ⟨_, rfl⟩
    rw [hn4'] at SG0 ⊢
    have SG := Lib.hid SG0
    have SR4 := Lib.hid (show St 63 w4 R (some T) from SR3.out.below hb)
    have B4 := Lib.hid (B3.out.trans (hb.mono B3.out.size))
    clear hO hb SG0 CO hn4'
    obtain ⟨m, hm⟩ : ∃ m, T.length = m := ⟨_, rfl⟩
    obtain ⟨p, hp⟩ : ∃ p, A.length = p := ⟨_, rfl⟩
    have hlen : Hid (n = p + m) := Lib.hid (by rw [← HL.out, LA.out, List.length_append, hm, hp])
    have CL := left_g R (some T) w4 SR4.out
    simp only [lft, hm] at CL
    have LF := Lib.hid CL
    have HP := Lib.hid hp
    clear CL hm hp
    have i1 : (n : Int) - (m : Int) = (p : Int) := by have := hlen.out; omega
    have i2 : (p : Int) ≤ (n : Int) := by have := hlen.out; omega
    have i3 : (0 : Int) ≤ (p : Int) := by omega
    have i4 : (p : Int) ≤ (c : Int) := by omega
    have i5 : (m : Int) ≤ (n : Int) := by have := hlen.out; omega
    have i6 : (0 : Int) ≤ (m : Int) := by omega
    have i7 : p ≤ c := by omega
    obtain ⟨st, hst⟩ : ∃ st, strOfNums A = st := ⟨_, rfl⟩
    have cv1 := conv_sl SG.out
    rw [hst] at cv1
    have cv2 := conv_sl (pre_sl (H.out.below B4.out) LA.out HP.out)
    rw [hst] at cv2
    have cvd1 : ∀ j, (convert 22 9 (.slice a4 n4 c4)).run Tryd.prog (w4.drewN j) = .ok (.string st) (w4.drewN j) := fun j => by have := conv_sl (SG.out.below (below_drewN (Below.refl _ w4) j)); rw [hst] at this; exact this
    have cvd2 : ∀ j, (convert 22 9 (.slice a p c)).run Tryd.prog (w4.drewN j) = .ok (.string st) (w4.drewN j) := fun j => by have := conv_sl (pre_sl (H.out.below (below_drewN B4.out j)) LA.out HP.out); rw [hst] at this; exact this
    have cw1 : (convert 22 9 (.slice a4 n4 c4)).run Tryd.prog w4.drew = .ok (.string st) w4.drew := cvd1 1
    have cw2 : (convert 22 9 (.slice a p c)).run Tryd.prog w4.drew = .ok (.string st) w4.drew := cvd2 1
    clear cvd1 cvd2
    go_wp2_with fail
    refine LF.out.mono ?_
    rintro e w5 ⟨rfl, rfl⟩
    go_upto_region 21 with (fail)
    refine wp_region_held_drew (S := (fun w' => (convert 22 9 (.slice a4 n4 c4)).run Tryd.prog w' = .ok (.string st) w' ∧ (convert 22 9 (.slice a p c)).run Tryd.prog w' = .ok (.string st) w')) (by kernel_rfl) ⟨cw1, cw2⟩ (fun hHeld => ?_)
    refine wpAnyH_take (i := 0) (oi := _) (v := ?vA0) rfl (by kernel_rfl) (by kernel_rfl) (by kernel_rfl) (fun _ _ _ h => h) (Or.inl ⟨by rfl, ?hyA0⟩) (by assumption) ?restA0
    case hyA0 => (intro wq hSw; (try dsimp only at hSw); first | (go_simp; done) | (go_simp; with_reducible rfl))
    try simp only [Act.put, List.getElem_toArray, List.getElem_cons_succ, List.getElem_cons_zero, List.setIfInBounds_toArray, List.set_cons_zero, List.set_cons_succ]
    refine wpAnyH_take (i := 1) (oi := _) (v := ?vA1) rfl (by kernel_rfl) (by kernel_rfl) (by kernel_rfl) (fun _ _ _ h => h) (Or.inl ⟨by rfl, ?hyA1⟩) (by assumption) ?restA1
    case hyA1 => (intro wq hSw; (try dsimp only at hSw); first | (go_simp; done) | (go_simp; with_reducible rfl))
    try simp only [Act.put, List.getElem_toArray, List.getElem_cons_succ, List.getElem_cons_zero, List.setIfInBounds_toArray, List.set_cons_zero, List.set_cons_succ]
    refine wpAnyH_take (i := 2) (oi := _) (v := ?vA2) rfl (by kernel_rfl) (by kernel_rfl) (by kernel_rfl) (fun _ _ _ h => h) (Or.inl ⟨by rfl, ?hyA2⟩) (by assumption) ?restA2
    case hyA2 => (intro wq hSw; (try dsimp only at hSw); first | (go_simp; done) | (go_simp; with_reducible rfl))
    try simp only [Act.put, List.getElem_toArray, List.getElem_cons_succ, List.getElem_cons_zero, List.setIfInBounds_toArray, List.set_cons_zero, List.set_cons_succ]
    refine wpAnyH_take (i := 3) (oi := _) (v := ?vA3) rfl (by kernel_rfl) (by kernel_rfl) (by kernel_rfl) (fun _ _ _ h => h) (Or.inl ⟨by rfl, ?hyA3⟩) (by assumption) ?restA3
    case hyA3 => (intro wq hSw; (try dsimp only at hSw); first | (go_simp; done) | (go_simp; with_reducible rfl))
    try simp only [Act.put, List.getElem_toArray, List.getElem_cons_succ, List.getElem_cons_zero, List.setIfInBounds_toArray, List.set_cons_zero, List.set_cons_succ]
    refine wpAnyH_take (i := 4) (oi := _) (v := ?vA4) rfl (by kernel_rfl) (by kernel_rfl) (by kernel_rfl) (fun _ _ _ h => h) (Or.inl ⟨by rfl, ?hyA4⟩) (by assumption) ?restA4
    case hyA4 => (intro wq hSw; (try dsimp only at hSw); first | (go_simp; done) | (go_simp; with_reducible rfl))
    try simp only [Act.put, List.getElem_toArray, List.getElem_cons_succ, List.getElem_cons_zero, List.setIfInBounds_toArray, List.set_cons_zero, List.set_cons_succ]
    refine wpAnyH_take (i := 5) (oi := _) (v := ?vA5) rfl (by kernel_rfl) (by kernel_rfl) (by kernel_rfl) (fun _ _ _ h => h) (Or.inl ⟨by rfl, ?hyA5⟩) (by assumption) ?restA5
    case hyA5 => (intro wq hSw; (try dsimp only at hSw); first | (go_simp; done) | (go_simp; with_reducible rfl))
    try simp only [Act.put, List.getElem_toArray, List.getElem_cons_succ, List.getElem_cons_zero, List.setIfInBounds_toArray, List.set_cons_zero, List.set_cons_succ]
    refine wpAnyH_take (i := 6) (oi := _) (v := ?vA6) rfl (by kernel_rfl) (by kernel_rfl) (by kernel_rfl) (fun _ _ _ h => h) (Or.inl ⟨by rfl, ?hyA6⟩) (by assumption) ?restA6
    case hyA6 => (intro wq hSw; (try dsimp only at hSw); first | (go_simp; done) | (go_simp; with_reducible rfl))
    try simp only [Act.put, List.getElem_toArray, List.getElem_cons_succ, List.getElem_cons_zero, List.setIfInBounds_toArray, List.set_cons_zero, List.set_cons_succ]
    refine wpAnyH_take (i := 7) (oi := _) (v := ?vA7) rfl (by kernel_rfl) (by kernel_rfl) (by kernel_rfl) (fun _ _ _ h => h) (Or.inl ⟨by rfl, ?hyA7⟩) (by assumption) ?restA7
    case hyA7 => (intro wq hSw; (try dsimp only at hSw); first | (go_simp; done) | (go_simp; with_reducible rfl))
    try simp only [Act.put, List.getElem_toArray, List.getElem_cons_succ, List.getElem_cons_zero, List.setIfInBounds_toArray, List.set_cons_zero, List.set_cons_succ]
    refine wpAnyH_take (i := 8) (oi := _) (v := ?vA8) rfl (by kernel_rfl) (by kernel_rfl) (by kernel_rfl) (fun _ _ _ h => h) (Or.inl ⟨by rfl, ?hyA8⟩) (by assumption) ?restA8
    case hyA8 => (intro wq hSw; (try dsimp only at hSw); first | (go_simp; done) | (go_simp; with_reducible rfl))
    try simp only [Act.put, List.getElem_toArray, List.getElem_cons_succ, List.getElem_cons_zero, List.setIfInBounds_toArray, List.set_cons_zero, List.set_cons_succ]
    refine wpAnyH_take (i := 9) (oi := _) (v := ?vA9) rfl (by kernel_rfl) (by kernel_rfl) (by kernel_rfl) (fun _ _ _ h => h) (Or.inl ⟨by rfl, ?hyA9⟩) (by assumption) ?restA9
    case hyA9 => (intro wq hSw; (try dsimp only at hSw); first | (go_simp; done) | (go_simp; with_reducible rfl))
    try simp only [Act.put, List.getElem_toArray, List.getElem_cons_succ, List.getElem_cons_zero, List.setIfInBounds_toArray, List.set_cons_zero, List.set_cons_succ]
    refine wpAnyH_take (i := 10) (oi := _) (v := ?vA10) rfl (by kernel_rfl) (by kernel_rfl) (by kernel_rfl) (fun _ _ _ h => h) (Or.inl ⟨by rfl, ?hyA10⟩) (by assumption) ?restA10
    case hyA10 => (intro wq hSw; (try dsimp only at hSw); first | (go_simp; done) | (go_simp; with_reducible rfl))
    try simp only [Act.put, List.getElem_toArray, List.getElem_cons_succ, List.getElem_cons_zero, List.setIfInBounds_toArray, List.set_cons_zero, List.set_cons_succ]
    refine wpAnyH_take (i := 11) (oi := _) (v := ?vA11) rfl (by kernel_rfl) (by kernel_rfl) (by kernel_rfl) (fun _ _ _ h => h) (Or.inl ⟨by rfl, ?hyA11⟩) (by assumption) ?restA11
    case hyA11 => (intro wq hSw; (try dsimp only at hSw); first | (go_simp; done) | (go_simp; with_reducible rfl))
    try simp only [Act.put, List.getElem_toArray, List.getElem_cons_succ, List.getElem_cons_zero, List.setIfInBounds_toArray, List.set_cons_zero, List.set_cons_succ]
    refine wpAnyH_take (i := 12) (oi := _) (v := ?vA12) rfl (by kernel_rfl) (by kernel_rfl) (by kernel_rfl) (fun _ _ _ h => h) (Or.inl ⟨by rfl, ?hyA12⟩) (by assumption) ?restA12
    case hyA12 => (intro wq hSw; (try dsimp only at hSw); first | (go_simp; done) | (go_simp; with_reducible rfl))
    try simp only [Act.put, List.getElem_toArray, List.getElem_cons_succ, List.getElem_cons_zero, List.setIfInBounds_toArray, List.set_cons_zero, List.set_cons_succ]
    refine wpAnyH_take (i := 13) (oi := _) (v := ?vA13) rfl (by kernel_rfl) (by kernel_rfl) (by kernel_rfl) (fun _ _ _ h => h) (Or.inl ⟨by rfl, ?hyA13⟩) (by assumption) ?restA13
    case hyA13 => (intro wq hSw; (try dsimp only at hSw); first | (go_simp; done) | (go_simp; with_reducible rfl))
    try simp only [Act.put, List.getElem_toArray, List.getElem_cons_succ, List.getElem_cons_zero, List.setIfInBounds_toArray, List.set_cons_zero, List.set_cons_succ]
    refine wpAnyH_take (i := 14) (oi := _) (v := ?vA14) rfl (by kernel_rfl) (by kernel_rfl) (by kernel_rfl) (fun _ _ _ h => h) (Or.inl ⟨by rfl, ?hyA14⟩) (by assumption) ?restA14
    case hyA14 => (intro wq hSw; (try dsimp only at hSw); first | (go_simp; done) | (go_simp; with_reducible rfl))
    try simp only [Act.put, List.getElem_toArray, List.getElem_cons_succ, List.getElem_cons_zero, List.setIfInBounds_toArray, List.set_cons_zero, List.set_cons_succ]
    refine wpAnyH_take (i := 15) (oi := _) (v := ?vA15) rfl (by kernel_rfl) (by kernel_rfl) (by kernel_rfl) (fun _ _ _ h => h) (Or.inl ⟨by rfl, ?hyA15⟩) (by assumption) ?restA15
    case hyA15 => (intro wq hSw; (try dsimp only at hSw); first | (go_simp; done) | (go_simp; with_reducible rfl))
    try simp only [Act.put, List.getElem_toArray, List.getElem_cons_succ, List.getElem_cons_zero, List.setIfInBounds_toArray, List.set_cons_zero, List.set_cons_succ]
    refine wpAnyH_take (i := 16) (oi := _) (v := ?vA16) rfl (by kernel_rfl) (by kernel_rfl) (by kernel_rfl) (fun _ _ _ h => h) (Or.inl ⟨by rfl, ?hyA16⟩) (by assumption) ?restA16
    case hyA16 => (intro wq hSw; (try dsimp only at hSw); first | (go_simp; done) | (go_simp; with_reducible rfl))
    try simp only [Act.put, List.getElem_toArray, List.getElem_cons_succ, List.getElem_cons_zero, List.setIfInBounds_toArray, List.set_cons_zero, List.set_cons_succ]
    refine wpAnyH_take (i := 17) (oi := _) (v := ?vA17) rfl (by kernel_rfl) (by kernel_rfl) (by kernel_rfl) (fun _ _ _ h => h) (Or.inl ⟨by rfl, ?hyA17⟩) (by assumption) ?restA17
    case hyA17 => (intro wq hSw; (try dsimp only at hSw); first | (go_simp; done) | (go_simp; with_reducible rfl))
    try simp only [Act.put, List.getElem_toArray, List.getElem_cons_succ, List.getElem_cons_zero, List.setIfInBounds_toArray, List.set_cons_zero, List.set_cons_succ]
    refine wpAnyH_done (by kernel_rfl) ?_ _
    try go_simp
    clear hHeld
    go_wp2
    refine bodyPost_ret (results_tmp rfl _ _ _) rfl ?_
    exact ⟨rfl, below_drewN B4.out 1⟩

set_option maxHeartbeats 8000000 in
set_option maxRecDepth 100000 in
theorem uniq_rat (a : Option Addr) (n c : Nat) (L : List Int) (k : Int) (w : World) (h : SlB w a n c L) (hby : Bytes L) (hT : Tab w) (hk : 0 ≤ k ∧ k < 256) (q0 : ¬ 200 < n) (hj : k % 4 = 2) :
    Calls Tryd.prog 5 #[.slice a n c, .int .u8 k] w fun e w' => e = .returned (.bool true) ∧ Below w.heap.size w w' := by
  have H := Lib.hid h
  have HT := Lib.hid hT
  have HBY := Lib.hid hby
  have HL := Lib.hid h.1
  have hnc := h.2.1
  have hc63 := h.2.2.1
  have OKL := Lib.hid (show Ok (some L) from fun L' e => by injection e with e; subst e; exact ⟨hby, by rw [h.1]; omega⟩)
  have t1 : k.tmod 4 = 2 := by rw [Int.tmod_eq_emod_of_nonneg hk.1]; exact hj
  have t2 : k % 4 = 2 := hj
  have q0i : ¬ ((200 : Int) < (n : Int)) := by omega
  have hn4 : (n : Int) ≤ 200 := by omega
  have hn200 : n ≤ 200 := by omega
  clear h hT hby hj hk
  go_enter Tryd.func5, Tryd.ntmps5
  go_wp2_with fail
  refine (awake_c w).mono ?_
  rintro e w1 ⟨rfl, hb1⟩
  have B1 := Lib.hid hb1
  have S1 := Lib.hid (H.out.below hb1)
  clear hb1
  go_wp2_with fail
  refine (made_g a n c L w1 S1.out (by omega)).mono ?_
  rintro e w2 ⟨R, rfl, hR, hR2, hst, hb2⟩
  have B2 := Lib.hid (B1.out.trans (hb2.mono B1.out.size))
  have LR := Lib.hid (Nat.le_trans B1.out.size hR)
  have SR2 := Lib.hid hst
  have T2 := Lib.hid (HT.out.below B2.out)
  clear hst hb2 hR hR2
  go_wp2_with fail
  refine (rat_g R (some L) w2 SR2.out OKL.out.by OKL.out.len T2.out).mono ?_
  rintro e w3 ⟨x1, y1, u1, x2, y2, u2, rfl, sw1, nc1, sw2, nc2, st3, g3⟩
  have SW1 := Lib.hid sw1
  have SW2 := Lib.hid sw2
  clear sw1 sw2 nc1 nc2
  have B3 := Lib.hid (B2.out.grown g3 B2.out.size (fun j hj => by injection hj with hj; have := LR.out; omega))
  have SR3 := Lib.hid st3
  clear st3 g3
  obtain ⟨r, hr⟩ : ∃ r, rR (some L) = r := ⟨_, rfl⟩
  rw [hr] at SW1 SW2 SR3 ⊢
  obtain ⟨⟨sg, l1, l2⟩, er, s3⟩ := r
  dsimp only at SW1 SW2 SR3 ⊢
  have hcase := rR_cases HBY.out hr
  obtain ⟨A1, hA1⟩ : ∃ q, w3.alloc (.cells #[.bool sg, .slice x1 y1 u1, .slice x2 y2 u2] 37) = q := ⟨_, rfl⟩
  have BA : Hid (Below w3.heap.size w3 A1) := Lib.hid (by rw [← hA1]; exact Below.newBlock _)
  have QA : Hid (Q3 A1 w3.heap.size (.bool sg) (.slice x1 y1 u1) (.slice x2 y2 u2)) := Lib.hid (by rw [← hA1]; exact Q3.new _ _ _ _)
  obtain ⟨f0, f1, f2, -, -, -⟩ := QA.out.facts
  have hA1' := Lib.hid hA1
  have SRA := Lib.hid (SR3.out.below BA.out)
  have BAw := Lib.hid (B3.out.trans (BA.out.mono B3.out.size))
  have hy1 : y1 ≤ 100 ∧ y2 ≤ 100 := by
    rw [← SW1.out.1, ← SW2.out.1]
    rcases hcase with ⟨_, e1, e2, _⟩ | ⟨T, _, e2, e1⟩
    · rw [e1, e2]; simp
    · have h1 := congrArg List.length e1
      rw [HL.out] at h1
      simp only [List.length_append, nb, by4_len] at h1
      omega
  have CO := Lib.hid (appendRat_c none 0 0 [] sg x1 y1 u1 l1 x2 y2 u2 l2 A1 (SlB.nil _) (SW1.out.below BA.out) (SW2.out.below BA.out) (by omega) hy1.1 hy1.2)
  have HCA := Lib.hid hcase
  clear hA1 hcase hy1 hr
  go_upto_region 17 with (fail)
  rw [hA1'.out]
  go_wp2_with fail
  refine CO.out.mono ?_
  rintro e w4 ⟨v, rfl, hO, hb⟩
  obtain ⟨a4, c4, rfl⟩ := hO.slice
  have SG0 := hO.sl rfl
  have B4 := Lib.hid (BAw.out.trans (hb.mono BAw.out.size))
  have S4 := Lib.hid (SRA.out.below hb)
  rw [List.nil_append] at SG0
  rcases HCA.out with ⟨e0, _, _, e2⟩ | ⟨T, e0, e2, e1⟩
  · subst e0; subst e2
    have SR4 := Lib.hid (show St 63 w4 R none from S4.out)
    clear hO hb SG0 CO f0 f1 f2
    have LF := Lib.hid (left_g R none w4 SR4.out)
    have DF := Lib.hid (done_g R none w4 SR4.out)
    go_wp2_with fail
    refine LF.out.mono ?_
    rintro e w5 ⟨rfl, rfl⟩
    simp only [lft]
    go_wp2_with fail
    refine DF.out.mono ?_
    rintro e w6 ⟨rfl, rfl⟩
    simp only [dn]
    go_wp2
    refine bodyPost_ret (results_tmp rfl _ _ _) rfl ?_
    exact ⟨rfl, B4.out⟩
  · subst e0; subst e2
    have SR4 := Lib.hid (show St 63 w4 R (some T) from S4.out)
    obtain ⟨A, hA⟩ : ∃ A, [if sg then 1 else 0] ++ nb l1 ++ nb l2 = A := ⟨_, rfl⟩
    rw [List.nil_append, hA]
    rw [hA] at SG0 e1
    have LA := Lib.hid e1
    obtain ⟨n4, hn4'⟩ : ∃ q, A.length = q := ⟨_, rfl⟩
    rw [hn4'] at SG0 ⊢
    have SG := Lib.hid SG0
    clear hO hb SG0 CO hn4' e1 hA f0 f1 f2
    obtain ⟨m, hm⟩ : ∃ m, T.length = m := ⟨_, rfl⟩
    obtain ⟨p, hp⟩ : ∃ p, A.length = p := ⟨_, rfl⟩
    have hlen : Hid (n = p + m) := Lib.hid (by rw [← HL.out, LA.out, List.length_append, hm, hp])
    have CL := left_g R (some T) w4 SR4.out
    simp only [lft, hm] at CL
    have LF := Lib.hid CL
    have HP := Lib.hid hp
    clear CL hm hp
    have i1 : (n : Int) - (m : Int) = (p : Int) := by have := hlen.out; omega
    have i2 : (p : Int) ≤ (n : Int) := by have := hlen.out; omega
    have i3 : (0 : Int) ≤ (p : Int) := by omega
    have i4 : (p : Int) ≤ (c : Int) := by omega
    have i5 : (m : Int) ≤ (n : Int) := by have := hlen.out; omega
    have i6 : (0 : Int) ≤ (m : Int) := by omega
    have i7 : p ≤ c := by omega
    obtain ⟨st, hst⟩ : ∃ st, strOfNums A = st := ⟨_, rfl⟩
    have cv1 := conv_sl SG.out
    rw [hst] at cv1
    have cv2 := conv_sl (pre_sl (H.out.below B4.out) LA.out HP.out)
    rw [hst] at cv2
    have cvd1 : ∀ j, (convert 22 9 (.slice a4 n4 c4)).run Tryd.prog (w4.drewN j) = .ok (.string st) (w4.drewN j) := fun j => by have := conv_sl (SG.out.below (below_drewN (Below.refl _ w4) j)); rw [hst] at this; exact this
    have cvd2 : ∀ j, (convert 22 9 (.slice a p c)).run Tryd.prog (w4.drewN j) = .ok (.string st) (w4.drewN j) := fun j => by have := conv_sl (pre_sl (H.out.below (below_drewN B4.out j)) LA.out HP.out); rw [hst] at this; exact this
    have cw1 : (convert 22 9 (.slice a4 n4 c4)).run Tryd.prog w4.drew = .ok (.string st) w4.drew := cvd1 1
    have cw2 : (convert 22 9 (.slice a p c)).run Tryd.prog w4.drew = .ok (.string st) w4.drew := cvd2 1
    clear cvd1 cvd2
    go_wp2_with fail
    refine LF.out.mono ?_
    rintro e w5 ⟨rfl, rfl⟩
    go_upto_region 21 with (fail)
    refine wp_region_held_drew (S := (fun w' => (convert 22 9 (.slice a4 n4 c4)).run Tryd.prog w' = .ok (.string st) w' ∧ (convert 22 9 (.slice a p c)).run Tryd.prog w' = .ok (.string st) w')) (by kernel_rfl) ⟨cw1, cw2⟩ (fun hHeld => ?_)
    refine wpAnyH_take (i := 0) (oi := _) (v := ?vA0) rfl (by kernel_rfl) (by kernel_rfl) (by kernel_rfl) (fun _ _ _ h => h) (Or.inl ⟨by rfl, ?hyA0⟩) (by assumption) ?restA0
    case hyA0 => (intro wq hSw; (try dsimp only at hSw); first | (go_simp; done) | (go_simp; with_reducible rfl))
    try simp only [Act.put, List.getElem_toArray, List.getElem_cons_succ, List.getElem_cons_zero, List.setIfInBounds_toArray, List.set_cons_zero, List.set_cons_succ]
    refine wpAnyH_take (i := 1) (oi := _) (v := ?vA1) rfl (by kernel_rfl) (by kernel_rfl) (by kernel_rfl) (fun _ _ _ h => h) (Or.inl ⟨by rfl, ?hyA1⟩) (by assumption) ?restA1
    case hyA1 => (intro wq hSw; (try dsimp only at hSw); first | (go_simp; done) | (go_simp; with_reducible rfl))
    try simp only [Act.put, List.getElem_toArray, List.getElem_cons_succ, List.getElem_cons_zero, List.setIfInBounds_toArray, List.set_cons_zero, List.set_cons_succ]
    refine wpAnyH_take (i := 2) (oi := _) (v := ?vA2) rfl (by kernel_rfl) (by kernel_rfl) (by kernel_rfl) (fun _ _ _ h => h) (Or.inl ⟨by rfl, ?hyA2⟩) (by assumption) ?restA2
    case hyA2 => (intro wq hSw; (try dsimp only at hSw); first | (go_simp; done) | (go_simp; with_reducible rfl))
    try simp only [Act.put, List.getElem_toArray, List.getElem_cons_succ, List.getElem_cons_zero, List.setIfInBounds_toArray, List.set_cons_zero, List.set_cons_succ]
    refine wpAnyH_take (i := 3) (oi := _) (v := ?vA3) rfl (by kernel_rfl) (by kernel_rfl) (by kernel_rfl) (fun _ _ _ h => h) (Or.inl ⟨by rfl, ?hyA3⟩) (by assumption) ?restA3
    case hyA3 => (intro wq hSw; (try dsimp only at hSw); first | (go_simp; done) | (go_simp; with_reducible rfl))
    try simp only [Act.put, List.getElem_toArray, List.getElem_cons_succ, List.getElem_cons_zero, List.setIfInBounds_toArray, List.set_cons_zero, List.set_cons_succ]
    refine wpAnyH_take (i := 4) (oi := _) (v := ?vA4) rfl (by kernel_rfl) (by kernel_rfl) (by kernel_rfl) (fun _ _ _ h => h) (Or.inl ⟨by rfl, ?hyA4⟩) (by assumption) ?restA4
    case hyA4 => (intro wq hSw; (try dsimp only at hSw); first | (go_simp; done) | (go_simp; with_reducible rfl))
    try simp only [Act.put, List.getElem_toArray, List.getElem_cons_succ, List.getElem_cons_zero, List.setIfInBounds_toArray, List.set_cons_zero, List.set_cons_succ]
    refine wpAnyH_take (i := 5) (oi := _) (v := ?vA5) rfl (by kernel_rfl) (by kernel_rfl) (by kernel_rfl) (fun _ _ _ h => h) (Or.inl ⟨by rfl, ?hyA5⟩) (by assumption) ?restA5
    case hyA5 => (intro wq hSw; (try dsimp only at hSw); first | (go_simp; done) | (go_simp; with_reducible rfl))
    try simp only [Act.put, List.getElem_toArray, List.getElem_cons_succ, List.getElem_cons_zero, List.setIfInBounds_toArray, List.set_cons_zero, List.set_cons_succ]
    refine wpAnyH_take (i := 6) (oi := _) (v := ?vA6) rfl (by kernel_rfl) (by kernel_rfl) (by kernel_rfl) (fun _ _ _ h => h) (Or.inl ⟨by rfl, ?hyA6⟩) (by assumption) ?restA6
    case hyA6 => (intro wq hSw; (try dsimp only at hSw); first | (go_simp; done) | (go_simp; with_reducible rfl))
    try simp only [Act.put, List.getElem_toArray, List.getElem_cons_succ, List.getElem_cons_zero, List.setIfInBounds_toArray, List.set_cons_zero, List.set_cons_succ]
    refine wpAnyH_take (i := 7) (oi := _) (v := ?vA7) rfl (by kernel_rfl) (by kernel_rfl) (by kernel_rfl) (fun _ _ _ h => h) (Or.inl ⟨by rfl, ?hyA7⟩) (by assumption) ?restA7
    case hyA7 => (intro wq hSw; (try dsimp only at hSw); first | (go_simp; done) | (go_simp; with_reducible rfl))
    try simp only [Act.put, List.getElem_toArray, List.getElem_cons_succ, List.getElem_cons_zero, List.setIfInBounds_toArray, List.set_cons_zero, List.set_cons_succ]
    refine wpAnyH_take (i := 8) (oi := _) (v := ?vA8) rfl (by kernel_rfl) (by kernel_rfl) (by kernel_rfl) (fun _ _ _ h => h) (Or.inl ⟨by rfl, ?hyA8⟩) (by assumption) ?restA8
    case hyA8 => (intro wq hSw; (try dsimp only at hSw); first | (go_simp; done) | (go_simp; with_reducible rfl))
    try simp only [Act.put, List.getElem_toArray, List.getElem_cons_succ, List.getElem_cons_zero, List.setIfInBounds_toArray, List.set_cons_zero, List.set_cons_succ]
    refine wpAnyH_take (i := 9) (oi := _) (v := ?vA9) rfl (by kernel_rfl) (by kernel_rfl) (by kernel_rfl) (fun _ _ _ h => h) (Or.inl ⟨by rfl, ?hyA9⟩) (by assumption) ?restA9
    case hyA9 => (intro wq hSw; (try dsimp only at hSw); first | (go_simp; done) | (go_simp; with_reducible rfl))
    try simp only [Act.put, List.getElem_toArray, List.getElem_cons_succ, List.getElem_cons_zero, List.setIfInBounds_toArray, List.set_cons_zero, List.set_cons_succ]
    refine wpAnyH_take (i := 10) (oi := _) (v := ?vA10) rfl (by kernel_rfl) (by kernel_rfl) (by kernel_rfl) (fun _ _ _ h => h) (Or.inl ⟨by rfl, ?hyA10⟩) (by assumption) ?restA10
    case hyA10 => (intro wq hSw; (try dsimp only at hSw); first | (go_simp; done) | (go_simp; with_reducible rfl))
    try simp only [Act.put, List.getElem_toArray, List.getElem_cons_succ, List.getElem_cons_zero, List.setIfInBounds_toArray, List.set_cons_zero, List.set_cons_succ]
    refine wpAnyH_take (i := 11) (oi := _) (v := ?vA11) rfl (by kernel_rfl) (by kernel_rfl) (by kernel_rfl) (fun _ _ _ h => h) (Or.inl ⟨by rfl, ?hyA11⟩) (by assumption) ?restA11
    case hyA11 => (intro wq hSw; (try dsimp only at hSw); first | (go_simp; done) | (go_simp; with_reducible rfl))
    try simp only [Act.put, List.getElem_toArray, List.getElem_cons_succ, List.getElem_cons_zero, List.setIfInBounds_toArray, List.set_cons_zero, List.set_cons_succ]
    refine wpAnyH_take (i := 12) (oi := _) (v := ?vA12) rfl (by kernel_rfl) (by kernel_rfl) (by kernel_rfl) (fun _ _ _ h => h) (Or.inl ⟨by rfl, ?hyA12⟩) (by assumption) ?restA12
    case hyA12 => (intro wq hSw; (try dsimp only at hSw); first | (go_simp; done) | (go_simp; with_reducible rfl))
    try simp only [Act.put, List.getElem_toArray, List.getElem_cons_succ, List.getElem_cons_zero, List.setIfInBounds_toArray, List.set_cons_zero, List.set_cons_succ]
    refine wpAnyH_take (i := 13) (oi := _) (v := ?vA13) rfl (by kernel_rfl) (by kernel_rfl) (by kernel_rfl) (fun _ _ _ h => h) (Or.inl ⟨by rfl, ?hyA13⟩) (by assumption) ?restA13
    case hyA13 => (intro wq hSw; (try dsimp only at hSw); first | (go_simp; done) | (go_simp; with_reducible rfl))
    try simp only [Act.put, List.getElem_toArray, List.getElem_cons_succ, List.getElem_cons_zero, List.setIfInBounds_toArray, List.set_cons_zero, List.set_cons_succ]
    refine wpAnyH_take (i := 14) (oi := _) (v := ?vA14) rfl (by kernel_rfl) (by kernel_rfl) (by kernel_rfl) (fun _ _ _ h => h) (Or.inl ⟨by rfl, ?hyA14⟩) (by assumption) ?restA14
    case hyA14 => (intro wq hSw; (try dsimp only at hSw); first | (go_simp; done) | (go_simp; with_reducible rfl))
    try simp only [Act.put, List.getElem_toArray, List.getElem_cons_succ, List.getElem_cons_zero, List.setIfInBounds_toArray, List.set_cons_zero, List.set_cons_succ]
    refine wpAnyH_take (i := 15) (oi := _) (v := ?vA15) rfl (by kernel_rfl) (by kernel_rfl) (by kernel_rfl) (fun _ _ _ h => h) (Or.inl ⟨by rfl, ?hyA15⟩) (by assumption) ?restA15
    case hyA15 => (intro wq hSw; (try dsimp only at hSw); first | (go_simp; done) | (go_simp; with_reducible rfl))
    try simp only [Act.put, List.getElem_toArray, List.getElem_cons_succ, List.getElem_cons_zero, List.setIfInBounds_toArray, List.set_cons_zero, List.set_cons_succ]
    refine wpAnyH_take (i := 16) (oi := _) (v := ?vA16) rfl (by kernel_rfl) (by kernel_rfl) (by kernel_rfl) (fun _ _ _ h => h) (Or.inl ⟨by rfl, ?hyA16⟩) (by assumption) ?restA16
    case hyA16 => (intro wq hSw; (try dsimp only at hSw); first | (go_simp; done) | (go_simp; with_reducible rfl))
    try simp only [Act.put, List.getElem_toArray, List.getElem_cons_succ, List.getElem_cons_zero, List.setIfInBounds_toArray, List.set_cons_zero, List.set_cons_succ]
    refine wpAnyH_take (i := 17) (oi := _) (v := ?vA17) rfl (by kernel_rfl) (by kernel_rfl) (by kernel_rfl) (fun _ _ _ h => h) (Or.inl ⟨by rfl, ?hyA17⟩) (by assumption) ?restA17
    case hyA17 => (intro wq hSw; (try dsimp only at hSw); first | (go_simp; done) | (go_simp; with_reducible rfl))
    try simp only [Act.put, List.getElem_toArray, List.getElem_cons_succ, List.getElem_cons_zero, List.setIfInBounds_toArray, List.set_cons_zero, List.set_cons_succ]
    refine wpAnyH_done (by kernel_rfl) ?_ _
    try go_simp
    clear hHeld
    go_wp2
    refine bodyPost_ret (results_tmp rfl _ _ _) rfl ?_
    exact ⟨rfl, below_drewN B4.out 1⟩

set_option maxHeartbeats 8000000 in
set_option maxRecDepth 100000 in
theorem uniq_text (a : Option Addr) (n c : Nat) (L : List Int) (k : Int) (w : World) (h : SlB w a n c L) (hby : Bytes L) (hT : Tab w) (hk : 0 ≤ k ∧ k < 256) (q0 : ¬ 200 < n) (hj : k % 4 = 3) :
    Calls Tryd.prog 5 #[.slice a n c, .int .u8 k] w fun e w' => e = .returned (.bool true) ∧ Below w.heap.size w w' := by
  have H := Lib.hid h
  have HT := Lib.hid hT
  have HBY := Lib.hid hby
  have HL := Lib.hid h.1
  have hnc := h.2.1
  have hc63 := h.2.2.1
  have OKL := Lib.hid (show Ok (some L) from fun L' e => by injection e with e; subst e; exact ⟨hby, by rw [h.1]; omega⟩)
  have t1 : k.tmod 4 = 3 := by rw [Int.tmod_eq_emod_of_nonneg hk.1]; exact hj
  have t2 : k % 4 = 3 := hj
  have q0i : ¬ ((200 : Int) < (n : Int)) := by omega
  have hn4 : (n : Int) ≤ 200 := by omega
  have hn200 : n ≤ 200 := by omega
  clear h hT hby hj hk
  go_enter Tryd.func5, Tryd.ntmps5
  go_wp2_with fail
  refine (awake_c w).mono ?_
  rintro e w1 ⟨rfl, hb1⟩
  have B1 := Lib.hid hb1
  have S1 := Lib.hid (H.out.below hb1)
  clear hb1
  go_wp2_with fail
  refine (made_g a n c L w1 S1.out (by omega)).mono ?_
  rintro e w2 ⟨R, rfl, hR, hR2, hst, hb2⟩
  have B2 := Lib.hid (B1.out.trans (hb2.mono B1.out.size))
  have LR := Lib.hid (Nat.le_trans B1.out.size hR)
  have SR2 := Lib.hid hst
  have T2 := Lib.hid (HT.out.below B2.out)
  clear hst hb2 hR hR2
  go_wp2_with fail
  refine (text_g R (some L) w2 SR2.out OKL.out.by OKL.out.len).mono ?_
  rintro e w3 ⟨rfl, st3, g3⟩
  have B3 := Lib.hid (B2.out.grown g3 B2.out.size (fun j hj => by injection hj with hj; have := LR.out; omega))
  have SR3 := Lib.hid st3
  clear st3 g3
  rcases tk_cases HBY.out with hd | ⟨B, T, hd, e1⟩
  · rw [hd] at SR3 ⊢
    dsimp only at SR3 ⊢
    obtain ⟨s0, hs0⟩ : ∃ s0, strOfNums ([] : List Int) = s0 := ⟨_, rfl⟩
    rw [hs0]
    have CO := Lib.hid (appendText_c none 0 0 [] s0 w3 (SlB.nil _) (by omega) (by rw [← hs0]; decide))
    clear hs0
    go_wp2_with fail
    refine CO.out.mono ?_
    rintro e w4 ⟨v, rfl, hO, hb⟩
    obtain ⟨a4, c4, rfl⟩ := hO.slice
    have SR4 := Lib.hid (show St 63 w4 R none from SR3.out.below hb)
    have B4 := Lib.hid (B3.out.trans (hb.mono B3.out.size))
    clear hO hb hd CO
    have LF := Lib.hid (left_g R none w4 SR4.out)
    have DF := Lib.hid (done_g R none w4 SR4.out)
    go_wp2_with fail
    refine LF.out.mono ?_
    rintro e w5 ⟨rfl, rfl⟩
    simp only [lft]
    go_wp2_with fail
    refine DF.out.mono ?_
    rintro e w6 ⟨rfl, rfl⟩
    simp only [dn]
    go_wp2
    refine bodyPost_ret (results_tmp rfl _ _ _) rfl ?_
    exact ⟨rfl, B4.out⟩
  · rw [hd] at SR3 ⊢
    dsimp only at SR3 ⊢
    obtain ⟨s0, hs0⟩ : ∃ s0, strOfNums B = s0 := ⟨_, rfl⟩
    rw [hs0]
    have hlB : B.length ≤ 200 := by have h1 := HL.out; have h2 := congrArg List.length e1; rw [List.length_append, List.length_append] at h2; omega
    have hBB : Bytes B := by have h1 := HBY.out; rw [e1] at h1; exact h1.left.right
    have hO0 := appendText_c none 0 0 [] s0 w3 (SlB.nil _) (by omega) (by rw [← hs0, strOfNums_size]; omega)
    rw [← hs0, nums_str hBB, strOfNums_size] at hO0
    obtain ⟨A, hA⟩ : ∃ A, grp B.length ++ B = A := ⟨_, rfl⟩
    rw [List.nil_append, hA, hs0] at hO0
    rw [hA] at e1
    have LA := Lib.hid e1
    have CO := Lib.hid hO0
    clear hO0 e1 hA hd hs0 hlB hBB
    go_wp2_with fail
    refine CO.out.mono ?_
    rintro e w4 ⟨v, rfl, hO, hb⟩
    obtain ⟨a4, c4, rfl⟩ := hO.slice
    have SG0 := hO.sl rfl
    obtain ⟨n4, hn4'⟩ : ∃ q, A.length = q := ⟨_, rfl⟩
    rw [hn4'] at SG0 ⊢
    have SG := Lib.hid SG0
    have SR4 := Lib.hid (show St 63 w4 R (some T) from SR3.out.below hb)
    have B4 := Lib.hid (B3.out.trans (hb.mono B3.out.size))
    clear hO hb SG0 CO hn4'
    obtain ⟨m, hm⟩ : ∃ m, T.length = m := ⟨_, rfl⟩
    obtain ⟨p, hp⟩ : ∃ p, A.length = p := ⟨_, rfl⟩
    have hlen : Hid (n = p + m) := Lib.hid (by rw [← HL.out, LA.out, List.length_append, hm, hp])
    have CL := left_g R (some T) w4 SR4.out
    simp only [lft, hm] at CL
    have LF := Lib.hid CL
    have HP := Lib.hid hp
    clear CL hm hp
    have i1 : (n : Int) - (m : Int) = (p : Int) := by have := hlen.out; omega
    have i2 : (p : Int) ≤ (n : Int) := by have := hlen.out; omega
    have i3 : (0 : Int) ≤ (p : Int) := by omega
    have i4 : (p : Int) ≤ (c : Int) := by omega
    have i5 : (m : Int) ≤ (n : Int) := by have := hlen.out; omega
    have i6 : (0 : Int) ≤ (m : Int) := by omega
    have i7 : p ≤ c := by omega
    obtain ⟨st, hst⟩ : ∃ st, strOfNums A = st := ⟨_, rfl⟩
    have cv1 := conv_sl SG.out
    rw [hst] at cv1
    have cv2 := conv_sl (pre_sl (H.out.below B4.out) LA.out HP.out)
    rw [hst] at cv2
    have cvd1 : ∀ j, (convert 22 9 (.slice a4 n4 c4)).run Tryd.prog (w4.drewN j) = .ok (.string st) (w4.drewN j) := fun j => by have := conv_sl (SG.out.below (below_drewN (Below.refl _ w4) j)); rw [hst] at this; exact this
    have cvd2 : ∀ j, (convert 22 9 (.slice a p c)).run Tryd.prog (w4.drewN j) = .ok (.string st) (w4.drewN j) := fun j => by have := conv_sl (pre_sl (H.out.below (below_drewN B4.out j)) LA.out HP.out); rw [hst] at this; exact this
    have cw1 : (convert 22 9 (.slice a4 n4 c4)).run Tryd.prog w4.drew = .ok (.string st) w4.drew := cvd1 1
    have cw2 : (convert 22 9 (.slice a p c)).run Tryd.prog w4.drew = .ok (.string st) w4.drew := cvd2 1
    clear cvd1 cvd2
    go_wp2_with fail
    refine LF.out.mono ?_
    rintro e w5 ⟨rfl, rfl⟩
    go_upto_region 21 with (fail)
    refine wp_region_held_drew (S := (fun w' => (convert 22 9 (.slice a4 n4 c4)).run Tryd.prog w' = .ok (.string st) w' ∧ (convert 22 9 (.slice a p c)).run Tryd.prog w' = .ok (.string st) w')) (by kernel_rfl) ⟨cw1, cw2⟩ (fun hHeld => ?_)
    refine wpAnyH_take (i := 0) (oi := _) (v := ?vA0) rfl (by kernel_rfl) (by kernel_rfl) (by kernel_rfl) (fun _ _ _ h => h) (Or.inl ⟨by rfl, ?hyA0⟩) (by assumption) ?restA0
    case hyA0 => (intro wq hSw; (try dsimp only at hSw); first | (go_simp; done) | (go_simp; with_reducible rfl))
    try simp only [Act.put, List.getElem_toArray, List.getElem_cons_succ, List.getElem_cons_zero, List.setIfInBounds_toArray, List.set_cons_zero, List.set_cons_succ]
    refine wpAnyH_take (i := 1) (oi := _) (v := ?vA1) rfl (by kernel_rfl) (by kernel_rfl) (by kernel_rfl) (fun _ _ _ h => h) (Or.inl ⟨by rfl, ?hyA1⟩) (by assumption) ?restA1
    case hyA1 => (intro wq hSw; (try dsimp only at hSw); first | (go_simp; done) | (go_simp; with_reducible rfl))
    try simp only [Act.put, List.getElem_toArray, List.getElem_cons_succ, List.getElem_cons_zero, List.setIfInBounds_toArray, List.set_cons_zero, List.set_cons_succ]
    refine wpAnyH_take (i := 2) (oi := _) (v := ?vA2) rfl (by kernel_rfl) (by kernel_rfl) (by kernel_rfl) (fun _ _ _ h => h) (Or.inl ⟨by rfl, ?hyA2⟩) (by assumption) ?restA2
    case hyA2 => (intro wq hSw; (try dsimp only at hSw); first | (go_simp; done) | (go_simp; with_reducible rfl))
    try simp only [Act.put, List.getElem_toArray, List.getElem_cons_succ, List.getElem_cons_zero, List.setIfInBounds_toArray, List.set_cons_zero, List.set_cons_succ]
    refine wpAnyH_take (i := 3) (oi := _) (v := ?vA3) rfl (by kernel_rfl) (by kernel_rfl) (by kernel_rfl) (fun _ _ _ h => h) (Or.inl ⟨by rfl, ?hyA3⟩) (by assumption) ?restA3
    case hyA3 => (intro wq hSw; (try dsimp only at hSw); first | (go_simp; done) | (go_simp; with_reducible rfl))
    try simp only [Act.put, List.getElem_toArray, List.getElem_cons_succ, List.getElem_cons_zero, List.setIfInBounds_toArray, List.set_cons_zero, List.set_cons_succ]
    refine wpAnyH_take (i := 4) (oi := _) (v := ?vA4) rfl (by kernel_rfl) (by kernel_rfl) (by kernel_rfl) (fun _ _ _ h => h) (Or.inl ⟨by rfl, ?hyA4⟩) (by assumption) ?restA4
    case hyA4 => (intro wq hSw; (try dsimp only at hSw); first | (go_simp; done) | (go_simp; with_reducible rfl))
    try simp only [Act.put, List.getElem_toArray, List.getElem_cons_succ, List.getElem_cons_zero, List.setIfInBounds_toArray, List.set_cons_zero, List.set_cons_succ]
    refine wpAnyH_take (i := 5) (oi := _) (v := ?vA5) rfl (by kernel_rfl) (by kernel_rfl) (by kernel_rfl) (fun _ _ _ h => h) (Or.inl ⟨by rfl, ?hyA5⟩) (by assumption) ?restA5
    case hyA5 => (intro wq hSw; (try dsimp only at hSw); first | (go_simp; done) | (go_simp; with_reducible rfl))
    try simp only [Act.put, List.getElem_toArray, List.getElem_cons_succ, List.getElem_cons_zero, List.setIfInBounds_toArray, List.set_cons_zero, List.set_cons_succ]
    refine wpAnyH_take (i := 6) (oi := _) (v := ?vA6) rfl (by kernel_rfl) (by kernel_rfl) (by kernel_rfl) (fun _ _ _ h => h) (Or.inl ⟨by rfl, ?hyA6⟩) (by assumption) ?restA6
    case hyA6 => (intro wq hSw; (try dsimp only at hSw); first | (go_simp; done) | (go_simp; with_reducible rfl))
    try simp only [Act.put, List.getElem_toArray, List.getElem_cons_succ, List.getElem_cons_zero, List.setIfInBounds_toArray, List.set_cons_zero, List.set_cons_succ]
    refine wpAnyH_take (i := 7) (oi := _) (v := ?vA7) rfl (by kernel_rfl) (by kernel_rfl) (by kernel_rfl) (fun _ _ _ h => h) (Or.inl ⟨by rfl, ?hyA7⟩) (by assumption) ?restA7
    case hyA7 => (intro wq hSw; (try dsimp only at hSw); first | (go_simp; done) | (go_simp; with_reducible rfl))
    try simp only [Act.put, List.getElem_toArray, List.getElem_cons_succ, List.getElem_cons_zero, List.setIfInBounds_toArray, List.set_cons_zero, List.set_cons_succ]
    refine wpAnyH_take (i := 8) (oi := _) (v := ?vA8) rfl (by kernel_rfl) (by kernel_rfl) (by kernel_rfl) (fun _ _ _ h => h) (Or.inl ⟨by rfl, ?hyA8⟩) (by assumption) ?restA8
    case hyA8 => (intro wq hSw; (try dsimp only at hSw); first | (go_simp; done) | (go_simp; with_reducible rfl))
    try simp only [Act.put, List.getElem_toArray, List.getElem_cons_succ, List.getElem_cons_zero, List.setIfInBounds_toArray, List.set_cons_zero, List.set_cons_succ]
    refine wpAnyH_take (i := 9) (oi := _) (v := ?vA9) rfl (by kernel_rfl) (by kernel_rfl) (by kernel_rfl) (fun _ _ _ h => h) (Or.inl ⟨by rfl, ?hyA9⟩) (by assumption) ?restA9
    case hyA9 => (intro wq hSw; (try dsimp only at hSw); first | (go_simp; done) | (go_simp; with_reducible rfl))
    try simp only [Act.put, List.getElem_toArray, List.getElem_cons_succ, List.getElem_cons_zero, List.setIfInBounds_toArray, List.set_cons_zero, List.set_cons_succ]
    refine wpAnyH_take (i := 10) (oi := _) (v := ?vA10) rfl (by kernel_rfl) (by kernel_rfl) (by kernel_rfl) (fun _ _ _ h => h) (Or.inl ⟨by rfl, ?hyA10⟩) (by assumption) ?restA10
    case hyA10 => (intro wq hSw; (try dsimp only at hSw); first | (go_simp; done) | (go_simp; with_reducible rfl))
    try simp only [Act.put, List.getElem_toArray, List.getElem_cons_succ, List.getElem_cons_zero, List.setIfInBounds_toArray, List.set_cons_zero, List.set_cons_succ]
    refine wpAnyH_take (i := 11) (oi := _) (v := ?vA11) rfl (by kernel_rfl) (by kernel_rfl) (by kernel_rfl) (fun _ _ _ h => h) (Or.inl ⟨by rfl, ?hyA11⟩) (by assumption) ?restA11
    case hyA11 => (intro wq hSw; (try dsimp only at hSw); first | (go_simp; done) | (go_simp; with_reducible rfl))
    try simp only [Act.put, List.getElem_toArray, List.getElem_cons_succ, List.getElem_cons_zero, List.setIfInBounds_toArray, List.set_cons_zero, List.set_cons_succ]
    refine wpAnyH_take (i := 12) (oi := _) (v := ?vA12) rfl (by kernel_rfl) (by kernel_rfl) (by kernel_rfl) (fun _ _ _ h => h) (Or.inl ⟨by rfl, ?hyA12⟩) (by assumption) ?restA12
    case hyA12 => (intro wq hSw; (try dsimp only at hSw); first | (go_simp; done) | (go_simp; with_reducible rfl))
    try simp only [Act.put, List.getElem_toArray, List.getElem_cons_succ, List.getElem_cons_zero, List.setIfInBounds_toArray, List.set_cons_zero, List.set_cons_succ]
    refine wpAnyH_take (i := 13) (oi := _) (v := ?vA13) rfl (by kernel_rfl) (by kernel_rfl) (by kernel_rfl) (fun _ _ _ h => h) (Or.inl ⟨by rfl, ?hyA13⟩) (by assumption) ?restA13
    case hyA13 => (intro wq hSw; (try dsimp only at hSw); first | (go_simp; done) | (go_simp; with_reducible rfl))
    try simp only [Act.put, List.getElem_toArray, List.getElem_cons_succ, List.getElem_cons_zero, List.setIfInBounds_toArray, List.set_cons_zero, List.set_cons_succ]
    refine wpAnyH_take (i := 14) (oi := _) (v := ?vA14) rfl (by kernel_rfl) (by kernel_rfl) (by kernel_rfl) (fun _ _ _ h => h) (Or.inl ⟨by rfl, ?hyA14⟩) (by assumption) ?restA14
    case hyA14 => (intro wq hSw; (try dsimp only at hSw); first | (go_simp; done) | (go_simp; with_reducible rfl))
    try simp only [Act.put, List.getElem_toArray, List.getElem_cons_succ, List.getElem_cons_zero, List.setIfInBounds_toArray, List.set_cons_zero, List.set_cons_succ]
    refine wpAnyH_take (i := 15) (oi := _) (v := ?vA15) rfl (by kernel_rfl) (by kernel_rfl) (by kernel_rfl) (fun _ _ _ h => h) (Or.inl ⟨by rfl, ?hyA15⟩) (by assumption) ?restA15
    case hyA15 => (intro wq hSw; (try dsimp only at hSw); first | (go_simp; done) | (go_simp; with_reducible rfl))
    try simp only [Act.put, List.getElem_toArray, List.getElem_cons_succ, List.getElem_cons_zero, List.setIfInBounds_toArray, List.set_cons_zero, List.set_cons_succ]
    refine wpAnyH_take (i := 16) (oi := _) (v := ?vA16) rfl (by kernel_rfl) (by kernel_rfl) (by kernel_rfl) (fun _ _ _ h => h) (Or.inl ⟨by rfl, ?hyA16⟩) (by assumption) ?restA16
    case hyA16 => (intro wq hSw; (try dsimp only at hSw); first | (go_simp; done) | (go_simp; with_reducible rfl))
    try simp only [Act.put, List.getElem_toArray, List.getElem_cons_succ, List.getElem_cons_zero, List.setIfInBounds_toArray, List.set_cons_zero, List.set_cons_succ]
    refine wpAnyH_take (i := 17) (oi := _) (v := ?vA17) rfl (by kernel_rfl) (by kernel_rfl) (by kernel_rfl) (fun _ _ _ h => h) (Or.inl ⟨by rfl, ?hyA17⟩) (by assumption) ?restA17
    case hyA17 => (intro wq hSw; (try dsimp only at hSw); first | (go_simp; done) | (go_simp; with_reducible rfl))
    try simp only [Act.put, List.getElem_toArray, List.getElem_cons_succ, List.getElem_cons_zero, List.setIfInBounds_toArray, List.set_cons_zero, List.set_cons_succ]
    refine wpAnyH_done (by kernel_rfl) ?_ _
    try go_simp
    clear hHeld
    go_wp2
    refine bodyPost_ret (results_tmp rfl _ _ _) rfl ?_
    exact ⟨rfl, below_drewN B4.out 1⟩

set_option maxHeartbeats 8000000 in
set_option maxRecDepth 100000 in
theorem law_unique (a : Option Addr) (n c : Nat) (L : List Int) (k : Int) (w : World) (h : SlB w a n c L) (hby : Bytes L) (hT : Tab w) (hk : 0 ≤ k ∧ k < 256) :
    Calls Tryd.prog 5 #[.slice a n c, .int .u8 k] w fun e w' => e = .returned (.bool true) ∧ Below w.heap.size w w' := by
  by_cases q0 : 200 < n
  · have q0i : (200 : Int) < (n : Int) := by omega
    clear h hby hT hk
    go_enter Tryd.func5, Tryd.ntmps5
    go_wp2_with fail
    refine (awake_c w).mono ?_
    rintro e w1 ⟨rfl, hb1⟩
    have B1 := Lib.hid hb1
    clear hb1
    go_wp2_with fail
    refine (awake_c w1).mono ?_
    rintro e w2 ⟨rfl, hb2⟩
    have B2 := Lib.hid (B1.out.trans (hb2.mono B1.out.size))
    clear hb2
    go_wp2
    refine bodyPost_ret (results_tmp rfl _ _ _) rfl ?_
    exact ⟨rfl, B2.out⟩
  · have hj : k % 4 = 0 ∨ k % 4 = 1 ∨ k % 4 = 2 ∨ k % 4 = 3 := by omega
    rcases hj with hj | hj | hj | hj
    · exact uniq_uint a n c L k w h hby hT hk q0 hj
    · exact uniq_int a n c L k w h hby hT hk q0 hj
    · exact uniq_rat a n c L k w h hby hT hk q0 hj
    · exact uniq_text a n c L k w h hby hT hk q0 hj

end Go.Proofs.YtcdkehghdhcokaaDoor.wr
