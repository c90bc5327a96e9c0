/- Walks of layer 3: the laws of canonical form and of negation. -/
import Derived.Test.YtjkfnnoakjdgmaaDoorRL0
import Derived.Test.YtjkfnnoakjdgmaaDoorRR8
namespace Go.Proofs.YtjkfnnoakjdgmaaDoor
open Go.RowKit
set_option linter.unusedVariables false
theorem ops1 (w : World) (s : Bool) (a : Option Addr) (n c : Nat) (a' : Option Addr) (n' c' : Nat) : Hid (QBox (w.heap.size) (.bool s) (.slice a n c) (.slice a' n' c') (w.alloc (.cells #[.bool s, .slice a n c, .slice a' n' c'] 25))) ∧ Hid (Keep w (w.alloc (.cells #[.bool s, .slice a n c, .slice a' n' c'] 25))) :=
  ⟨Lib.hid (QBox.new w s a n c a' n' c'), Lib.hid ((Keep.refl w).alloc _)⟩
set_option maxHeartbeats 4000000 in
theorem canon_law_b0 {w : World} {s : Bool} {a a' : Option Addr} {n c n' c' : Nat} {lx lx' : List Nat} (hx : Rd w a n c lx) (hx' : Rd w a' n' c' lx') (hT : Tab w)  (fx : ¬ (n ≤ 3 ∧ n' ≤ 3)) : Calls Tryd.prog 3 #[.agg #[.bool s, .slice a n c, .slice a' n' c']] w (BPost true w) := by
  obtain ⟨B_0, KW_0⟩ := ops1 w s a n c a' n' c'
  have T_0 := Lib.hid (hT.keep KW_0.out)
  have AW := Lib.hid (fun w1 (hT1 : Tab w1) => awake_c w1 hT1)
  have FX := Lib.hid (fun w1 (h : Rd w1 a n c lx) (h' : Rd w1 a' n' c' lx') => few_c (s := s) h h')
  rw [decide_eq_false fx] at FX
  have X_0 := Lib.hid (hx.below KW_0.out)
  have X'_0 := Lib.hid (hx'.below KW_0.out)
  clear hT hx hx'
  go_enter Tryd.func3, Tryd.ntmps3
  obtain ⟨B_c0, B_c1, B_c2, -, -, -, -⟩ := id B_0.out
  go_wp2_with fail
  refine Calls.mono (AW.out _ T_0.out) ?_
  rintro e w1 ⟨rfl, k1⟩
  clear B_c0 B_c1 B_c2
  have T_1 := Lib.hid (T_0.out.keep k1)
  have X_1 := Lib.hid (X_0.out.keep k1)
  have X'_1 := Lib.hid (X'_0.out.keep k1)
  have B_1 := Lib.hid (B_0.out.keep k1)
  have KW_1 := Lib.hid (KW_0.out.trans k1)
  clear k1 T_0 X_0 X'_0 B_0 KW_0
  obtain ⟨B_c0, B_c1, B_c2, -, -, -, -⟩ := id B_1.out
  go_wp2_with fail
  refine Calls.mono (FX.out _ X_1.out X'_1.out) ?_
  rintro e w2 ⟨rfl, k2⟩
  clear B_c0 B_c1 B_c2
  have T_2 := Lib.hid (T_1.out.keep k2)
  have X_2 := Lib.hid (X_1.out.keep k2)
  have X'_2 := Lib.hid (X'_1.out.keep k2)
  have B_2 := Lib.hid (B_1.out.keep k2)
  have KW_2 := Lib.hid (KW_1.out.trans k2)
  clear k2 T_1 X_1 X'_1 B_1 KW_1
  obtain ⟨B_c0, B_c1, B_c2, -, -, -, -⟩ := id B_2.out
  go_wp2_with fail
  go_ret
  exact ⟨rfl, KW_2.out⟩
set_option maxHeartbeats 4000000 in
theorem canon_law_s {w : World} {s : Bool} {a a' : Option Addr} {n c n' c' : Nat} {lx lx' : List Nat} (hx : Rd w a n c lx) (hx' : Rd w a' n' c' lx') (hT : Tab w) (fx : (n ≤ 3 ∧ n' ≤ 3)) : Calls Tryd.prog 3 #[.agg #[.bool s, .slice a n c, .slice a' n' c']] w (BPost true w) := by
  obtain ⟨B_0, KW_0⟩ := ops1 w s a n c a' n' c'
  have T_0 := Lib.hid (hT.keep KW_0.out)
  have AW := Lib.hid (fun w1 (hT1 : Tab w1) => awake_c w1 hT1)
  have FX := Lib.hid (fun w1 (h : Rd w1 a n c lx) (h' : Rd w1 a' n' c' lx') => few_c (s := s) h h')
  rw [decide_eq_true fx] at FX
  have X_0 := Lib.hid (hx.below KW_0.out)
  have X'_0 := Lib.hid (hx'.below KW_0.out)
  have lX : lx.length ≤ 3 := by rw [hx.len_eq]; exact fx.1
  have lX' : lx'.length ≤ 3 := by rw [hx'.len_eq]; exact fx.2
  have nX : Ra w (.agg #[.bool s, .slice a n c, .slice a' n' c']) (rv s (nv lx) (nv lx')) 3 := ⟨_, _, _, _, _, rfl, hx.toNm rfl lX, hx'.toNm rfl lX', rfl⟩
  obtain ⟨p, hXq⟩ : ∃ q, rv s (nv lx) (nv lx') = q := ⟨_, rfl⟩
  rw [hXq] at nX
  have NX_0 := Lib.hid (nX.keep KW_0.out)
  have rbp := nX.rb (by omega)
  have CN := Lib.hid (fun w1 (h : Ra w1 (.agg #[.bool s, .slice a n c, .slice a' n' c']) p 3) (hT1 : Tab w1) => canon_c h (by omega) (by omega) hT1)
  have RC := Lib.hid (fun w1 (h : Ra w1 (.agg #[.bool s, .slice a n c, .slice a' n' c']) p 3) => rcanon_c h (by omega) (by omega))
  have VA := Lib.hid (fun w1 (h : Rd w1 a n c lx) (h' : Rd w1 a' n' c' lx') (hT1 : Tab w1) => qvalid_c (s := s) h h' lX lX' (by omega) hT1)
  have VB := Lib.hid (fun w1 (h : Rd w1 a n c lx) (h' : Rd w1 a' n' c' lx') => rqvalid_c (s := s) h h' lX lX' (by omega) (by omega))
  have VT := Lib.hid (fun w1 v (hv : Cr w1 v p) (hT1 : Tab w1) => qvalid_t hv rbp (by omega) hT1)
  have NU := Lib.hid (fun w1 (h : Ra w1 (.agg #[.bool s, .slice a n c, .slice a' n' c']) p 3) (hT1 : Tab w1) => qnum_c h (by omega) (by omega) hT1)
  have RN := Lib.hid (fun w1 (h : Ra w1 (.agg #[.bool s, .slice a n c, .slice a' n' c']) p 3) => rqnum_c h (by omega) (by omega))
  have DE := Lib.hid (fun w1 (h : Ra w1 (.agg #[.bool s, .slice a n c, .slice a' n' c']) p 3) (hT1 : Tab w1) => qden_cc h (by omega) (by omega) hT1)
  have RD := Lib.hid (fun w1 (h : Ra w1 (.agg #[.bool s, .slice a n c, .slice a' n' c']) p 3) => rqden_cc h (by omega) (by omega))
  have SG := Lib.hid (fun w1 (h : Ra w1 (.agg #[.bool s, .slice a n c, .slice a' n' c']) p 3) => qsign_c h (by omega))
  have RS := Lib.hid (fun w1 (h : Ra w1 (.agg #[.bool s, .slice a n c, .slice a' n' c']) p 3) => rqsign_c h (by omega))
  obtain ⟨y, hy⟩ : ∃ y, okQ s lx lx' = y := ⟨_, rfl⟩
  rw [hy] at VA VB
  obtain ⟨z, hz⟩ : ∃ z, rS p = z := ⟨_, rfl⟩
  rw [hz] at SG RS
  clear hT hx hx' fx lX lX' nX hXq rbp hy hz
  go_enter Tryd.func3, Tryd.ntmps3
  obtain ⟨B_c0, B_c1, B_c2, -, -, -, -⟩ := id B_0.out
  go_wp2_with fail
  refine Calls.mono (AW.out _ T_0.out) ?_
  rintro e w1 ⟨rfl, k1⟩
  clear B_c0 B_c1 B_c2
  have T_1 := Lib.hid (T_0.out.keep k1)
  have X_1 := Lib.hid (X_0.out.keep k1)
  have X'_1 := Lib.hid (X'_0.out.keep k1)
  have NX_1 := Lib.hid (NX_0.out.keep k1)
  have B_1 := Lib.hid (B_0.out.keep k1)
  have KW_1 := Lib.hid (KW_0.out.trans k1)
  clear k1 T_0 X_0 X'_0 NX_0 B_0 KW_0
  obtain ⟨B_c0, B_c1, B_c2, -, -, -, -⟩ := id B_1.out
  go_wp2_with fail
  refine Calls.mono (FX.out _ X_1.out X'_1.out) ?_
  rintro e w2 ⟨rfl, k2⟩
  clear B_c0 B_c1 B_c2
  have T_2 := Lib.hid (T_1.out.keep k2)
  have X_2 := Lib.hid (X_1.out.keep k2)
  have X'_2 := Lib.hid (X'_1.out.keep k2)
  have NX_2 := Lib.hid (NX_1.out.keep k2)
  have B_2 := Lib.hid (B_1.out.keep k2)
  have KW_2 := Lib.hid (KW_1.out.trans k2)
  clear k2 T_1 X_1 X'_1 NX_1 B_1 KW_1
  clear AW FX
  obtain ⟨B_c0, B_c1, B_c2, -, -, -, -⟩ := id B_2.out
  go_wp2_with fail
  refine Calls.mono (CN.out _ NX_2.out T_2.out) ?_
  rintro e w3 ⟨vS, rfl, hS, k3⟩
  clear B_c0 B_c1 B_c2
  have T_3 := Lib.hid (T_2.out.keep k3)
  have X_3 := Lib.hid (X_2.out.keep k3)
  have X'_3 := Lib.hid (X'_2.out.keep k3)
  have NX_3 := Lib.hid (NX_2.out.keep k3)
  have B_3 := Lib.hid (B_2.out.keep k3)
  have CS_3 := Lib.hid hS
  have KW_3 := Lib.hid (KW_2.out.trans k3)
  clear k3 T_2 X_2 X'_2 NX_2 B_2 hS KW_2
  obtain ⟨aS, nS, cS, a'S, n'S, c'S, rfl, -⟩ := Cr.form CS_3.out
  have CS_3_x := CS_3.out
  obtain ⟨bS, hbS⟩ : ∃ b, decide ((p).num < 0) = b := ⟨_, rfl⟩
  rw [hbS] at CS_3_x ⊢
  have CS_3_y := Lib.hid CS_3_x
  clear CS_3_x hbS CS_3
  have T_4 := Lib.hid (T_3.out.keep ((Keep.refl _).alloc (.cells #[.bool bS, .slice aS nS cS, .slice a'S n'S c'S] 25)))
  have X_4 := Lib.hid (X_3.out.keep ((Keep.refl _).alloc (.cells #[.bool bS, .slice aS nS cS, .slice a'S n'S c'S] 25)))
  have X'_4 := Lib.hid (X'_3.out.keep ((Keep.refl _).alloc (.cells #[.bool bS, .slice aS nS cS, .slice a'S n'S c'S] 25)))
  have NX_4 := Lib.hid (NX_3.out.keep ((Keep.refl _).alloc (.cells #[.bool bS, .slice aS nS cS, .slice a'S n'S c'S] 25)))
  have B_4 := Lib.hid (B_3.out.keep ((Keep.refl _).alloc (.cells #[.bool bS, .slice aS nS cS, .slice a'S n'S c'S] 25)))
  have CS_4 := Lib.hid (CS_3_y.out.keep ((Keep.refl _).alloc (.cells #[.bool bS, .slice aS nS cS, .slice a'S n'S c'S] 25)))
  have KW_4 := Lib.hid (KW_3.out.trans ((Keep.refl _).alloc (.cells #[.bool bS, .slice aS nS cS, .slice a'S n'S c'S] 25)))
  clear T_3 X_3 X'_3 NX_3 B_3 CS_3_y KW_3
  have S_4 := Lib.hid (QBox.new w3 bS aS nS cS a'S n'S c'S)
  clear CN
  have T_5 := Lib.hid (T_4.out.keep (keep_drew _))
  clear T_4
  have X_5 := Lib.hid (X_4.out.keep (keep_drew _))
  clear X_4
  have X'_5 := Lib.hid (X'_4.out.keep (keep_drew _))
  clear X'_4
  have NX_5 := Lib.hid (NX_4.out.keep (keep_drew _))
  clear NX_4
  have B_5 := Lib.hid (B_4.out.keep (keep_drew _))
  clear B_4
  have CS_5 := Lib.hid (CS_4.out.keep (keep_drew _))
  clear CS_4
  have S_5 := Lib.hid (S_4.out.keep (keep_drew _))
  clear S_4
  have KW_5 := Lib.hid (KW_4.out.trans (keep_drew _))
  clear KW_4
  obtain ⟨cS_5_0, cS_5_1, cS_5_2, -, -, -, -⟩ := id S_5.out
  obtain ⟨cB_5_0, cB_5_1, cB_5_2, -, -, -, -⟩ := id B_5.out
  go_wp2
  go_region_held3 (fun w' => w'.cell? ⟨w3.heap.size, 0, none⟩ = some (.bool bS) ∧ w'.cell? ⟨w3.heap.size, 1, none⟩ = some (.slice aS nS cS) ∧ w'.cell? ⟨w3.heap.size, 2, none⟩ = some (.slice a'S n'S c'S) ∧ w'.cell? ⟨w.heap.size, 0, none⟩ = some (.bool s) ∧ w'.cell? ⟨w.heap.size, 1, none⟩ = some (.slice a n c) ∧ w'.cell? ⟨w.heap.size, 2, none⟩ = some (.slice a' n' c')) (first | exact ⟨cS_18_0, cS_18_1, cS_18_2, cB_18_0, cB_18_1, cB_18_2⟩ | exact ⟨cS_17_0, cS_17_1, cS_17_2, cB_17_0, cB_17_1, cB_17_2⟩ | exact ⟨cS_16_0, cS_16_1, cS_16_2, cB_16_0, cB_16_1, cB_16_2⟩ | exact ⟨cS_15_0, cS_15_1, cS_15_2, cB_15_0, cB_15_1, cB_15_2⟩ | exact ⟨cS_14_0, cS_14_1, cS_14_2, cB_14_0, cB_14_1, cB_14_2⟩ | exact ⟨cS_13_0, cS_13_1, cS_13_2, cB_13_0, cB_13_1, cB_13_2⟩ | exact ⟨cS_12_0, cS_12_1, cS_12_2, cB_12_0, cB_12_1, cB_12_2⟩ | exact ⟨cS_11_0, cS_11_1, cS_11_2, cB_11_0, cB_11_1, cB_11_2⟩ | exact ⟨cS_10_0, cS_10_1, cS_10_2, cB_10_0, cB_10_1, cB_10_2⟩ | exact ⟨cS_9_0, cS_9_1, cS_9_2, cB_9_0, cB_9_1, cB_9_2⟩ | exact ⟨cS_8_0, cS_8_1, cS_8_2, cB_8_0, cB_8_1, cB_8_2⟩ | exact ⟨cS_7_0, cS_7_1, cS_7_2, cB_7_0, cB_7_1, cB_7_2⟩ | exact ⟨cS_6_0, cS_6_1, cS_6_2, cB_6_0, cB_6_1, cB_6_2⟩ | exact ⟨cS_5_0, cS_5_1, cS_5_2, cB_5_0, cB_5_1, cB_5_2⟩ | go_keep)
    (first
      | (go_at_call 25; ((with_reducible refine Calls.mono (RS.out _ NX_17.out) ?_); rintro e w18 ⟨rfl, k18⟩; have T_18 := Lib.hid (T_17.out.keep k18); have X_18 := Lib.hid (X_17.out.keep k18); have X'_18 := Lib.hid (X'_17.out.keep k18); have NX_18 := Lib.hid (NX_17.out.keep k18); have B_18 := Lib.hid (B_17.out.keep k18); have CS_18 := Lib.hid (CS_17.out.keep k18); have S_18 := Lib.hid (S_17.out.keep k18); have A_18 := Lib.hid (A_17.out.keep k18); have E_18 := Lib.hid (E_17.out.keep k18); have F_18 := Lib.hid (F_17.out.keep k18); have G_18 := Lib.hid (G_17.out.keep k18); have H_18 := Lib.hid (H_17.out.keep k18); have KW_18 := Lib.hid (KW_17.out.trans k18); obtain ⟨cS_18_0, cS_18_1, cS_18_2, -, -, -, -⟩ := id S_18.out; obtain ⟨cB_18_0, cB_18_1, cB_18_2, -, -, -, -⟩ := id B_18.out; clear k18))
      | (go_at_call 24; ((with_reducible refine Calls.mono (SG.out _ NX_16.out) ?_); rintro e w17 ⟨rfl, k17⟩; have T_17 := Lib.hid (T_16.out.keep k17); have X_17 := Lib.hid (X_16.out.keep k17); have X'_17 := Lib.hid (X'_16.out.keep k17); have NX_17 := Lib.hid (NX_16.out.keep k17); have B_17 := Lib.hid (B_16.out.keep k17); have CS_17 := Lib.hid (CS_16.out.keep k17); have S_17 := Lib.hid (S_16.out.keep k17); have A_17 := Lib.hid (A_16.out.keep k17); have E_17 := Lib.hid (E_16.out.keep k17); have F_17 := Lib.hid (F_16.out.keep k17); have G_17 := Lib.hid (G_16.out.keep k17); have H_17 := Lib.hid (H_16.out.keep k17); have KW_17 := Lib.hid (KW_16.out.trans k17); obtain ⟨cS_17_0, cS_17_1, cS_17_2, -, -, -, -⟩ := id S_17.out; obtain ⟨cB_17_0, cB_17_1, cB_17_2, -, -, -, -⟩ := id B_17.out; clear k17))
      | (go_at_call 21; ((with_reducible refine Calls.mono (same_t G_15.out H_15.out rfl) ?_); rintro e w16 ⟨rfl, k16⟩; have T_16 := Lib.hid (T_15.out.keep k16); have X_16 := Lib.hid (X_15.out.keep k16); have X'_16 := Lib.hid (X'_15.out.keep k16); have NX_16 := Lib.hid (NX_15.out.keep k16); have B_16 := Lib.hid (B_15.out.keep k16); have CS_16 := Lib.hid (CS_15.out.keep k16); have S_16 := Lib.hid (S_15.out.keep k16); have A_16 := Lib.hid (A_15.out.keep k16); have E_16 := Lib.hid (E_15.out.keep k16); have F_16 := Lib.hid (F_15.out.keep k16); have G_16 := Lib.hid (G_15.out.keep k16); have H_16 := Lib.hid (H_15.out.keep k16); have KW_16 := Lib.hid (KW_15.out.trans k16); obtain ⟨cS_16_0, cS_16_1, cS_16_2, -, -, -, -⟩ := id S_16.out; obtain ⟨cB_16_0, cB_16_1, cB_16_2, -, -, -, -⟩ := id B_16.out; clear k16))
      | (go_at_call 23; ((with_reducible refine Calls.mono (RD.out _ NX_14.out) ?_); rintro e w15 ⟨x5, rfl, hE, k15⟩; have T_15 := Lib.hid (T_14.out.keep k15); have X_15 := Lib.hid (X_14.out.keep k15); have X'_15 := Lib.hid (X'_14.out.keep k15); have NX_15 := Lib.hid (NX_14.out.keep k15); have B_15 := Lib.hid (B_14.out.keep k15); have CS_15 := Lib.hid (CS_14.out.keep k15); have S_15 := Lib.hid (S_14.out.keep k15); have A_15 := Lib.hid (A_14.out.keep k15); have E_15 := Lib.hid (E_14.out.keep k15); have F_15 := Lib.hid (F_14.out.keep k15); have G_15 := Lib.hid (G_14.out.keep k15); have H_15 := Lib.hid hE; clear hE; have KW_15 := Lib.hid (KW_14.out.trans k15); obtain ⟨cS_15_0, cS_15_1, cS_15_2, -, -, -, -⟩ := id S_15.out; obtain ⟨cB_15_0, cB_15_1, cB_15_2, -, -, -, -⟩ := id B_15.out; clear k15))
      | (go_at_call 22; ((with_reducible refine Calls.mono (DE.out _ NX_13.out T_13.out) ?_); rintro e w14 ⟨x4, rfl, hD, k14⟩; have T_14 := Lib.hid (T_13.out.keep k14); have X_14 := Lib.hid (X_13.out.keep k14); have X'_14 := Lib.hid (X'_13.out.keep k14); have NX_14 := Lib.hid (NX_13.out.keep k14); have B_14 := Lib.hid (B_13.out.keep k14); have CS_14 := Lib.hid (CS_13.out.keep k14); have S_14 := Lib.hid (S_13.out.keep k14); have A_14 := Lib.hid (A_13.out.keep k14); have E_14 := Lib.hid (E_13.out.keep k14); have F_14 := Lib.hid (F_13.out.keep k14); have G_14 := Lib.hid hD; clear hD; have KW_14 := Lib.hid (KW_13.out.trans k14); obtain ⟨cS_14_0, cS_14_1, cS_14_2, -, -, -, -⟩ := id S_14.out; obtain ⟨cB_14_0, cB_14_1, cB_14_2, -, -, -, -⟩ := id B_14.out; clear k14))
      | (go_at_call 18; ((with_reducible refine Calls.mono (isame_t E_12.out F_12.out rfl) ?_); rintro e w13 ⟨rfl, k13⟩; have T_13 := Lib.hid (T_12.out.keep k13); have X_13 := Lib.hid (X_12.out.keep k13); have X'_13 := Lib.hid (X'_12.out.keep k13); have NX_13 := Lib.hid (NX_12.out.keep k13); have B_13 := Lib.hid (B_12.out.keep k13); have CS_13 := Lib.hid (CS_12.out.keep k13); have S_13 := Lib.hid (S_12.out.keep k13); have A_13 := Lib.hid (A_12.out.keep k13); have E_13 := Lib.hid (E_12.out.keep k13); have F_13 := Lib.hid (F_12.out.keep k13); have KW_13 := Lib.hid (KW_12.out.trans k13); obtain ⟨cS_13_0, cS_13_1, cS_13_2, -, -, -, -⟩ := id S_13.out; obtain ⟨cB_13_0, cB_13_1, cB_13_2, -, -, -, -⟩ := id B_13.out; clear k13))
      | (go_at_call 20; ((with_reducible refine Calls.mono (RN.out _ NX_11.out) ?_); rintro e w12 ⟨x3, rfl, hC, k12⟩; have T_12 := Lib.hid (T_11.out.keep k12); have X_12 := Lib.hid (X_11.out.keep k12); have X'_12 := Lib.hid (X'_11.out.keep k12); have NX_12 := Lib.hid (NX_11.out.keep k12); have B_12 := Lib.hid (B_11.out.keep k12); have CS_12 := Lib.hid (CS_11.out.keep k12); have S_12 := Lib.hid (S_11.out.keep k12); have A_12 := Lib.hid (A_11.out.keep k12); have E_12 := Lib.hid (E_11.out.keep k12); have F_12 := Lib.hid hC; clear hC; have KW_12 := Lib.hid (KW_11.out.trans k12); obtain ⟨cS_12_0, cS_12_1, cS_12_2, -, -, -, -⟩ := id S_12.out; obtain ⟨cB_12_0, cB_12_1, cB_12_2, -, -, -, -⟩ := id B_12.out; clear k12))
      | (go_at_call 19; ((with_reducible refine Calls.mono (NU.out _ NX_10.out T_10.out) ?_); rintro e w11 ⟨x2, rfl, hB, k11⟩; have T_11 := Lib.hid (T_10.out.keep k11); have X_11 := Lib.hid (X_10.out.keep k11); have X'_11 := Lib.hid (X'_10.out.keep k11); have NX_11 := Lib.hid (NX_10.out.keep k11); have B_11 := Lib.hid (B_10.out.keep k11); have CS_11 := Lib.hid (CS_10.out.keep k11); have S_11 := Lib.hid (S_10.out.keep k11); have A_11 := Lib.hid (A_10.out.keep k11); have E_11 := Lib.hid hB; clear hB; have KW_11 := Lib.hid (KW_10.out.trans k11); obtain ⟨cS_11_0, cS_11_1, cS_11_2, -, -, -, -⟩ := id S_11.out; obtain ⟨cB_11_0, cB_11_1, cB_11_2, -, -, -, -⟩ := id B_11.out; clear k11))
      | (go_at_call 16; ((with_reducible refine Calls.mono (VT.out _ _ CS_9.out T_9.out) ?_); rintro e w10 ⟨rfl, k10⟩; have T_10 := Lib.hid (T_9.out.keep k10); have X_10 := Lib.hid (X_9.out.keep k10); have X'_10 := Lib.hid (X'_9.out.keep k10); have NX_10 := Lib.hid (NX_9.out.keep k10); have B_10 := Lib.hid (B_9.out.keep k10); have CS_10 := Lib.hid (CS_9.out.keep k10); have S_10 := Lib.hid (S_9.out.keep k10); have A_10 := Lib.hid (A_9.out.keep k10); have KW_10 := Lib.hid (KW_9.out.trans k10); obtain ⟨cS_10_0, cS_10_1, cS_10_2, -, -, -, -⟩ := id S_10.out; obtain ⟨cB_10_0, cB_10_1, cB_10_2, -, -, -, -⟩ := id B_10.out; clear k10))
      | (go_at_call 17; ((with_reducible refine Calls.mono (VB.out _ X_8.out X'_8.out) ?_); rintro e w9 ⟨rfl, k9⟩; have T_9 := Lib.hid (T_8.out.keep k9); have X_9 := Lib.hid (X_8.out.keep k9); have X'_9 := Lib.hid (X'_8.out.keep k9); have NX_9 := Lib.hid (NX_8.out.keep k9); have B_9 := Lib.hid (B_8.out.keep k9); have CS_9 := Lib.hid (CS_8.out.keep k9); have S_9 := Lib.hid (S_8.out.keep k9); have A_9 := Lib.hid (A_8.out.keep k9); have KW_9 := Lib.hid (KW_8.out.trans k9); obtain ⟨cS_9_0, cS_9_1, cS_9_2, -, -, -, -⟩ := id S_9.out; obtain ⟨cB_9_0, cB_9_1, cB_9_2, -, -, -, -⟩ := id B_9.out; clear k9))
      | (go_at_call_of 16 (Value.agg #[Value.bool s, Value.slice a n c, Value.slice a' n' c']); ((with_reducible refine Calls.mono (VA.out _ X_7.out X'_7.out T_7.out) ?_); rintro e w8 ⟨rfl, k8⟩; have T_8 := Lib.hid (T_7.out.keep k8); have X_8 := Lib.hid (X_7.out.keep k8); have X'_8 := Lib.hid (X'_7.out.keep k8); have NX_8 := Lib.hid (NX_7.out.keep k8); have B_8 := Lib.hid (B_7.out.keep k8); have CS_8 := Lib.hid (CS_7.out.keep k8); have S_8 := Lib.hid (S_7.out.keep k8); have A_8 := Lib.hid (A_7.out.keep k8); have KW_8 := Lib.hid (KW_7.out.trans k8); obtain ⟨cS_8_0, cS_8_1, cS_8_2, -, -, -, -⟩ := id S_8.out; obtain ⟨cB_8_0, cB_8_1, cB_8_2, -, -, -, -⟩ := id B_8.out; clear k8))
      | (go_at_call 14; ((with_reducible refine Calls.mono (qsame_t CS_6.out A_6.out) ?_); rintro e w7 ⟨rfl, k7⟩; have T_7 := Lib.hid (T_6.out.keep k7); have X_7 := Lib.hid (X_6.out.keep k7); have X'_7 := Lib.hid (X'_6.out.keep k7); have NX_7 := Lib.hid (NX_6.out.keep k7); have B_7 := Lib.hid (B_6.out.keep k7); have CS_7 := Lib.hid (CS_6.out.keep k7); have S_7 := Lib.hid (S_6.out.keep k7); have A_7 := Lib.hid (A_6.out.keep k7); have KW_7 := Lib.hid (KW_6.out.trans k7); obtain ⟨cS_7_0, cS_7_1, cS_7_2, -, -, -, -⟩ := id S_7.out; obtain ⟨cB_7_0, cB_7_1, cB_7_2, -, -, -, -⟩ := id B_7.out; clear k7))
      | (go_at_call 15; ((with_reducible refine Calls.mono (RC.out _ NX_5.out) ?_); rintro e w6 ⟨x1, rfl, hA, k6⟩; have T_6 := Lib.hid (T_5.out.keep k6); have X_6 := Lib.hid (X_5.out.keep k6); have X'_6 := Lib.hid (X'_5.out.keep k6); have NX_6 := Lib.hid (NX_5.out.keep k6); have B_6 := Lib.hid (B_5.out.keep k6); have CS_6 := Lib.hid (CS_5.out.keep k6); have S_6 := Lib.hid (S_5.out.keep k6); have A_6 := Lib.hid hA; clear hA; have KW_6 := Lib.hid (KW_5.out.trans k6); obtain ⟨cS_6_0, cS_6_1, cS_6_2, -, -, -, -⟩ := id S_6.out; obtain ⟨cB_6_0, cB_6_1, cB_6_2, -, -, -, -⟩ := id B_6.out; clear k6)))
  clear cS_18_0 cS_18_1 cS_18_2 cB_18_0 cB_18_1 cB_18_2 cS_17_0 cS_17_1 cS_17_2 cB_17_0 cB_17_1 cB_17_2 cS_16_0 cS_16_1 cS_16_2 cB_16_0 cB_16_1 cB_16_2 cS_15_0 cS_15_1 cS_15_2 cB_15_0 cB_15_1 cB_15_2 cS_14_0 cS_14_1 cS_14_2 cB_14_0 cB_14_1 cB_14_2 cS_13_0 cS_13_1 cS_13_2 cB_13_0 cB_13_1 cB_13_2 cS_12_0 cS_12_1 cS_12_2 cB_12_0 cB_12_1 cB_12_2 cS_11_0 cS_11_1 cS_11_2 cB_11_0 cB_11_1 cB_11_2 cS_10_0 cS_10_1 cS_10_2 cB_10_0 cB_10_1 cB_10_2 cS_9_0 cS_9_1 cS_9_2 cB_9_0 cB_9_1 cB_9_2 cS_8_0 cS_8_1 cS_8_2 cB_8_0 cB_8_1 cB_8_2 cS_7_0 cS_7_1 cS_7_2 cB_7_0 cB_7_1 cB_7_2 cS_6_0 cS_6_1 cS_6_2 cB_6_0 cB_6_1 cB_6_2 cS_5_0 cS_5_1 cS_5_2 cB_5_0 cB_5_1 cB_5_2
  all_goals
    go_wp2_with fail
    go_ret
    exact ⟨rfl, KW_18.out⟩
theorem canon_law_c {w : World} {s : Bool} {a a' : Option Addr} {n c n' c' : Nat} {lx lx' : List Nat} (hx : Rd w a n c lx) (hx' : Rd w a' n' c' lx') (hT : Tab w) : Calls Tryd.prog 3 #[.agg #[.bool s, .slice a n c, .slice a' n' c']] w (BPost true w) := by
  by_cases fx : (n ≤ 3 ∧ n' ≤ 3)
  · exact canon_law_s hx hx' hT fx
  · exact canon_law_b0 hx hx' hT fx
theorem cr_zero (w : World) : Cr w (.agg #[.bool false, .slice none 0 0, .slice none 0 0]) 0 :=
  Cr.of (by decide) (by show Rd w none 0 0 (dig 0); rw [dig_zero]; exact Rd.nil w) (by show Rd w none 0 0 (dig 0); rw [dig_zero]; exact Rd.nil w)
theorem rS_wrap (q : Rat) : IntKind.i64.wrap (-rS q) = rS (-q) := by
  rw [rS_neg]
  rcases rS_range q with h | h | h <;> rw [h] <;> decide
set_option maxHeartbeats 4000000 in
theorem neg_law_b0 {w : World} {s : Bool} {a a' : Option Addr} {n c n' c' : Nat} {lx lx' : List Nat} (hx : Rd w a n c lx) (hx' : Rd w a' n' c' lx') (hT : Tab w)  (fx : ¬ (n ≤ 3 ∧ n' ≤ 3)) : Calls Tryd.prog 10 #[.agg #[.bool s, .slice a n c, .slice a' n' c']] w (BPost true w) := by
  obtain ⟨B_0, KW_0⟩ := ops1 w s a n c a' n' c'
  have T_0 := Lib.hid (hT.keep KW_0.out)
  have AW := Lib.hid (fun w1 (hT1 : Tab w1) => awake_c w1 hT1)
  have FX := Lib.hid (fun w1 (h : Rd w1 a n c lx) (h' : Rd w1 a' n' c' lx') => few_c (s := s) h h')
  rw [decide_eq_false fx] at FX
  have X_0 := Lib.hid (hx.below KW_0.out)
  have X'_0 := Lib.hid (hx'.below KW_0.out)
  clear hT hx hx'
  go_enter Tryd.func10, Tryd.ntmps10
  obtain ⟨B_c0, B_c1, B_c2, -, -, -, -⟩ := id B_0.out
  go_wp2_with fail
  refine Calls.mono (AW.out _ T_0.out) ?_
  rintro e w1 ⟨rfl, k1⟩
  clear B_c0 B_c1 B_c2
  have T_1 := Lib.hid (T_0.out.keep k1)
  have X_1 := Lib.hid (X_0.out.keep k1)
  have X'_1 := Lib.hid (X'_0.out.keep k1)
  have B_1 := Lib.hid (B_0.out.keep k1)
  have KW_1 := Lib.hid (KW_0.out.trans k1)
  clear k1 T_0 X_0 X'_0 B_0 KW_0
  obtain ⟨B_c0, B_c1, B_c2, -, -, -, -⟩ := id B_1.out
  go_wp2_with fail
  refine Calls.mono (FX.out _ X_1.out X'_1.out) ?_
  rintro e w2 ⟨rfl, k2⟩
  clear B_c0 B_c1 B_c2
  have T_2 := Lib.hid (T_1.out.keep k2)
  have X_2 := Lib.hid (X_1.out.keep k2)
  have X'_2 := Lib.hid (X'_1.out.keep k2)
  have B_2 := Lib.hid (B_1.out.keep k2)
  have KW_2 := Lib.hid (KW_1.out.trans k2)
  clear k2 T_1 X_1 X'_1 B_1 KW_1
  obtain ⟨B_c0, B_c1, B_c2, -, -, -, -⟩ := id B_2.out
  go_wp2_with fail
  go_ret
  exact ⟨rfl, KW_2.out⟩
set_option maxHeartbeats 4000000 in
theorem neg_law_s {w : World} {s : Bool} {a a' : Option Addr} {n c n' c' : Nat} {lx lx' : List Nat} (hx : Rd w a n c lx) (hx' : Rd w a' n' c' lx') (hT : Tab w) (fx : (n ≤ 3 ∧ n' ≤ 3)) : Calls Tryd.prog 10 #[.agg #[.bool s, .slice a n c, .slice a' n' c']] w (BPost true w) := by
  obtain ⟨B_0, KW_0⟩ := ops1 w s a n c a' n' c'
  have T_0 := Lib.hid (hT.keep KW_0.out)
  have AW := Lib.hid (fun w1 (hT1 : Tab w1) => awake_c w1 hT1)
  have FX := Lib.hid (fun w1 (h : Rd w1 a n c lx) (h' : Rd w1 a' n' c' lx') => few_c (s := s) h h')
  rw [decide_eq_true fx] at FX
  have X_0 := Lib.hid (hx.below KW_0.out)
  have X'_0 := Lib.hid (hx'.below KW_0.out)
  have lX : lx.length ≤ 3 := by rw [hx.len_eq]; exact fx.1
  have lX' : lx'.length ≤ 3 := by rw [hx'.len_eq]; exact fx.2
  have nX : Ra w (.agg #[.bool s, .slice a n c, .slice a' n' c']) (rv s (nv lx) (nv lx')) 3 := ⟨_, _, _, _, _, rfl, hx.toNm rfl lX, hx'.toNm rfl lX', rfl⟩
  obtain ⟨p, hXq⟩ : ∃ q, rv s (nv lx) (nv lx') = q := ⟨_, rfl⟩
  rw [hXq] at nX
  have NX_0 := Lib.hid (nX.keep KW_0.out)
  have rbp := nX.rb (by omega)
  have NG := Lib.hid (fun w1 (h : Ra w1 (.agg #[.bool s, .slice a n c, .slice a' n' c']) p 3) (hT1 : Tab w1) => neg_c h (by omega) (by omega) hT1)
  have RG := Lib.hid (fun w1 (h : Ra w1 (.agg #[.bool s, .slice a n c, .slice a' n' c']) p 3) => rneg_c h (by omega) (by omega))
  have AD := Lib.hid (fun w1 u (h : Ra w1 (.agg #[.bool s, .slice a n c, .slice a' n' c']) p 3) (hu : Cr w1 u (-p)) (hT1 : Tab w1) => qadd_c h (hu.ra rbp.neg) (by omega) (by omega) hT1)
  have h0 : p + -p = 0 := by grind
  rw [h0] at AD
  have S1 := Lib.hid (fun w1 u (hu : Cr w1 u (-p)) => qsign_c (hu.ra rbp.neg) (by omega))
  have S2 := Lib.hid (fun w1 (h : Ra w1 (.agg #[.bool s, .slice a n c, .slice a' n' c']) p 3) => qsign_c h (by omega))
  have hw := rS_wrap p
  obtain ⟨y, hy⟩ : ∃ y, rS (-p) = y := ⟨_, rfl⟩
  rw [hy] at S1 hw
  obtain ⟨z, hz⟩ : ∃ z, rS p = z := ⟨_, rfl⟩
  rw [hz] at S2 hw
  clear hT hx hx' fx lX lX' nX hXq rbp hy hz h0
  go_enter Tryd.func10, Tryd.ntmps10
  obtain ⟨B_c0, B_c1, B_c2, -, -, -, -⟩ := id B_0.out
  go_wp2_with fail
  refine Calls.mono (AW.out _ T_0.out) ?_
  rintro e w1 ⟨rfl, k1⟩
  clear B_c0 B_c1 B_c2
  have T_1 := Lib.hid (T_0.out.keep k1)
  have X_1 := Lib.hid (X_0.out.keep k1)
  have X'_1 := Lib.hid (X'_0.out.keep k1)
  have NX_1 := Lib.hid (NX_0.out.keep k1)
  have B_1 := Lib.hid (B_0.out.keep k1)
  have KW_1 := Lib.hid (KW_0.out.trans k1)
  clear k1 T_0 X_0 X'_0 NX_0 B_0 KW_0
  obtain ⟨B_c0, B_c1, B_c2, -, -, -, -⟩ := id B_1.out
  go_wp2_with fail
  refine Calls.mono (FX.out _ X_1.out X'_1.out) ?_
  rintro e w2 ⟨rfl, k2⟩
  clear B_c0 B_c1 B_c2
  have T_2 := Lib.hid (T_1.out.keep k2)
  have X_2 := Lib.hid (X_1.out.keep k2)
  have X'_2 := Lib.hid (X'_1.out.keep k2)
  have NX_2 := Lib.hid (NX_1.out.keep k2)
  have B_2 := Lib.hid (B_1.out.keep k2)
  have KW_2 := Lib.hid (KW_1.out.trans k2)
  clear k2 T_1 X_1 X'_1 NX_1 B_1 KW_1
  clear AW FX
  clear X_2 X'_2
  obtain ⟨B_c0, B_c1, B_c2, -, -, -, -⟩ := id B_2.out
  go_wp2_with fail
  refine Calls.mono (NG.out _ NX_2.out T_2.out) ?_
  rintro e w3 ⟨vS, rfl, hS, k3⟩
  clear B_c0 B_c1 B_c2
  have T_3 := Lib.hid (T_2.out.keep k3)
  have NX_3 := Lib.hid (NX_2.out.keep k3)
  have B_3 := Lib.hid (B_2.out.keep k3)
  have CS_3 := Lib.hid hS
  have KW_3 := Lib.hid (KW_2.out.trans k3)
  clear k3 T_2 NX_2 B_2 hS KW_2
  obtain ⟨aS, nS, cS, a'S, n'S, c'S, rfl, -⟩ := Cr.form CS_3.out
  have CS_3_x := CS_3.out
  obtain ⟨bS, hbS⟩ : ∃ b, decide ((-p).num < 0) = b := ⟨_, rfl⟩
  rw [hbS] at CS_3_x ⊢
  have CS_3_y := Lib.hid CS_3_x
  clear CS_3_x hbS CS_3
  have T_4 := Lib.hid (T_3.out.keep ((Keep.refl _).alloc (.cells #[.bool bS, .slice aS nS cS, .slice a'S n'S c'S] 25)))
  have NX_4 := Lib.hid (NX_3.out.keep ((Keep.refl _).alloc (.cells #[.bool bS, .slice aS nS cS, .slice a'S n'S c'S] 25)))
  have B_4 := Lib.hid (B_3.out.keep ((Keep.refl _).alloc (.cells #[.bool bS, .slice aS nS cS, .slice a'S n'S c'S] 25)))
  have CS_4 := Lib.hid (CS_3_y.out.keep ((Keep.refl _).alloc (.cells #[.bool bS, .slice aS nS cS, .slice a'S n'S c'S] 25)))
  have KW_4 := Lib.hid (KW_3.out.trans ((Keep.refl _).alloc (.cells #[.bool bS, .slice aS nS cS, .slice a'S n'S c'S] 25)))
  clear T_3 NX_3 B_3 CS_3_y KW_3
  have S_4 := Lib.hid (QBox.new w3 bS aS nS cS a'S n'S c'S)
  clear NG
  have T_5 := Lib.hid (T_4.out.keep (keep_drew _))
  clear T_4
  have NX_5 := Lib.hid (NX_4.out.keep (keep_drew _))
  clear NX_4
  have B_5 := Lib.hid (B_4.out.keep (keep_drew _))
  clear B_4
  have CS_5 := Lib.hid (CS_4.out.keep (keep_drew _))
  clear CS_4
  have S_5 := Lib.hid (S_4.out.keep (keep_drew _))
  clear S_4
  have KW_5 := Lib.hid (KW_4.out.trans (keep_drew _))
  clear KW_4
  obtain ⟨cS_5_0, cS_5_1, cS_5_2, -, -, -, -⟩ := id S_5.out
  obtain ⟨cB_5_0, cB_5_1, cB_5_2, -, -, -, -⟩ := id B_5.out
  go_wp2
  go_region_held3 (fun w' => w'.cell? ⟨w3.heap.size, 0, none⟩ = some (.bool bS) ∧ w'.cell? ⟨w3.heap.size, 1, none⟩ = some (.slice aS nS cS) ∧ w'.cell? ⟨w3.heap.size, 2, none⟩ = some (.slice a'S n'S c'S) ∧ w'.cell? ⟨w.heap.size, 0, none⟩ = some (.bool s) ∧ w'.cell? ⟨w.heap.size, 1, none⟩ = some (.slice a n c) ∧ w'.cell? ⟨w.heap.size, 2, none⟩ = some (.slice a' n' c')) (first | exact ⟨cS_11_0, cS_11_1, cS_11_2, cB_11_0, cB_11_1, cB_11_2⟩ | exact ⟨cS_10_0, cS_10_1, cS_10_2, cB_10_0, cB_10_1, cB_10_2⟩ | exact ⟨cS_9_0, cS_9_1, cS_9_2, cB_9_0, cB_9_1, cB_9_2⟩ | exact ⟨cS_8_0, cS_8_1, cS_8_2, cB_8_0, cB_8_1, cB_8_2⟩ | exact ⟨cS_7_0, cS_7_1, cS_7_2, cB_7_0, cB_7_1, cB_7_2⟩ | exact ⟨cS_6_0, cS_6_1, cS_6_2, cB_6_0, cB_6_1, cB_6_2⟩ | exact ⟨cS_5_0, cS_5_1, cS_5_2, cB_5_0, cB_5_1, cB_5_2⟩ | go_keep)
    (first
      | (go_at_call 24; ((with_reducible refine Calls.mono (S2.out _ NX_10.out) ?_); rintro e w11 ⟨rfl, k11⟩; have T_11 := Lib.hid (T_10.out.keep k11); have NX_11 := Lib.hid (NX_10.out.keep k11); have B_11 := Lib.hid (B_10.out.keep k11); have CS_11 := Lib.hid (CS_10.out.keep k11); have S_11 := Lib.hid (S_10.out.keep k11); have A_11 := Lib.hid (A_10.out.keep k11); have E_11 := Lib.hid (E_10.out.keep k11); have KW_11 := Lib.hid (KW_10.out.trans k11); obtain ⟨cS_11_0, cS_11_1, cS_11_2, -, -, -, -⟩ := id S_11.out; obtain ⟨cB_11_0, cB_11_1, cB_11_2, -, -, -, -⟩ := id B_11.out; clear k11))
      | (go_at_call 24; ((with_reducible refine Calls.mono (S1.out _ _ CS_9.out) ?_); rintro e w10 ⟨rfl, k10⟩; have T_10 := Lib.hid (T_9.out.keep k10); have NX_10 := Lib.hid (NX_9.out.keep k10); have B_10 := Lib.hid (B_9.out.keep k10); have CS_10 := Lib.hid (CS_9.out.keep k10); have S_10 := Lib.hid (S_9.out.keep k10); have A_10 := Lib.hid (A_9.out.keep k10); have E_10 := Lib.hid (E_9.out.keep k10); have KW_10 := Lib.hid (KW_9.out.trans k10); obtain ⟨cS_10_0, cS_10_1, cS_10_2, -, -, -, -⟩ := id S_10.out; obtain ⟨cB_10_0, cB_10_1, cB_10_2, -, -, -, -⟩ := id B_10.out; clear k10))
      | (go_at_call 14; ((with_reducible refine Calls.mono (qsame_t E_8.out (cr_zero _)) ?_); rintro e w9 ⟨rfl, k9⟩; have T_9 := Lib.hid (T_8.out.keep k9); have NX_9 := Lib.hid (NX_8.out.keep k9); have B_9 := Lib.hid (B_8.out.keep k9); have CS_9 := Lib.hid (CS_8.out.keep k9); have S_9 := Lib.hid (S_8.out.keep k9); have A_9 := Lib.hid (A_8.out.keep k9); have E_9 := Lib.hid (E_8.out.keep k9); have KW_9 := Lib.hid (KW_8.out.trans k9); obtain ⟨cS_9_0, cS_9_1, cS_9_2, -, -, -, -⟩ := id S_9.out; obtain ⟨cB_9_0, cB_9_1, cB_9_2, -, -, -, -⟩ := id B_9.out; clear k9))
      | (go_at_call 32; ((with_reducible refine Calls.mono (AD.out _ _ NX_7.out CS_7.out T_7.out) ?_); rintro e w8 ⟨x2, rfl, hB, k8⟩; have T_8 := Lib.hid (T_7.out.keep k8); have NX_8 := Lib.hid (NX_7.out.keep k8); have B_8 := Lib.hid (B_7.out.keep k8); have CS_8 := Lib.hid (CS_7.out.keep k8); have S_8 := Lib.hid (S_7.out.keep k8); have A_8 := Lib.hid (A_7.out.keep k8); have E_8 := Lib.hid hB; clear hB; have KW_8 := Lib.hid (KW_7.out.trans k8); obtain ⟨cS_8_0, cS_8_1, cS_8_2, -, -, -, -⟩ := id S_8.out; obtain ⟨cB_8_0, cB_8_1, cB_8_2, -, -, -, -⟩ := id B_8.out; clear k8))
      | (go_at_call 14; ((with_reducible refine Calls.mono (qsame_t CS_6.out A_6.out) ?_); rintro e w7 ⟨rfl, k7⟩; have T_7 := Lib.hid (T_6.out.keep k7); have NX_7 := Lib.hid (NX_6.out.keep k7); have B_7 := Lib.hid (B_6.out.keep k7); have CS_7 := Lib.hid (CS_6.out.keep k7); have S_7 := Lib.hid (S_6.out.keep k7); have A_7 := Lib.hid (A_6.out.keep k7); have KW_7 := Lib.hid (KW_6.out.trans k7); obtain ⟨cS_7_0, cS_7_1, cS_7_2, -, -, -, -⟩ := id S_7.out; obtain ⟨cB_7_0, cB_7_1, cB_7_2, -, -, -, -⟩ := id B_7.out; clear k7))
      | (go_at_call 51; ((with_reducible refine Calls.mono (RG.out _ NX_5.out) ?_); rintro e w6 ⟨x1, rfl, hA, k6⟩; have T_6 := Lib.hid (T_5.out.keep k6); have NX_6 := Lib.hid (NX_5.out.keep k6); have B_6 := Lib.hid (B_5.out.keep k6); have CS_6 := Lib.hid (CS_5.out.keep k6); have S_6 := Lib.hid (S_5.out.keep k6); have A_6 := Lib.hid hA; clear hA; have KW_6 := Lib.hid (KW_5.out.trans k6); obtain ⟨cS_6_0, cS_6_1, cS_6_2, -, -, -, -⟩ := id S_6.out; obtain ⟨cB_6_0, cB_6_1, cB_6_2, -, -, -, -⟩ := id B_6.out; clear k6)))
  clear cS_11_0 cS_11_1 cS_11_2 cB_11_0 cB_11_1 cB_11_2 cS_10_0 cS_10_1 cS_10_2 cB_10_0 cB_10_1 cB_10_2 cS_9_0 cS_9_1 cS_9_2 cB_9_0 cB_9_1 cB_9_2 cS_8_0 cS_8_1 cS_8_2 cB_8_0 cB_8_1 cB_8_2 cS_7_0 cS_7_1 cS_7_2 cB_7_0 cB_7_1 cB_7_2 cS_6_0 cS_6_1 cS_6_2 cB_6_0 cB_6_1 cB_6_2 cS_5_0 cS_5_1 cS_5_2 cB_5_0 cB_5_1 cB_5_2
  all_goals
    go_wp2_with fail
    go_ret
    exact ⟨rfl, KW_11.out⟩
theorem neg_law_c {w : World} {s : Bool} {a a' : Option Addr} {n c n' c' : Nat} {lx lx' : List Nat} (hx : Rd w a n c lx) (hx' : Rd w a' n' c' lx') (hT : Tab w) : Calls Tryd.prog 10 #[.agg #[.bool s, .slice a n c, .slice a' n' c']] w (BPost true w) := by
  by_cases fx : (n ≤ 3 ∧ n' ≤ 3)
  · exact neg_law_s hx hx' hT fx
  · exact neg_law_b0 hx hx' hT fx
end Go.Proofs.YtjkfnnoakjdgmaaDoor
