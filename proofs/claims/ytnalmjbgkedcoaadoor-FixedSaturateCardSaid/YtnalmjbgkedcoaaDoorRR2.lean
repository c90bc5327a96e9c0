/- Carried over from another seat by program (portn.py). -/
import Derived.Test.YtnalmjbgkedcoaaDoorRR1
import Derived.Test.YtnalmjbgkedcoaaDoorIJ
import Derived.Test.YtnalmjbgkedcoaaDoorR8
import Derived.Outline
import Derived.RegionTactic
namespace Go.Proofs.YtnalmjbgkedcoaaDoor
open Go.RowKit
set_option linter.unusedVariables false
def DmQ (A B : Nat) (w : World) (e : Ending) (w' : World) : Prop := ∃ x y, e = .returned (.tuple #[x, y, .int .i64 (dmE B)]) ∧ Cn w' x (A / B) ∧ Cn w' y (dmR A B) ∧ Keep w w'
theorem cn_nil' (w : World) : Cn w (.slice none 0 0) 0 := ⟨none, 0, 0, rfl, by rw [dig_zero]; exact Rd.nil w⟩
theorem rdm_zero {w : World} {v u : Value} {A k j : Nat} (h : Nm w v A k) (h' : Nm w u 0 j) (hk : k ≤ 1048574) (hj : j ≤ 1048574) : Calls Tryd.prog 77 #[v, u] w (DmQ A 0 w) := by
  have U1 := Lib.hid (ruint_n h (by omega))
  have U2 := Lib.hid (fun w1 (h : Nm w1 u 0 j) => ruint_n h (by omega))
  have Y_0 := Lib.hid h'
  obtain ⟨x, hx⟩ : ∃ x, uintV A = x := ⟨_, rfl⟩
  obtain ⟨t, ht⟩ : ∃ x, uintB A = x := ⟨_, rfl⟩
  rw [hx, ht] at U1
  rw [show uintV 0 = 0 from rfl, show uintB 0 = true from rfl] at U2
  have HD : Hid (A / 0 = 0 ∧ dmR A 0 = 0 ∧ dmE 0 = 3) := Lib.hid ⟨Nat.div_zero A, rfl, rfl⟩
  clear h h' hx ht
  go_enter Tryd.func77, Tryd.ntmps77
  go_wp2_with fail
  refine Calls.mono U1.out ?_
  rintro e w1 ⟨rfl, k1⟩
  have Y_1 := Lib.hid (Y_0.out.keep k1)
  have KW_1 := Lib.hid k1
  clear k1 Y_0
  go_wp2_with fail
  refine Calls.mono (U2.out _ Y_1.out) ?_
  rintro e w2 ⟨rfl, k2⟩
  have KW_2 := Lib.hid (KW_1.out.trans k2)
  clear k2 Y_1 KW_1
  go_wp2_with fail
  go_ret3
  unfold DmQ
  rw [HD.out.1, HD.out.2.1, HD.out.2.2]
  exact ⟨_, _, rfl, cn_nil' _, cn_nil' _, KW_2.out⟩
set_option maxHeartbeats 800000 in
theorem rdm_small {w : World} {v u : Value} {A B k j : Nat} (h : Nm w v A k) (h' : Nm w u B j) (hk : k ≤ 1048574) (hj : j ≤ 1048574) (hB : B ≠ 0) (hAl : A < 18446744073709551616) (hBl : B < 18446744073709551616) : Calls Tryd.prog 77 #[v, u] w (DmQ A B w) := by
  have U1 := Lib.hid (ruint_n h (by omega))
  have U2 := Lib.hid (fun w1 (h : Nm w1 u B j) => ruint_n h (by omega))
  have Y_0 := Lib.hid h'
  rw [show uintV A = A from if_pos hAl, show uintB A = true from decide_eq_true hAl] at U1
  rw [show uintV B = B from if_pos hBl, show uintB B = true from decide_eq_true hBl] at U2
  have hD : A / B < 18446744073709551616 := Nat.lt_of_le_of_lt (Nat.div_le_self _ _) hAl
  have hR : A % B < 18446744073709551616 := Nat.lt_of_le_of_lt (Nat.mod_le _ _) hAl
  have HQ : Hid (dmR A B = A % B ∧ dmE B = 0) := Lib.hid ⟨if_neg hB, if_neg hB⟩
  unfold DmQ
  rw [HQ.out.1, HQ.out.2]
  obtain ⟨D, hDD⟩ : ∃ D, A / B = D := ⟨_, rfl⟩
  obtain ⟨R, hRR⟩ : ∃ R, A % B = R := ⟨_, rfl⟩
  rw [hDD] at hD ⊢
  rw [hRR] at hR ⊢
  have hqw : IntKind.u64.wrap ((A : Int) / B) = (D : Nat) := by
    rw [show ((A : Int) / B) = (D : Nat) from by rw [← hDD]; push_cast; rfl]
    exact wr64 hD
  have hrw : ((A : Int) % B) = (R : Nat) := by rw [← hRR]; push_cast; rfl
  have htm : (A : Int).tmod B = (R : Nat) := by rw [← hRR]; exact (Int.ofNat_tmod A B).symm
  have OFQ := Lib.hid (fun w => rof_n (w := w) D hD)
  have OFR := Lib.hid (fun w => rof_n (w := w) R hR)
  have hbz : ((B : Int) == 0) = false := by simp; omega
  clear h h' hDD hRR hD hR
  go_enter Tryd.func77, Tryd.ntmps77
  go_wp2_with fail
  refine Calls.mono U1.out ?_
  rintro e w1 ⟨rfl, k1⟩
  have Y_1 := Lib.hid (Y_0.out.keep k1)
  have KW_1 := Lib.hid k1
  clear k1 Y_0
  go_wp2_with fail
  refine Calls.mono (U2.out _ Y_1.out) ?_
  rintro e w2 ⟨rfl, k2⟩
  have KW_2 := Lib.hid ((KW_1.out.trans k2).trans (keep_drew _))
  clear k2 Y_1 KW_1
  go_wp2_with fail
  go_region_held3 (fun w' => True) (exact trivial)
    (first
      | (go_at_call 60; ((with_reducible refine Calls.mono (OFQ.out _) ?_); rintro e w3 ⟨x, rfl, hx, k3⟩; have X_3 := Lib.hid hx; have KW_3 := Lib.hid (KW_2.out.trans k3); clear hx k3 hqw))
      | (go_at_call 60; ((with_reducible refine Calls.mono (OFR.out _) ?_); rintro e w4 ⟨y, rfl, hy, k4⟩; have Y_4 := Lib.hid hy; have X_4 := Lib.hid (X_3.out.keep k4); have KW_4 := Lib.hid (KW_3.out.trans k4); clear hy k4 hrw htm)))
  go_wp2_with fail
  go_ret3
  exact ⟨_, _, rfl, X_4.out, Y_4.out, KW_4.out⟩
theorem rshl1_n {w : World} {v : Value} {n K : Nat} (h : Cn w v n) (hn : n < BB ^ K) (hK : K ≤ 524288) : Calls Tryd.prog 93 #[v, .int .i64 1] w fun e w' => ∃ x, e = .returned x ∧ Cn w' x (n * 2) ∧ Keep w w' := by
  obtain ⟨a, len, cap, rfl, hr⟩ := h
  have := rshl_c a len cap _ 1 0 1 w hr (by rw [← hr.len_eq]; have := dig_len_of hn; omega) (by omega) rfl rfl
  rw [nv_dig, Nat.pow_one] at this
  exact this.mono fun _ _ h => h.cn
theorem Win.drew' {w : World} {b off n : Nat} {L : List Nat} (h : Win w b off n L) : Win w.drew b off n L := ⟨h.1, h.2, h.3, h.4⟩
theorem rsub_fn {w : World} {v u : Value} {n m k j : Nat} (h : Cn w v n) (h' : Nm w u m j) (hk : n < BB ^ k) (hk2 : k ≤ 1048575) (hj : j ≤ 1048575) (hge : m ≤ n) :
    Calls Tryd.prog 75 #[v, u] w fun e w' => ∃ a d c, e = .returned (.tuple #[.slice a d c, .int .i64 0]) ∧ Rd w' a d c (dig (n - m)) ∧ Keep w w' ∧ ∀ g, g < w.heap.size → Far a d g := by
  obtain ⟨a, len, cap, rfl, hr⟩ := h
  obtain ⟨l', ⟨a', len', cap', rfl, hr'⟩, rfl, hl'⟩ := h'
  have := rsub_f _ _ _ _ _ _ _ _ w hr hr' (by rw [← hr.len_eq]; have := dig_len_of hk; omega) (by rw [← hr'.len_eq]; omega) (by rw [nv_dig]; exact hge)
  rw [nv_dig] at this
  exact this.mono fun _ _ ⟨a, c, h1, h2, h3, h4⟩ => ⟨a, _, c, h1, h2, h3, h4⟩
set_option maxHeartbeats 2000000 in
theorem rdm_loop {w : World} {a a' : Option Addr} {la ca lb cb k : Nat} {l l' : List Nat} (h : Rd w a la ca l) (h' : Rd w a' lb cb l') (hl : l.length ≤ k) (hl' : l'.length ≤ k) (hk : k ≤ 500000) (hB : nv l' ≠ 0) (ta tb : Bool) (va vb : Nat) (hta : uintB (nv l) = ta) (htb : uintB (nv l') = tb) (hva : uintV (nv l) = va) (hvb : uintV (nv l') = vb)
    (hz : tb = true → ((vb : Int) == 0) = false) (hnb : (ta && tb) = false) : Calls Tryd.prog 77 #[.slice a la ca, .slice a' lb cb] w (DmQ (nv l) (nv l') w) := by
  have X_0 := Lib.hid h
  have Y_0 := Lib.hid h'
  have U1 := Lib.hid (fun w1 (h : Rd w1 a la ca l) => ruint_n (h.toNm rfl hl) (by omega))
  have U2 := Lib.hid (fun w1 (h : Rd w1 a' lb cb l') => ruint_n (h.toNm rfl hl') (by omega))
  have BT := Lib.hid (fun w1 (h : Rd w1 a la ca l) => rbits_n (h.toNm rfl hl) (by omega))
  rw [hva, hta] at U1
  rw [hvb, htb] at U2
  have L1 := Lib.hid h.len_eq
  have HLim := Lib.hid h.lim
  have HLB := Lib.hid (show lb ≤ k from h'.len_eq ▸ hl')
  have q1 := h.le_cap
  have q2 := h.cap_le
  have q3 := h'.le_cap
  have q4 := h'.cap_le
  have hlk : la ≤ 500000 := by rw [← h.len_eq]; omega
  have HAl : Hid (nv l < BB ^ k) := Lib.hid (h.toNm rfl hl).lt
  have HBl : Hid (nv l' < BB ^ k) := Lib.hid (h'.toNm rfl hl').lt
  have HQ : Hid (dmR (nv l) (nv l') = nv l % nv l' ∧ dmE (nv l') = 0) := Lib.hid ⟨if_neg hB, if_neg hB⟩
  have HB0 : Hid (0 < nv l') := Lib.hid (Nat.pos_of_ne_zero hB)
  have HBitlen : Hid (∀ j, j < bl (nv l) → j / 32 < la) := Lib.hid (fun j hj => by
    have h1 : bl (nv l) ≤ 32 * la := by
      refine bl_le ?_
      have := nv_lt h.lim
      rw [h.len_eq, show BB = 2 ^ 32 from rfl, ← Nat.pow_mul] at this
      exact this
    omega)
  unfold DmQ
  rw [HQ.out.1, HQ.out.2]
  obtain ⟨A, hA⟩ : ∃ A, nv l = A := ⟨_, rfl⟩
  obtain ⟨B, hBB⟩ : ∃ B, nv l' = B := ⟨_, rfl⟩
  have HA := Lib.hid hA
  have HBB := Lib.hid hBB
  rw [hA] at BT HAl HBitlen ⊢
  rw [hBB] at HBl HB0 ⊢
  obtain ⟨nb, hnbl⟩ : ∃ x, bl A = x := ⟨_, rfl⟩
  have HNB := Lib.hid hnbl
  rw [hnbl] at BT HBitlen
  have hnbs : nb ≤ 16000000 := by
    rw [← hnbl, ← hA]
    have := bl_le (x := nv l) (k := 32 * la) (by
      have := nv_lt h.lim
      rw [h.len_eq, show BB = 2 ^ 32 from rfl, ← Nat.pow_mul] at this
      exact this)
    omega
  clear h h' hA hBB hB HQ hta htb hva hvb hl hl' hnbl
  have wlk : ∀ (hyp : True), Calls Tryd.prog 77 #[.slice a la ca, .slice a' lb cb] w (fun e w' => ∃ x y, e = .returned (.tuple #[x, y, .int .i64 0]) ∧ Cn w' x (A / B) ∧ Cn w' y (A % B) ∧ Keep w w') := fun _ => by
    go_enter Tryd.func77, Tryd.ntmps77
    go_wp2_with fail
    refine Calls.mono (U1.out _ X_0.out) ?_
    rintro e w1 ⟨rfl, k1⟩
    have X_1 := Lib.hid (X_0.out.keep k1)
    have Y_1 := Lib.hid (Y_0.out.keep k1)
    have KW_1 := Lib.hid k1
    clear k1 X_0 Y_0
    go_wp2_with fail
    refine Calls.mono (U2.out _ Y_1.out) ?_
    rintro e w2 ⟨rfl, k2⟩
    have X_2 := Lib.hid (X_1.out.keep k2)
    have Y_2 := Lib.hid (Y_1.out.keep k2)
    have KW_2 := Lib.hid (KW_1.out.trans k2)
    clear k2 Y_1 X_1 KW_1
    cases tb
    · cases ta
      · go_wp2_with (at_make; refine wpList_make_win _ rfl _ _ 22 rfl Tryd.underlying22 _ la rfl rfl (by first | rfl | (push_cast; omega) | omega) (by omega) ?_)
        intro w3 hwin3 hb3 hs3
        have X_3 := Lib.hid ((X_2.out.below hb3).alloc (.cells #[] 56))
        have Y_3 := Lib.hid ((Y_2.out.below hb3).alloc (.cells #[] 56))
        have KW_3 := Lib.hid ((KW_2.out.trans hb3).alloc (.cells #[] 56))
        have HW3 := Lib.hid (hwin3.out.below ((Keep.refl w3).alloc (.cells #[] 56)) (by omega))
        have hgl : w2.heap.size < (w3.alloc (.cells #[] 56)).heap.size := by simp; omega
        have HGL := Lib.hid hgl
        have HR0 : Hid (Cn (w3.alloc (.cells #[] 56)) (.slice (some ⟨w3.heap.size, 0, none⟩) 0 0) 0) := Lib.hid ⟨_, _, _, rfl, by
          rw [dig_zero]; exact ⟨rfl, Nat.le_refl _, by omega, Lim.nil, (fun h => by cases h), .inl rfl⟩⟩
        have K2_3 := Lib.hid (show Keep w2 (w3.alloc (.cells #[] 56)) from Keep.alloc hb3 _)
        clear hgl hb3 hs3
        go_wp2_with fail
        refine Calls.mono (BT.out _ X_3.out) ?_
        rintro e w4 ⟨rfl, k4⟩
        have X_4 := Lib.hid (X_3.out.keep k4)
        have Y_4 := Lib.hid (Y_3.out.keep k4)
        have KW_4 := Lib.hid (KW_3.out.trans k4)
        have HW4 := Lib.hid (HW3.out.below k4 HGL.out)
        have HR4 := Lib.hid (HR0.out.keep k4)
        have HGL4 := Lib.hid (Nat.lt_of_lt_of_le HGL.out (Below.size k4))
        have K2_4 := Lib.hid (K2_3.out.trans k4)
        have HST := Lib.hid (RDiv.start (B := B) (n := la) (show A < 2 ^ nb from by rw [← HNB.out]; exact lt_bl A))
        clear k4 X_3 Y_3 KW_3 HW3 HR0 HGL hwin3 X_4 Y_4 KW_4 K2_3 BT
        go_wp2
        go_loopw [12, 13] (fun r i wr => ∃ (j R : Nat) (I : Int) (Q : List Nat), j ≤ nb ∧ i = .int .i64 I ∧ Hid (I = (j : Int) - 1) ∧ Hid (RDiv A B Q R j) ∧ Hid (Cn wr r R) ∧ Hid (Win wr w2.heap.size 0 la Q) ∧ Hid (Keep w2 wr) ∧ Hid (w2.heap.size < wr.heap.size)) (fun _ i _ => (intOf i + 1).toNat)
        case atStart => exact ⟨nb, 0, _, _, Nat.le_refl _, rfl, Lib.hid rfl, HST, HR4, HW4, K2_4, HGL4⟩
        case round =>
          obtain ⟨j, R, I, Q, hj, rfl, hI, hinv, hr, hw, hkk, hgl⟩ := hrel
          by_cases hj0 : j = 0
          · subst hj0
            obtain rfl : I = -1 := by have := hI.out; omega
            obtain ⟨f1, f2⟩ := hinv.out.done
            have HF2 := Lib.hid f2
            have MK := Lib.hid (rmake_n ((hw.out.rd (cap := la) (Nat.le_refl _) (by omega)).toNm rfl (Nat.le_of_eq hw.out.len_eq)) (by omega))
            rw [f2] at MK
            subst f1
            go_wp2_with fail
            refine Calls.mono MK.out ?_
            rintro e w9 ⟨x, rfl, hx, k9⟩
            have HX := Lib.hid hx
            have HRR := Lib.hid (hr.out.keep k9)
            have KF := Lib.hid ((KW_2.out.trans hkk.out).trans k9)
            clear hx k9
            go_wp2_with fail
            go_ret3
            exact ⟨_, _, rfl, HX.out, HRR.out, KF.out⟩
          · obtain ⟨m, rfl⟩ : ∃ m, j = m + 1 := ⟨j - 1, by omega⟩
            obtain rfl : I = (m : Int) := by have := hI.out; omega
            have hRB : R < B := by rw [hinv.out.rem]; exact Nat.mod_lt _ HB0.out
            have SH := Lib.hid (rshl1_n hr.out (Nat.lt_trans hRB HBl.out) (by omega))
            have hqla := HBitlen.out m (by omega)
            obtain ⟨q, hqd⟩ : ∃ q, m / 32 = q := ⟨_, rfl⟩
            obtain ⟨s, hsd⟩ : ∃ s, m % 32 = s := ⟨_, rfl⟩
            have hms : m = 32 * q + s := by omega
            have hs32 : s < 32 := by omega
            rw [hqd] at hqla
            have hqi : ((m : Int) / 32) = q := by omega
            have hri : ((m : Int) % 32) = s := by omega
            obtain ⟨x, hx⟩ : ∃ x, l.getD q 0 = x := ⟨_, rfl⟩
            have hxl : x < 4294967296 := by rw [← hx]; exact HLim.out.at q
            obtain ⟨V, hV⟩ : ∃ V, x / 2 ^ s = V := ⟨_, rfl⟩
            have hVl : V < 4294967296 := by rw [← hV]; exact Nat.lt_of_le_of_lt (Nat.div_le_self _ _) hxl
            obtain ⟨bt, hbt⟩ : ∃ b, V % 2 = b := ⟨_, rfl⟩
            have hbt2 : bt < 2 := by omega
            have hbit : A / 2 ^ m % 2 = bt := by
              have := bit_of HLim.out hms hs32 (by rw [L1.out]; exact hqla)
              rw [hx, hV, hbt, HA.out] at this
              exact this.symm
            have hsh : ((x : Int) / 2 ^ s) = (V : Nat) := by rw [← hV]; push_cast; rfl
            have hand : bits BinOp.and IntKind.u32 (V : Int) 1 = (bt : Nat) := by
              have := u32_and_nat V 1 hVl (by omega)
              rw [Nat.and_one_is_mod, hbt] at this
              exact this
            have HBIT := Lib.hid hbit
            have HMS := Lib.hid hms
            have HRB := Lib.hid hRB
            have hcx := fun w5 (hk5 : Keep wr w5) => (X_2.out.keep (hkk.out.trans hk5)).cells
            have HCX := Lib.hid hcx
            have HX := Lib.hid hx
            clear hx hV hbt hbit hms hRB hcx hqd hsd
            go_wp2_with fail
            refine Calls.mono SH.out ?_
            rintro e w5 ⟨r1, rfl, hr1, k5⟩
            rcases HCX.out w5 k5 with h1 | ⟨b, off, rfl, h1⟩
            · omega
            have hc := h1 q hqla
            rw [HX.out] at hc
            have HR1 := Lib.hid hr1
            have HB5 := Lib.hid (Y_2.out.keep (hkk.out.trans k5))
            have HW5 := Lib.hid (hw.out.below k5 hgl.out)
            have K5 := Lib.hid (hkk.out.trans k5)
            have HGL5 := Lib.hid (Nat.lt_of_lt_of_le hgl.out (Below.size k5))
            clear hr1 k5 h1
            have hRk2 : R * 2 + bt < BB ^ (k + 1) := by
              have h1 := Nat.lt_trans HRB.out HBl.out
              have h2 : BB ^ (k + 1) = BB ^ k * BB := Nat.pow_succ ..
              have h3 : BB ^ k * 4 ≤ BB ^ k * BB := Nat.mul_le_mul_left _ (by decide)
              omega
            have HRK2 := Lib.hid hRk2
            have hR2l : R * 2 < BB ^ (k + 1) := by omega
            have hbtl : bt < BB := by rw [BB_eq]; omega
            have RA := Lib.hid (radd_n (w := w5.alloc (.cells #[.int .u32 (bt : Int)] 56)) ((HR1.out.keep ((Keep.refl _).alloc _)).nm hR2l) ((Rd.one' w5 bt (bt : Int) rfl hbtl 56).toNm (n := bt) (k := 1) (nv_one bt) (Nat.le_refl _)) (by omega) (by omega))
            clear hRk2 hR2l hbtl HR1
            go_wp2_with fail
            refine Calls.mono RA.out ?_
            rintro e w6 ⟨r2, rfl, hr2, k6⟩
            have k56 : Keep w5 w6 := Keep.trans ((Keep.refl w5).alloc (.cells #[.int .u32 (bt : Int)] 56)) k6
            have HR2 := Lib.hid hr2
            have HB6 := Lib.hid (HB5.out.keep k56)
            have HW6 := Lib.hid (HW5.out.below k56 HGL5.out)
            have K6 := Lib.hid (K5.out.trans k56)
            have HGL6 := Lib.hid (Nat.lt_of_lt_of_le HGL5.out (Below.size k56))
            have CM := Lib.hid (rcmp_n (hr2.nm HRK2.out) (HB6.out.toNm (n := B) (k := k) HBB.out (by have := HB6.out.len_eq; have := HLB.out; omega)))
            clear hr2 k6 k56 HB5 HW5 K5 HGL5 RA hc hsh hand
            by_cases hge : B ≤ R * 2 + bt
            · obtain ⟨z, hz⟩ : ∃ z, cmpv (R * 2 + bt) B = z := ⟨_, rfl⟩
              have hz0 : decide (0 ≤ z) = true := decide_eq_true (by
                rw [← hz]; rcases Nat.lt_or_eq_of_le hge with g | g
                · rw [cmpv_gt g]; decide
                · rw [cmpv_eq g.symm]; decide)
              rw [hz] at CM
              have SB := Lib.hid (fun w1 (h1 : Cn w1 r2 (R * 2 + bt)) (h2 : Rd w1 a' lb cb l') => rsub_fn h1 (h2.toNm (n := B) (k := k) HBB.out (by have := h2.len_eq; have := HLB.out; omega)) HRK2.out (by omega) (by omega) hge)
              clear hz
              go_wp2_with fail
              refine Calls.mono CM.out ?_
              rintro e w7 ⟨rfl, k7⟩
              have HR7 := Lib.hid (HR2.out.keep k7)
              have HB7 := Lib.hid (HB6.out.keep k7)
              have HW7 := Lib.hid (HW6.out.below k7 HGL6.out)
              have K7 := Lib.hid (K6.out.trans k7)
              have HGL7 := Lib.hid (Nat.lt_of_lt_of_le HGL6.out (Below.size k7))
              clear k7 HR2 HB6 HW6 K6 HGL6 CM
              go_wp2_with fail
              refine Calls.mono (SB.out _ HR7.out HB7.out) ?_
              rintro e w8 ⟨a4, d4, c4, rfl, hr4, k8, hfar⟩
              have HFAR := Lib.hid (hfar _ HGL7.out)
              have HR8 := Lib.hid hr4
              have HW8 := Lib.hid (HW7.out.below k8 HGL7.out)
              have K8 := Lib.hid (K7.out.trans k8)
              have HGL8 := Lib.hid (Nat.lt_of_lt_of_le HGL7.out (Below.size k8))
              clear k8 hr4 hfar HR7 HB7 HW7 K7 HGL7 SB
              obtain ⟨y, hy⟩ : ∃ y, Q.getD q 0 = y := ⟨_, rfl⟩
              have hyl : y < 4294967296 := by rw [← hy]; exact HW8.out.lim.at q
              have c1 := HW8.out.cell q hqla
              have f1 := HW8.out.free q hqla
              rw [hy, Nat.zero_add] at c1
              rw [Nat.zero_add] at f1
              have HY := Lib.hid hy
              clear hy
              go_wp2
              go_region
              have hn0 : ((2 : Int) ^ s % 4294967296) = ((2 ^ s : Nat) : Int) := by
                have h1 : (2 : Nat) ^ s < 2 ^ 32 := Nat.pow_lt_pow_right (by decide) hs32
                have h2 : ((2 : Int) ^ s) = ((2 ^ s : Nat) : Int) := by push_cast; rfl
                rw [h2]
                generalize (2 : Nat) ^ s = P at h1 ⊢
                omega
              have hv : bits BinOp.or IntKind.u32 (y : Int) (2 ^ s % 4294967296) = ((y ||| 2 ^ s : Nat) : Int) := by
                rw [hn0]
                exact u32_or_nat _ _ hyl (Nat.pow_lt_pow_right (by decide) hs32)
              obtain ⟨HI1, HI2⟩ := hinv.out.high HBIT.out HB0.out hge HMS.out hs32 (by rw [HW8.out.len_eq]; exact hqla) rfl
              rw [HY.out] at HI1 HI2
              have hwin := (HW8.out.set0 hqla HI2 hv).drew'
              have hkeep : Keep w2 (w8.setCell ⟨w2.heap.size, q, none⟩ (.int .u32 (bits BinOp.or IntKind.u32 (y : Int) (2 ^ s % 4294967296)))).drew := Keep.drew (Below.setCell K8.out (Nat.le_refl _) _)
              have hcn : Cn (w8.setCell ⟨w2.heap.size, q, none⟩ (.int .u32 (bits BinOp.or IntKind.u32 (y : Int) (2 ^ s % 4294967296)))).drew (.slice a4 d4 c4) (R * 2 + bt - B) := ⟨_, _, _, rfl, (HR8.out.only ((Only.refl w2.heap.size q (q + 1) w8).set (Nat.le_refl _) (Nat.lt_succ_self _) _) HFAR.out).keep (Keep.refl _).drew⟩
              have hgl9 : w2.heap.size < (w8.setCell ⟨w2.heap.size, q, none⟩ (.int .u32 (bits BinOp.or IntKind.u32 (y : Int) (2 ^ s % 4294967296)))).drew.heap.size := by
                have := HGL8.out
                simpa using this
              have HH1 := Lib.hid HI1
              have HH2 := Lib.hid hwin
              have HH3 := Lib.hid hkeep
              have HH4 := Lib.hid hcn
              have HH5 := Lib.hid hgl9
              clear HI1 HI2 hwin hkeep hcn hgl9 hn0 hv c1 f1
              go_wp2
              go_roundw
              case rel => exact ⟨m, R * 2 + bt - B, (m : Int) - 1, _, by omega, by go_num, Lib.hid rfl, HH1, HH4, HH2, HH3, HH5⟩
              case measure => first | (simp [intOf]; done) | (simp [intOf]; omega)
            · obtain ⟨z, hz⟩ : ∃ z, cmpv (R * 2 + bt) B = z := ⟨_, rfl⟩
              have hz0 : decide (0 ≤ z) = false := decide_eq_false (by rw [← hz, cmpv_lt (by omega)]; decide)
              rw [hz] at CM
              clear hz
              have HLOW := Lib.hid (hinv.out.low HBIT.out HB0.out (by omega))
              go_wp2_with fail
              refine Calls.mono CM.out ?_
              rintro e w7 ⟨rfl, k7⟩
              have HR7 := Lib.hid (HR2.out.keep k7)
              have HW7 := Lib.hid (HW6.out.below k7 HGL6.out)
              have K7 := Lib.hid (K6.out.trans k7)
              have HGL7 := Lib.hid (Nat.lt_of_lt_of_le HGL6.out (Below.size k7))
              clear k7 HR2 HB6 HW6 K6 HGL6 CM
              go_wp2
              go_roundw
              case rel => exact ⟨m, R * 2 + bt, (m : Int) - 1, Q, by omega, by go_num, Lib.hid rfl, HLOW, HR7, HW7, K7, HGL7⟩
              case measure => first | (simp [intOf]; done) | (simp [intOf]; omega)
      · go_wp2_with (at_make; refine wpList_make_win _ rfl _ _ 22 rfl Tryd.underlying22 _ la rfl rfl (by first | rfl | (push_cast; omega) | omega) (by omega) ?_)
        intro w3 hwin3 hb3 hs3
        have X_3 := Lib.hid ((X_2.out.below hb3).alloc (.cells #[] 56))
        have Y_3 := Lib.hid ((Y_2.out.below hb3).alloc (.cells #[] 56))
        have KW_3 := Lib.hid ((KW_2.out.trans hb3).alloc (.cells #[] 56))
        have HW3 := Lib.hid (hwin3.out.below ((Keep.refl w3).alloc (.cells #[] 56)) (by omega))
        have hgl : w2.heap.size < (w3.alloc (.cells #[] 56)).heap.size := by simp; omega
        have HGL := Lib.hid hgl
        have HR0 : Hid (Cn (w3.alloc (.cells #[] 56)) (.slice (some ⟨w3.heap.size, 0, none⟩) 0 0) 0) := Lib.hid ⟨_, _, _, rfl, by
          rw [dig_zero]; exact ⟨rfl, Nat.le_refl _, by omega, Lim.nil, (fun h => by cases h), .inl rfl⟩⟩
        have K2_3 := Lib.hid (show Keep w2 (w3.alloc (.cells #[] 56)) from Keep.alloc hb3 _)
        clear hgl hb3 hs3
        go_wp2_with fail
        refine Calls.mono (BT.out _ X_3.out) ?_
        rintro e w4 ⟨rfl, k4⟩
        have X_4 := Lib.hid (X_3.out.keep k4)
        have Y_4 := Lib.hid (Y_3.out.keep k4)
        have KW_4 := Lib.hid (KW_3.out.trans k4)
        have HW4 := Lib.hid (HW3.out.below k4 HGL.out)
        have HR4 := Lib.hid (HR0.out.keep k4)
        have HGL4 := Lib.hid (Nat.lt_of_lt_of_le HGL.out (Below.size k4))
        have K2_4 := Lib.hid (K2_3.out.trans k4)
        have HST := Lib.hid (RDiv.start (B := B) (n := la) (show A < 2 ^ nb from by rw [← HNB.out]; exact lt_bl A))
        clear k4 X_3 Y_3 KW_3 HW3 HR0 HGL hwin3 X_4 Y_4 KW_4 K2_3 BT
        go_wp2
        go_loopw [12, 13] (fun r i wr => ∃ (j R : Nat) (I : Int) (Q : List Nat), j ≤ nb ∧ i = .int .i64 I ∧ Hid (I = (j : Int) - 1) ∧ Hid (RDiv A B Q R j) ∧ Hid (Cn wr r R) ∧ Hid (Win wr w2.heap.size 0 la Q) ∧ Hid (Keep w2 wr) ∧ Hid (w2.heap.size < wr.heap.size)) (fun _ i _ => (intOf i + 1).toNat)
        case atStart => exact ⟨nb, 0, _, _, Nat.le_refl _, rfl, Lib.hid rfl, HST, HR4, HW4, K2_4, HGL4⟩
        case round =>
          obtain ⟨j, R, I, Q, hj, rfl, hI, hinv, hr, hw, hkk, hgl⟩ := hrel
          by_cases hj0 : j = 0
          · subst hj0
            obtain rfl : I = -1 := by have := hI.out; omega
            obtain ⟨f1, f2⟩ := hinv.out.done
            have HF2 := Lib.hid f2
            have MK := Lib.hid (rmake_n ((hw.out.rd (cap := la) (Nat.le_refl _) (by omega)).toNm rfl (Nat.le_of_eq hw.out.len_eq)) (by omega))
            rw [f2] at MK
            subst f1
            go_wp2_with fail
            refine Calls.mono MK.out ?_
            rintro e w9 ⟨x, rfl, hx, k9⟩
            have HX := Lib.hid hx
            have HRR := Lib.hid (hr.out.keep k9)
            have KF := Lib.hid ((KW_2.out.trans hkk.out).trans k9)
            clear hx k9
            go_wp2_with fail
            go_ret3
            exact ⟨_, _, rfl, HX.out, HRR.out, KF.out⟩
          · obtain ⟨m, rfl⟩ : ∃ m, j = m + 1 := ⟨j - 1, by omega⟩
            obtain rfl : I = (m : Int) := by have := hI.out; omega
            have hRB : R < B := by rw [hinv.out.rem]; exact Nat.mod_lt _ HB0.out
            have SH := Lib.hid (rshl1_n hr.out (Nat.lt_trans hRB HBl.out) (by omega))
            have hqla := HBitlen.out m (by omega)
            obtain ⟨q, hqd⟩ : ∃ q, m / 32 = q := ⟨_, rfl⟩
            obtain ⟨s, hsd⟩ : ∃ s, m % 32 = s := ⟨_, rfl⟩
            have hms : m = 32 * q + s := by omega
            have hs32 : s < 32 := by omega
            rw [hqd] at hqla
            have hqi : ((m : Int) / 32) = q := by omega
            have hri : ((m : Int) % 32) = s := by omega
            obtain ⟨x, hx⟩ : ∃ x, l.getD q 0 = x := ⟨_, rfl⟩
            have hxl : x < 4294967296 := by rw [← hx]; exact HLim.out.at q
            obtain ⟨V, hV⟩ : ∃ V, x / 2 ^ s = V := ⟨_, rfl⟩
            have hVl : V < 4294967296 := by rw [← hV]; exact Nat.lt_of_le_of_lt (Nat.div_le_self _ _) hxl
            obtain ⟨bt, hbt⟩ : ∃ b, V % 2 = b := ⟨_, rfl⟩
            have hbt2 : bt < 2 := by omega
            have hbit : A / 2 ^ m % 2 = bt := by
              have := bit_of HLim.out hms hs32 (by rw [L1.out]; exact hqla)
              rw [hx, hV, hbt, HA.out] at this
              exact this.symm
            have hsh : ((x : Int) / 2 ^ s) = (V : Nat) := by rw [← hV]; push_cast; rfl
            have hand : bits BinOp.and IntKind.u32 (V : Int) 1 = (bt : Nat) := by
              have := u32_and_nat V 1 hVl (by omega)
              rw [Nat.and_one_is_mod, hbt] at this
              exact this
            have HBIT := Lib.hid hbit
            have HMS := Lib.hid hms
            have HRB := Lib.hid hRB
            have hcx := fun w5 (hk5 : Keep wr w5) => (X_2.out.keep (hkk.out.trans hk5)).cells
            have HCX := Lib.hid hcx
            have HX := Lib.hid hx
            clear hx hV hbt hbit hms hRB hcx hqd hsd
            go_wp2_with fail
            refine Calls.mono SH.out ?_
            rintro e w5 ⟨r1, rfl, hr1, k5⟩
            rcases HCX.out w5 k5 with h1 | ⟨b, off, rfl, h1⟩
            · omega
            have hc := h1 q hqla
            rw [HX.out] at hc
            have HR1 := Lib.hid hr1
            have HB5 := Lib.hid (Y_2.out.keep (hkk.out.trans k5))
            have HW5 := Lib.hid (hw.out.below k5 hgl.out)
            have K5 := Lib.hid (hkk.out.trans k5)
            have HGL5 := Lib.hid (Nat.lt_of_lt_of_le hgl.out (Below.size k5))
            clear hr1 k5 h1
            have hRk2 : R * 2 + bt < BB ^ (k + 1) := by
              have h1 := Nat.lt_trans HRB.out HBl.out
              have h2 : BB ^ (k + 1) = BB ^ k * BB := Nat.pow_succ ..
              have h3 : BB ^ k * 4 ≤ BB ^ k * BB := Nat.mul_le_mul_left _ (by decide)
              omega
            have HRK2 := Lib.hid hRk2
            have hR2l : R * 2 < BB ^ (k + 1) := by omega
            have hbtl : bt < BB := by rw [BB_eq]; omega
            have RA := Lib.hid (radd_n (w := w5.alloc (.cells #[.int .u32 (bt : Int)] 56)) ((HR1.out.keep ((Keep.refl _).alloc _)).nm hR2l) ((Rd.one' w5 bt (bt : Int) rfl hbtl 56).toNm (n := bt) (k := 1) (nv_one bt) (Nat.le_refl _)) (by omega) (by omega))
            clear hRk2 hR2l hbtl HR1
            go_wp2_with fail
            refine Calls.mono RA.out ?_
            rintro e w6 ⟨r2, rfl, hr2, k6⟩
            have k56 : Keep w5 w6 := Keep.trans ((Keep.refl w5).alloc (.cells #[.int .u32 (bt : Int)] 56)) k6
            have HR2 := Lib.hid hr2
            have HB6 := Lib.hid (HB5.out.keep k56)
            have HW6 := Lib.hid (HW5.out.below k56 HGL5.out)
            have K6 := Lib.hid (K5.out.trans k56)
            have HGL6 := Lib.hid (Nat.lt_of_lt_of_le HGL5.out (Below.size k56))
            have CM := Lib.hid (rcmp_n (hr2.nm HRK2.out) (HB6.out.toNm (n := B) (k := k) HBB.out (by have := HB6.out.len_eq; have := HLB.out; omega)))
            clear hr2 k6 k56 HB5 HW5 K5 HGL5 RA hc hsh hand
            by_cases hge : B ≤ R * 2 + bt
            · obtain ⟨z, hz⟩ : ∃ z, cmpv (R * 2 + bt) B = z := ⟨_, rfl⟩
              have hz0 : decide (0 ≤ z) = true := decide_eq_true (by
                rw [← hz]; rcases Nat.lt_or_eq_of_le hge with g | g
                · rw [cmpv_gt g]; decide
                · rw [cmpv_eq g.symm]; decide)
              rw [hz] at CM
              have SB := Lib.hid (fun w1 (h1 : Cn w1 r2 (R * 2 + bt)) (h2 : Rd w1 a' lb cb l') => rsub_fn h1 (h2.toNm (n := B) (k := k) HBB.out (by have := h2.len_eq; have := HLB.out; omega)) HRK2.out (by omega) (by omega) hge)
              clear hz
              go_wp2_with fail
              refine Calls.mono CM.out ?_
              rintro e w7 ⟨rfl, k7⟩
              have HR7 := Lib.hid (HR2.out.keep k7)
              have HB7 := Lib.hid (HB6.out.keep k7)
              have HW7 := Lib.hid (HW6.out.below k7 HGL6.out)
              have K7 := Lib.hid (K6.out.trans k7)
              have HGL7 := Lib.hid (Nat.lt_of_lt_of_le HGL6.out (Below.size k7))
              clear k7 HR2 HB6 HW6 K6 HGL6 CM
              go_wp2_with fail
              refine Calls.mono (SB.out _ HR7.out HB7.out) ?_
              rintro e w8 ⟨a4, d4, c4, rfl, hr4, k8, hfar⟩
              have HFAR := Lib.hid (hfar _ HGL7.out)
              have HR8 := Lib.hid hr4
              have HW8 := Lib.hid (HW7.out.below k8 HGL7.out)
              have K8 := Lib.hid (K7.out.trans k8)
              have HGL8 := Lib.hid (Nat.lt_of_lt_of_le HGL7.out (Below.size k8))
              clear k8 hr4 hfar HR7 HB7 HW7 K7 HGL7 SB
              obtain ⟨y, hy⟩ : ∃ y, Q.getD q 0 = y := ⟨_, rfl⟩
              have hyl : y < 4294967296 := by rw [← hy]; exact HW8.out.lim.at q
              have c1 := HW8.out.cell q hqla
              have f1 := HW8.out.free q hqla
              rw [hy, Nat.zero_add] at c1
              rw [Nat.zero_add] at f1
              have HY := Lib.hid hy
              clear hy
              go_wp2
              go_region
              have hn0 : ((2 : Int) ^ s % 4294967296) = ((2 ^ s : Nat) : Int) := by
                have h1 : (2 : Nat) ^ s < 2 ^ 32 := Nat.pow_lt_pow_right (by decide) hs32
                have h2 : ((2 : Int) ^ s) = ((2 ^ s : Nat) : Int) := by push_cast; rfl
                rw [h2]
                generalize (2 : Nat) ^ s = P at h1 ⊢
                omega
              have hv : bits BinOp.or IntKind.u32 (y : Int) (2 ^ s % 4294967296) = ((y ||| 2 ^ s : Nat) : Int) := by
                rw [hn0]
                exact u32_or_nat _ _ hyl (Nat.pow_lt_pow_right (by decide) hs32)
              obtain ⟨HI1, HI2⟩ := hinv.out.high HBIT.out HB0.out hge HMS.out hs32 (by rw [HW8.out.len_eq]; exact hqla) rfl
              rw [HY.out] at HI1 HI2
              have hwin := (HW8.out.set0 hqla HI2 hv).drew'
              have hkeep : Keep w2 (w8.setCell ⟨w2.heap.size, q, none⟩ (.int .u32 (bits BinOp.or IntKind.u32 (y : Int) (2 ^ s % 4294967296)))).drew := Keep.drew (Below.setCell K8.out (Nat.le_refl _) _)
              have hcn : Cn (w8.setCell ⟨w2.heap.size, q, none⟩ (.int .u32 (bits BinOp.or IntKind.u32 (y : Int) (2 ^ s % 4294967296)))).drew (.slice a4 d4 c4) (R * 2 + bt - B) := ⟨_, _, _, rfl, (HR8.out.only ((Only.refl w2.heap.size q (q + 1) w8).set (Nat.le_refl _) (Nat.lt_succ_self _) _) HFAR.out).keep (Keep.refl _).drew⟩
              have hgl9 : w2.heap.size < (w8.setCell ⟨w2.heap.size, q, none⟩ (.int .u32 (bits BinOp.or IntKind.u32 (y : Int) (2 ^ s % 4294967296)))).drew.heap.size := by
                have := HGL8.out
                simpa using this
              have HH1 := Lib.hid HI1
              have HH2 := Lib.hid hwin
              have HH3 := Lib.hid hkeep
              have HH4 := Lib.hid hcn
              have HH5 := Lib.hid hgl9
              clear HI1 HI2 hwin hkeep hcn hgl9 hn0 hv c1 f1
              go_wp2
              go_roundw
              case rel => exact ⟨m, R * 2 + bt - B, (m : Int) - 1, _, by omega, by go_num, Lib.hid rfl, HH1, HH4, HH2, HH3, HH5⟩
              case measure => first | (simp [intOf]; done) | (simp [intOf]; omega)
            · obtain ⟨z, hz⟩ : ∃ z, cmpv (R * 2 + bt) B = z := ⟨_, rfl⟩
              have hz0 : decide (0 ≤ z) = false := decide_eq_false (by rw [← hz, cmpv_lt (by omega)]; decide)
              rw [hz] at CM
              clear hz
              have HLOW := Lib.hid (hinv.out.low HBIT.out HB0.out (by omega))
              go_wp2_with fail
              refine Calls.mono CM.out ?_
              rintro e w7 ⟨rfl, k7⟩
              have HR7 := Lib.hid (HR2.out.keep k7)
              have HW7 := Lib.hid (HW6.out.below k7 HGL6.out)
              have K7 := Lib.hid (K6.out.trans k7)
              have HGL7 := Lib.hid (Nat.lt_of_lt_of_le HGL6.out (Below.size k7))
              clear k7 HR2 HB6 HW6 K6 HGL6 CM
              go_wp2
              go_roundw
              case rel => exact ⟨m, R * 2 + bt, (m : Int) - 1, Q, by omega, by go_num, Lib.hid rfl, HLOW, HR7, HW7, K7, HGL7⟩
              case measure => first | (simp [intOf]; done) | (simp [intOf]; omega)
    · have hz1 := hz rfl
      cases ta
      · go_wp2_with (at_make; refine wpList_make_win _ rfl _ _ 22 rfl Tryd.underlying22 _ la rfl rfl (by first | rfl | (push_cast; omega) | omega) (by omega) ?_)
        intro w3 hwin3 hb3 hs3
        have X_3 := Lib.hid ((X_2.out.below hb3).alloc (.cells #[] 56))
        have Y_3 := Lib.hid ((Y_2.out.below hb3).alloc (.cells #[] 56))
        have KW_3 := Lib.hid ((KW_2.out.trans hb3).alloc (.cells #[] 56))
        have HW3 := Lib.hid (hwin3.out.below ((Keep.refl w3).alloc (.cells #[] 56)) (by omega))
        have hgl : w2.heap.size < (w3.alloc (.cells #[] 56)).heap.size := by simp; omega
        have HGL := Lib.hid hgl
        have HR0 : Hid (Cn (w3.alloc (.cells #[] 56)) (.slice (some ⟨w3.heap.size, 0, none⟩) 0 0) 0) := Lib.hid ⟨_, _, _, rfl, by
          rw [dig_zero]; exact ⟨rfl, Nat.le_refl _, by omega, Lim.nil, (fun h => by cases h), .inl rfl⟩⟩
        have K2_3 := Lib.hid (show Keep w2 (w3.alloc (.cells #[] 56)) from Keep.alloc hb3 _)
        clear hgl hb3 hs3
        go_wp2_with fail
        refine Calls.mono (BT.out _ X_3.out) ?_
        rintro e w4 ⟨rfl, k4⟩
        have X_4 := Lib.hid (X_3.out.keep k4)
        have Y_4 := Lib.hid (Y_3.out.keep k4)
        have KW_4 := Lib.hid (KW_3.out.trans k4)
        have HW4 := Lib.hid (HW3.out.below k4 HGL.out)
        have HR4 := Lib.hid (HR0.out.keep k4)
        have HGL4 := Lib.hid (Nat.lt_of_lt_of_le HGL.out (Below.size k4))
        have K2_4 := Lib.hid (K2_3.out.trans k4)
        have HST := Lib.hid (RDiv.start (B := B) (n := la) (show A < 2 ^ nb from by rw [← HNB.out]; exact lt_bl A))
        clear k4 X_3 Y_3 KW_3 HW3 HR0 HGL hwin3 X_4 Y_4 KW_4 K2_3 BT
        go_wp2
        go_loopw [12, 13] (fun r i wr => ∃ (j R : Nat) (I : Int) (Q : List Nat), j ≤ nb ∧ i = .int .i64 I ∧ Hid (I = (j : Int) - 1) ∧ Hid (RDiv A B Q R j) ∧ Hid (Cn wr r R) ∧ Hid (Win wr w2.heap.size 0 la Q) ∧ Hid (Keep w2 wr) ∧ Hid (w2.heap.size < wr.heap.size)) (fun _ i _ => (intOf i + 1).toNat)
        case atStart => exact ⟨nb, 0, _, _, Nat.le_refl _, rfl, Lib.hid rfl, HST, HR4, HW4, K2_4, HGL4⟩
        case round =>
          obtain ⟨j, R, I, Q, hj, rfl, hI, hinv, hr, hw, hkk, hgl⟩ := hrel
          by_cases hj0 : j = 0
          · subst hj0
            obtain rfl : I = -1 := by have := hI.out; omega
            obtain ⟨f1, f2⟩ := hinv.out.done
            have HF2 := Lib.hid f2
            have MK := Lib.hid (rmake_n ((hw.out.rd (cap := la) (Nat.le_refl _) (by omega)).toNm rfl (Nat.le_of_eq hw.out.len_eq)) (by omega))
            rw [f2] at MK
            subst f1
            go_wp2_with fail
            refine Calls.mono MK.out ?_
            rintro e w9 ⟨x, rfl, hx, k9⟩
            have HX := Lib.hid hx
            have HRR := Lib.hid (hr.out.keep k9)
            have KF := Lib.hid ((KW_2.out.trans hkk.out).trans k9)
            clear hx k9
            go_wp2_with fail
            go_ret3
            exact ⟨_, _, rfl, HX.out, HRR.out, KF.out⟩
          · obtain ⟨m, rfl⟩ : ∃ m, j = m + 1 := ⟨j - 1, by omega⟩
            obtain rfl : I = (m : Int) := by have := hI.out; omega
            have hRB : R < B := by rw [hinv.out.rem]; exact Nat.mod_lt _ HB0.out
            have SH := Lib.hid (rshl1_n hr.out (Nat.lt_trans hRB HBl.out) (by omega))
            have hqla := HBitlen.out m (by omega)
            obtain ⟨q, hqd⟩ : ∃ q, m / 32 = q := ⟨_, rfl⟩
            obtain ⟨s, hsd⟩ : ∃ s, m % 32 = s := ⟨_, rfl⟩
            have hms : m = 32 * q + s := by omega
            have hs32 : s < 32 := by omega
            rw [hqd] at hqla
            have hqi : ((m : Int) / 32) = q := by omega
            have hri : ((m : Int) % 32) = s := by omega
            obtain ⟨x, hx⟩ : ∃ x, l.getD q 0 = x := ⟨_, rfl⟩
            have hxl : x < 4294967296 := by rw [← hx]; exact HLim.out.at q
            obtain ⟨V, hV⟩ : ∃ V, x / 2 ^ s = V := ⟨_, rfl⟩
            have hVl : V < 4294967296 := by rw [← hV]; exact Nat.lt_of_le_of_lt (Nat.div_le_self _ _) hxl
            obtain ⟨bt, hbt⟩ : ∃ b, V % 2 = b := ⟨_, rfl⟩
            have hbt2 : bt < 2 := by omega
            have hbit : A / 2 ^ m % 2 = bt := by
              have := bit_of HLim.out hms hs32 (by rw [L1.out]; exact hqla)
              rw [hx, hV, hbt, HA.out] at this
              exact this.symm
            have hsh : ((x : Int) / 2 ^ s) = (V : Nat) := by rw [← hV]; push_cast; rfl
            have hand : bits BinOp.and IntKind.u32 (V : Int) 1 = (bt : Nat) := by
              have := u32_and_nat V 1 hVl (by omega)
              rw [Nat.and_one_is_mod, hbt] at this
              exact this
            have HBIT := Lib.hid hbit
            have HMS := Lib.hid hms
            have HRB := Lib.hid hRB
            have hcx := fun w5 (hk5 : Keep wr w5) => (X_2.out.keep (hkk.out.trans hk5)).cells
            have HCX := Lib.hid hcx
            have HX := Lib.hid hx
            clear hx hV hbt hbit hms hRB hcx hqd hsd
            go_wp2_with fail
            refine Calls.mono SH.out ?_
            rintro e w5 ⟨r1, rfl, hr1, k5⟩
            rcases HCX.out w5 k5 with h1 | ⟨b, off, rfl, h1⟩
            · omega
            have hc := h1 q hqla
            rw [HX.out] at hc
            have HR1 := Lib.hid hr1
            have HB5 := Lib.hid (Y_2.out.keep (hkk.out.trans k5))
            have HW5 := Lib.hid (hw.out.below k5 hgl.out)
            have K5 := Lib.hid (hkk.out.trans k5)
            have HGL5 := Lib.hid (Nat.lt_of_lt_of_le hgl.out (Below.size k5))
            clear hr1 k5 h1
            have hRk2 : R * 2 + bt < BB ^ (k + 1) := by
              have h1 := Nat.lt_trans HRB.out HBl.out
              have h2 : BB ^ (k + 1) = BB ^ k * BB := Nat.pow_succ ..
              have h3 : BB ^ k * 4 ≤ BB ^ k * BB := Nat.mul_le_mul_left _ (by decide)
              omega
            have HRK2 := Lib.hid hRk2
            have hR2l : R * 2 < BB ^ (k + 1) := by omega
            have hbtl : bt < BB := by rw [BB_eq]; omega
            have RA := Lib.hid (radd_n (w := w5.alloc (.cells #[.int .u32 (bt : Int)] 56)) ((HR1.out.keep ((Keep.refl _).alloc _)).nm hR2l) ((Rd.one' w5 bt (bt : Int) rfl hbtl 56).toNm (n := bt) (k := 1) (nv_one bt) (Nat.le_refl _)) (by omega) (by omega))
            clear hRk2 hR2l hbtl HR1
            go_wp2_with fail
            refine Calls.mono RA.out ?_
            rintro e w6 ⟨r2, rfl, hr2, k6⟩
            have k56 : Keep w5 w6 := Keep.trans ((Keep.refl w5).alloc (.cells #[.int .u32 (bt : Int)] 56)) k6
            have HR2 := Lib.hid hr2
            have HB6 := Lib.hid (HB5.out.keep k56)
            have HW6 := Lib.hid (HW5.out.below k56 HGL5.out)
            have K6 := Lib.hid (K5.out.trans k56)
            have HGL6 := Lib.hid (Nat.lt_of_lt_of_le HGL5.out (Below.size k56))
            have CM := Lib.hid (rcmp_n (hr2.nm HRK2.out) (HB6.out.toNm (n := B) (k := k) HBB.out (by have := HB6.out.len_eq; have := HLB.out; omega)))
            clear hr2 k6 k56 HB5 HW5 K5 HGL5 RA hc hsh hand
            by_cases hge : B ≤ R * 2 + bt
            · obtain ⟨z, hz⟩ : ∃ z, cmpv (R * 2 + bt) B = z := ⟨_, rfl⟩
              have hz0 : decide (0 ≤ z) = true := decide_eq_true (by
                rw [← hz]; rcases Nat.lt_or_eq_of_le hge with g | g
                · rw [cmpv_gt g]; decide
                · rw [cmpv_eq g.symm]; decide)
              rw [hz] at CM
              have SB := Lib.hid (fun w1 (h1 : Cn w1 r2 (R * 2 + bt)) (h2 : Rd w1 a' lb cb l') => rsub_fn h1 (h2.toNm (n := B) (k := k) HBB.out (by have := h2.len_eq; have := HLB.out; omega)) HRK2.out (by omega) (by omega) hge)
              clear hz
              go_wp2_with fail
              refine Calls.mono CM.out ?_
              rintro e w7 ⟨rfl, k7⟩
              have HR7 := Lib.hid (HR2.out.keep k7)
              have HB7 := Lib.hid (HB6.out.keep k7)
              have HW7 := Lib.hid (HW6.out.below k7 HGL6.out)
              have K7 := Lib.hid (K6.out.trans k7)
              have HGL7 := Lib.hid (Nat.lt_of_lt_of_le HGL6.out (Below.size k7))
              clear k7 HR2 HB6 HW6 K6 HGL6 CM
              go_wp2_with fail
              refine Calls.mono (SB.out _ HR7.out HB7.out) ?_
              rintro e w8 ⟨a4, d4, c4, rfl, hr4, k8, hfar⟩
              have HFAR := Lib.hid (hfar _ HGL7.out)
              have HR8 := Lib.hid hr4
              have HW8 := Lib.hid (HW7.out.below k8 HGL7.out)
              have K8 := Lib.hid (K7.out.trans k8)
              have HGL8 := Lib.hid (Nat.lt_of_lt_of_le HGL7.out (Below.size k8))
              clear k8 hr4 hfar HR7 HB7 HW7 K7 HGL7 SB
              obtain ⟨y, hy⟩ : ∃ y, Q.getD q 0 = y := ⟨_, rfl⟩
              have hyl : y < 4294967296 := by rw [← hy]; exact HW8.out.lim.at q
              have c1 := HW8.out.cell q hqla
              have f1 := HW8.out.free q hqla
              rw [hy, Nat.zero_add] at c1
              rw [Nat.zero_add] at f1
              have HY := Lib.hid hy
              clear hy
              go_wp2
              go_region
              have hn0 : ((2 : Int) ^ s % 4294967296) = ((2 ^ s : Nat) : Int) := by
                have h1 : (2 : Nat) ^ s < 2 ^ 32 := Nat.pow_lt_pow_right (by decide) hs32
                have h2 : ((2 : Int) ^ s) = ((2 ^ s : Nat) : Int) := by push_cast; rfl
                rw [h2]
                generalize (2 : Nat) ^ s = P at h1 ⊢
                omega
              have hv : bits BinOp.or IntKind.u32 (y : Int) (2 ^ s % 4294967296) = ((y ||| 2 ^ s : Nat) : Int) := by
                rw [hn0]
                exact u32_or_nat _ _ hyl (Nat.pow_lt_pow_right (by decide) hs32)
              obtain ⟨HI1, HI2⟩ := hinv.out.high HBIT.out HB0.out hge HMS.out hs32 (by rw [HW8.out.len_eq]; exact hqla) rfl
              rw [HY.out] at HI1 HI2
              have hwin := (HW8.out.set0 hqla HI2 hv).drew'
              have hkeep : Keep w2 (w8.setCell ⟨w2.heap.size, q, none⟩ (.int .u32 (bits BinOp.or IntKind.u32 (y : Int) (2 ^ s % 4294967296)))).drew := Keep.drew (Below.setCell K8.out (Nat.le_refl _) _)
              have hcn : Cn (w8.setCell ⟨w2.heap.size, q, none⟩ (.int .u32 (bits BinOp.or IntKind.u32 (y : Int) (2 ^ s % 4294967296)))).drew (.slice a4 d4 c4) (R * 2 + bt - B) := ⟨_, _, _, rfl, (HR8.out.only ((Only.refl w2.heap.size q (q + 1) w8).set (Nat.le_refl _) (Nat.lt_succ_self _) _) HFAR.out).keep (Keep.refl _).drew⟩
              have hgl9 : w2.heap.size < (w8.setCell ⟨w2.heap.size, q, none⟩ (.int .u32 (bits BinOp.or IntKind.u32 (y : Int) (2 ^ s % 4294967296)))).drew.heap.size := by
                have := HGL8.out
                simpa using this
              have HH1 := Lib.hid HI1
              have HH2 := Lib.hid hwin
              have HH3 := Lib.hid hkeep
              have HH4 := Lib.hid hcn
              have HH5 := Lib.hid hgl9
              clear HI1 HI2 hwin hkeep hcn hgl9 hn0 hv c1 f1
              go_wp2
              go_roundw
              case rel => exact ⟨m, R * 2 + bt - B, (m : Int) - 1, _, by omega, by go_num, Lib.hid rfl, HH1, HH4, HH2, HH3, HH5⟩
              case measure => first | (simp [intOf]; done) | (simp [intOf]; omega)
            · obtain ⟨z, hz⟩ : ∃ z, cmpv (R * 2 + bt) B = z := ⟨_, rfl⟩
              have hz0 : decide (0 ≤ z) = false := decide_eq_false (by rw [← hz, cmpv_lt (by omega)]; decide)
              rw [hz] at CM
              clear hz
              have HLOW := Lib.hid (hinv.out.low HBIT.out HB0.out (by omega))
              go_wp2_with fail
              refine Calls.mono CM.out ?_
              rintro e w7 ⟨rfl, k7⟩
              have HR7 := Lib.hid (HR2.out.keep k7)
              have HW7 := Lib.hid (HW6.out.below k7 HGL6.out)
              have K7 := Lib.hid (K6.out.trans k7)
              have HGL7 := Lib.hid (Nat.lt_of_lt_of_le HGL6.out (Below.size k7))
              clear k7 HR2 HB6 HW6 K6 HGL6 CM
              go_wp2
              go_roundw
              case rel => exact ⟨m, R * 2 + bt, (m : Int) - 1, Q, by omega, by go_num, Lib.hid rfl, HLOW, HR7, HW7, K7, HGL7⟩
              case measure => first | (simp [intOf]; done) | (simp [intOf]; omega)
      · exact absurd hnb (by decide)
  exact wlk trivial
theorem rdm_c {w : World} {v u : Value} {A B k : Nat} (h : Nm w v A k) (h' : Nm w u B k) (hk : k ≤ 500000) : Calls Tryd.prog 77 #[v, u] w (DmQ A B w) := by
  by_cases hB : B = 0
  · subst hB; exact rdm_zero h h' (by omega) (by omega)
  · by_cases hs : A < 18446744073709551616 ∧ B < 18446744073709551616
    · exact rdm_small h h' (by omega) (by omega) hB hs.1 hs.2
    · obtain ⟨a, la, ca, l, rfl, hr, rfl, hl⟩ := h.form3
      obtain ⟨a', lb, cb, l', rfl, hr', rfl, hl'⟩ := h'.form3
      refine rdm_loop hr hr' hl hl' hk hB _ _ _ _ rfl rfl rfl rfl ?_ ?_
      · intro ht
        have : nv l' < 18446744073709551616 := of_decide_eq_true ht
        rw [uintV_of this]
        simp; omega
      · by_cases h1 : nv l < 18446744073709551616
        · have h2 : ¬ nv l' < 18446744073709551616 := fun h => hs ⟨h1, h⟩
          rw [show uintB (nv l') = false from decide_eq_false h2, Bool.and_false]
        · rw [show uintB (nv l) = false from decide_eq_false h1, Bool.false_and]
end Go.Proofs.YtnalmjbgkedcoaaDoor
