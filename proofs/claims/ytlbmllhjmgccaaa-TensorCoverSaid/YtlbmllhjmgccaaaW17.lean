/- Walks of layer 11: the statement TensorCover. -/
import Derived.Test.YtlbmllhjmgccaaaW15
import Derived.Test.YtlbmllhjmgccaaaPlain6
namespace Go.Proofs.Ytlbmllhjmgccaaa
open Go.RowKit
set_option linter.unusedVariables false
theorem rsize_q (a : Option Addr) (len cap : Nat) (l : List Int) (T : Nat) (w : World) (n : Nat) (h : Sl w a len l) (hT : szv l = T) :
    Calls Try.prog 15 #[.slice a len cap] (w.drewN n) fun e w'' => e = .returned (.int .i64 T) ∧ ∃ m, w'' = w.drewN m :=
  (rsize_c a len cap l _ (h.drewN n)).mono fun _ _ ⟨h1, h2⟩ => ⟨by rw [h1, hT], n, h2.symm⟩

set_option maxHeartbeats 3200000 in
set_option maxRecDepth 100000 in
theorem law_cover (a : Option Addr) (len cap : Nat) (zs : List Int) (kh kw st pad : Int) (w : World) (h : RowIn w a len cap zs) (_hreach : len * 8 ≤ 140737488351232) :
    Calls Try.prog 9 #[.agg #[.slice a len cap, .int .i64 kh, .int .i64 kw, .int .i64 st, .int .i64 pad]] w fun e w' => e = .returned (.bool true) ∧ Below w.heap.size w w' := by
  have HSL := Lib.hid (isRow_sl h)
  clear h
  obtain ⟨l, hl⟩ : ∃ l, l = zs.take len := ⟨_, rfl⟩
  rw [← hl] at HSL
  clear hl
  have hk := KerCells.new w (.slice a len cap) kh kw st pad 38
  have hbA : Below w.heap.size w (w.alloc (.cells #[.slice a len cap, .int .i64 kh, .int .i64 kw, .int .i64 st, .int .i64 pad] 38)) := (Below.refl _ _).alloc (Nat.le_refl _) _
  have hsA : (w.alloc (.cells #[.slice a len cap, .int .i64 kh, .int .i64 kw, .int .i64 st, .int .i64 pad] 38)).heap.size = w.heap.size + 1 := by simp
  go_enter Try.func9, Try.ntmps9
  go_wp2_with fail
  obtain ⟨wa, hwa⟩ : ∃ wa, wa = w.alloc (.cells #[.slice a len cap, .int .i64 kh, .int .i64 kw, .int .i64 st, .int .i64 pad] 38) := ⟨_, rfl⟩
  rw [← hwa] at hk hbA hsA ⊢
  clear hwa
  refine (awake_c _).mono ?_
  rintro e w1 ⟨rfl, hb⟩
  have hb1 : Below (w.heap.size + 1) wa w1 := hb.mono (by omega)
  have hk1 := hk.below hb1 (by omega)
  have hbw := hbA.trans (hb1.mono (by omega))
  have hsz1 : w.heap.size + 1 ≤ w1.heap.size := by have := hb1.size; omega
  clear hb hk hbA hb1 hsA
  have H1 := Lib.hid (HSL.out.below hbw)
  obtain ⟨q0, q1, q2, q3, q4⟩ := hk1
  go_wp2_with fail
  refine (small_c _ _ _ l _ _ _ _ _ H1.out).mono ?_
  rintro e w2 ⟨rfl, hw2⟩
  have hk2 : KerCells w2 w.heap.size (.slice a len cap) kh kw st pad := hw2 ▸ KerCells.below ⟨q0, q1, q2, q3, q4⟩ ((Below.refl _ _).alloc (by omega) _) (by omega)
  have hbw2 : Below w.heap.size w w2 := hw2 ▸ hbw.alloc hbw.size _
  have hsz2 : w.heap.size + 1 ≤ w2.heap.size := by rw [← hw2]; simp; omega
  clear hw2 q0 q1 q2 q3 q4 hbw H1 hsz1
  by_cases hsm : smallB l kh kw = false
  · obtain ⟨q0, q1, q2, q3, q4⟩ := hk2
    go_wp2_with fail
    refine (awake_c _).mono ?_
    rintro e w3 ⟨rfl, hb⟩
    go_wp2_with fail
    go_ret
    exact ⟨rfl, hbw2.trans (hb.mono hbw2.size)⟩
  have hsm : smallB l kh kw = true := by simpa using hsm
  have H2 := Lib.hid (HSL.out.below hbw2)
  obtain ⟨q0, q1, q2, q3, q4⟩ := hk2
  go_wp2_with fail
  refine (few_c _ _ _ l _ _ _ _ _ H2.out).mono ?_
  rintro e w3 ⟨bf, rfl, hb3⟩
  have hk3 := KerCells.below ⟨q0, q1, q2, q3, q4⟩ hb3 (by omega)
  have hbw3 := hbw2.trans (hb3.mono (by omega))
  have hsz3 : w.heap.size + 1 ≤ w3.heap.size := by have := hb3.size; omega
  clear q0 q1 q2 q3 q4 hbw2 hsz2 H2 hb3
  cases bf
  · go_wp2_with fail
    refine (awake_c _).mono ?_
    rintro e w4 ⟨rfl, hb⟩
    go_wp2_with fail
    go_ret
    exact ⟨rfl, hbw3.trans (hb.mono hbw3.size)⟩
  have H3 := Lib.hid (HSL.out.below hbw3)
  obtain ⟨q0, q1, q2, q3, q4⟩ := hk3
  go_wp2_with fail
  refine (windows_c _ _ _ l _ _ _ _ _ H3.out).mono ?_
  rintro e w4 ⟨v, vs, rfl, hown, hvs, hb4⟩
  have hk4 := KerCells.below ⟨q0, q1, q2, q3, q4⟩ hb4 (by omega)
  have hbw4 := hbw3.trans (hb4.mono (by omega))
  have hsz4 : w.heap.size + 1 ≤ w4.heap.size := by have := hb4.size; omega
  have H4 := Lib.hid (H3.out.below hb4)
  clear q0 q1 q2 q3 q4 hb4 hbw3 hsz3 H3
  by_cases he : winErr l kh kw st 0 = 0
  · obtain ⟨C, H, W, a', b, s, p, R, S, rfl, rfl, rfl, rfl, hp0, hres, hC, hC2, hH, hH2, hW, hW2, ha, ha2, hb1, hb2, hs, hs2, hp, hp2, hR, hR2, hS, hS2, hok, eR, eS⟩ := win_nat he
    obtain rfl : p = 0 := by omega
    obtain ⟨_, C0, H0, W0, hl3, hf1, hf2⟩ := winErr_zero he
    simp only [List.cons.injEq, and_true] at hl3
    obtain ⟨rfl, rfl, rfl⟩ := hl3
    have haH : a' ≤ H := by omega
    have hbW : b ≤ W := by omega
    clear hf1 hf2 hp0
    have ER := Lib.hid eR
    have ES := Lib.hid eS
    clear eR eS
    rw [hres] at hvs ⊢
    obtain ⟨m, hm⟩ : ∃ m, vs.length = m := ⟨_, rfl⟩
    obtain ⟨xa, xc, rfl⟩ := own_slice hown
    rw [hm] at hown ⊢
    have hmRS : Hid (m = R * S) := Lib.hid (by rw [← hm, hvs.1, len_winRows])
    have HM := Lib.hid hm
    have hm2 : m ≤ 275560000 := by rw [hmRS.out]; exact Nat.mul_le_mul hR2 hS2
    have hRS : (R : Int) * (S : Int) = (m : Int) := by rw [hmRS.out, Int.natCast_mul]
    clear hres he hm
    obtain ⟨L, hL⟩ : ∃ L, C * (a' * b) = L := ⟨_, rfl⟩
    have hxpos : 0 < L := by rw [← hL]; exact Nat.mul_pos hC (Nat.mul_pos ha hb1)
    have hx67 : L ≤ 67108864 := by
      rw [← hL]
      have h1 := Nat.mul_le_mul ha2 hb2
      have h2 := Nat.mul_le_mul hC2 h1
      omega
    have hCab : (C : Int) * (a' : Int) * (b : Int) = (L : Int) := by rw [← hL, Int.natCast_mul, Int.natCast_mul, Int.mul_assoc]
    have hCa : (0 : Int) ≤ (C : Int) * (a' : Int) ∧ (C : Int) * (a' : Int) ≤ 1048576 := by
      have := Nat.mul_le_mul hC2 ha2
      rw [← Int.natCast_mul]; omega
    have HL := Lib.hid hL
    clear hL
    obtain ⟨T, hT⟩ : ∃ T, C * H * W = T := ⟨_, rfl⟩
    have hszv : szv [(C : Int), (H : Int), (W : Int)] = (T : Int) := by rw [szv_three hok, hT]
    have hT2 := (szv_bd [(C : Int), (H : Int), (W : Int)]).2
    rw [hszv] at hT2
    have HT := Lib.hid hT
    have HSZ := Lib.hid hszv
    clear hT hszv
    obtain ⟨q0, q1, q2, q3, q4⟩ := hk4
    obtain ⟨rfl, bb, oo, rfl, z0, z1, z2⟩ := H4.out.three
    go_wp2_with fail
    clear hRS
    go_loopw [7] (fun t wr => ∃ (i : Nat), i ≤ m ∧ t = .int .i64 i ∧ Dr w4 wr) (fun t _ => m - (intOf t).toNat)
    case atStart => exact ⟨0, by omega, rfl, 0, rfl⟩
    case round =>
      obtain ⟨i, hi, rfl, hdr⟩ := hrel
      obtain ⟨r0, r1, r2, r3, r4⟩ : KerCells wr w.heap.size (.slice (some ⟨bb, oo, none⟩) 3 cap) a' b s pad := ⟨(hdr.cell _).trans q0, (hdr.cell _).trans q1, (hdr.cell _).trans q2, (hdr.cell _).trans q3, (hdr.cell _).trans q4⟩
      have y0 := (hdr.cell _).trans z0
      by_cases hlt : i < m
      · obtain ⟨x, hx1, hx2, hx3, _, _⟩ := cover_get hC ha hb1 hs hS ER.out ES.out haH hbW (show i < R * S by rw [← hmRS.out]; exact hlt) (show 0 < C * (a' * b) by rw [HL.out]; exact hxpos)
        rw [HL.out] at hx2
        obtain ⟨g, ka, kc, rfl, hc1, _⟩ := vals_cell hown hvs HM.out hlt hx1 hx3
        rw [hx2] at hc1
        have HX := Lib.hid hx1
        clear hx1 hx2 hx3
        have d1 : wr.cell? ⟨g, i, none⟩ = some (.slice (some ⟨ka, 0, none⟩) L kc) := (hdr.cell _).trans hc1
        go_wp2
        go_quiet (fail)
        go_wp2
        have hdr2 := hdr.more nq
        clear d1 r0 r1 r2 r3 r4 y0
        obtain ⟨wo, hwo⟩ : ∃ wo : World, wo = wr.drewN nq := ⟨_, rfl⟩
        rw [← hwo] at hdr2 ⊢
        clear hwo hdr
        go_loopw [8] (fun t wr => ∃ (n : Nat), n ≤ L ∧ t = .int .i64 n ∧ Dr w4 wr) (fun t _ => L - (intOf t).toNat)
        case atStart => exact ⟨0, by omega, rfl, hdr2⟩
        case round =>
          obtain ⟨n, hn, rfl, hdr⟩ := hrel
          have d1 : wr.cell? ⟨g, i, none⟩ = some (.slice (some ⟨ka, 0, none⟩) L kc) := (hdr.cell _).trans hc1
          by_cases hlt2 : n < L
          · obtain ⟨x', hx1', hx2', hx3', hx4', hx5'⟩ := cover_get hC ha hb1 hs hS ER.out ES.out haH hbW (show i < R * S by rw [← hmRS.out]; exact hlt) (show n < C * (a' * b) by rw [HL.out]; exact hlt2)
            obtain rfl : x' = x := Option.some.inj (hx1'.symm.trans HX.out)
            rw [HT.out] at hx5'
            generalize cval H W a' (i / S * s) (i % S * s) (n / b) (n % b) = v at hx3' hx4' hx5'
            obtain ⟨g', ka', kc', e1, f1, f2⟩ := vals_cell hown hvs HM.out hlt hx1' hx3'
            simp only [Option.some.injEq, Addr.mk.injEq, and_true] at e1
            subst e1
            rw [hc1] at f1
            simp only [Option.some.injEq, Value.slice.injEq, Addr.mk.injEq, and_true] at f1
            obtain ⟨rfl, _, _⟩ := f1
            obtain ⟨r0, r1, r2, r3, r4⟩ : KerCells wr w.heap.size (.slice (some ⟨bb, oo, none⟩) 3 cap) a' b s pad := ⟨(hdr.cell _).trans q0, (hdr.cell _).trans q1, (hdr.cell _).trans q2, (hdr.cell _).trans q3, (hdr.cell _).trans q4⟩
            have t1 : wr.cell? ⟨ka, n, none⟩ = some (.int .i64 v) := (hdr.cell _).trans f2
            have H5 := Lib.hid (hdr.sl H4.out)
            by_cases hn0 : n = 0
            · subst hn0
              have hv0 : decide ((v : Int) < 0) = false := by simp
              have hv1 : decide (T ≤ v) = false := by simp; omega
              clear hx1' hx2' hx3' hx4' f2
              first | rw [show ((0 : Nat) : Int) = 0 from rfl] | skip
              go_wp2
              go_quiet ((go_at_call 15; exact rsize_q _ _ _ _ T _ _ H5.out HSZ.out))
              go_wp2
              go_roundw
              case rel => exact ⟨1, by omega, by go_num, hdr.more _⟩
              case measure => simp [intOf]; omega
            · obtain ⟨k, rfl⟩ : ∃ k, n = k + 1 := ⟨n - 1, by omega⟩
              obtain ⟨u, hu1, hu2⟩ := hx4' k rfl
              obtain ⟨g', ka', kc', e1, f3, f4⟩ := vals_cell hown hvs HM.out hlt hx1' hu1
              simp only [Option.some.injEq, Addr.mk.injEq, and_true] at e1
              subst e1
              rw [hc1] at f3
              simp only [Option.some.injEq, Value.slice.injEq, Addr.mk.injEq, and_true] at f3
              obtain ⟨rfl, _, _⟩ := f3
              have t2 : wr.cell? ⟨ka, k, none⟩ = some (.int .i64 u) := (hdr.cell _).trans f4
              have hv0 : decide ((v : Int) < 0) = false := by simp
              have hv1 : decide (T ≤ v) = false := by simp; omega
              have hv2 : decide (v ≤ u) = false := by simp; omega
              have hv3 : decide ((0 : Int) < (k : Int) + 1) = true := decide_eq_true (by omega)
              have w2 : IntKind.i64.wrap ((k : Int) + 1 - 1) = (k : Int) := by rw [IntWalk.i64_in _ (by omega)]; omega
              have w4 : ((k : Int) + 1).toNat = k + 1 := by omega
              have i2 : ((k : Int) + 1) < (L : Int) := by omega
              have i5 : (0 : Int) ≤ (k : Int) + 1 := by omega
              have i6 : (k : Int) < (L : Int) := by omega
              clear hx1' hx2' hx3' hx4' f2 f4 hu1
              go_wp2
              go_quiet ((go_at_call 15; exact rsize_q _ _ _ _ T _ _ H5.out HSZ.out))
              go_wp2
              go_roundw
              case rel => exact ⟨k + 1 + 1, by omega, by go_num, hdr.more _⟩
              case measure => simp [intOf]; omega
          · have hnL : n = L := by omega
            subst hnL
            go_wp2
            go_roundw
            case rel => exact ⟨i + 1, by omega, by go_num, hdr⟩
            case measure => simp [intOf]; omega
      · clear hown hvs
        have H6 := Lib.hid (hdr.sl H4.out)
        have hbw5 := hdr.below hbw4
        have hsz5 : w.heap.size + 1 ≤ wr.heap.size := by obtain ⟨nn, rfl⟩ := hdr; exact hsz4
        go_wp2_with fail
        refine (windows_c _ _ _ _ _ _ _ _ _ H6.out).mono ?_
        rintro e w6 ⟨v', vs', rfl, hown, hvs, hb6⟩
        obtain ⟨r0', r1', r2', r3', r4'⟩ := KerCells.below ⟨r0, r1, r2, r3, r4⟩ hb6 (by omega)
        have hbw6 := hbw5.trans (hb6.mono (by omega))
        obtain ⟨_, b6, o6, e6, x0, x1, x2⟩ := (H6.out.below hb6).three
        simp only [Option.some.injEq, Addr.mk.injEq, and_true] at e6
        obtain ⟨rfl, rfl⟩ := e6
        clear r0 r1 r2 r3 r4 y0 hb6 hbw5 H6
        obtain ⟨C1, H1, W1, a1, b1, s1, p1, R1, S1, el, ea, eb, es, ep, hres, _, _, _, _, _, _, _, _, _, _, _, _, _, _, _, _, _, _, _, eR, eS⟩ := win_nat (one_err hok)
        simp only [List.cons.injEq, and_true] at el
        obtain ⟨f1, f2, f3⟩ := el
        obtain rfl : C = C1 := by omega
        obtain rfl : H = H1 := by omega
        obtain rfl : W = W1 := by omega
        obtain rfl : a1 = 1 := by omega
        obtain rfl : b1 = 1 := by omega
        obtain rfl : s1 = 1 := by omega
        obtain rfl : p1 = 0 := by omega
        obtain rfl : H = R1 := by omega
        obtain rfl : W = S1 := by omega
        clear f1 f2 f3 ea eb es ep eR eS
        rw [hres] at hvs ⊢
        clear hres
        obtain ⟨A, hA⟩ : ∃ A, H * W = A := ⟨_, rfl⟩
        have hlv : vs'.length = A := by rw [hvs.1, len_winRows, hA]
        obtain ⟨xb, xd, rfl⟩ := own_slice hown
        rw [hlv] at hown ⊢
        have hHW : (H : Int) * (W : Int) = (A : Int) := by rw [← hA, Int.natCast_mul]
        have hA2 : A ≤ 16384 := by
          have h1 := HT.out
          rw [Nat.mul_assoc, hA] at h1
          have h2 := Nat.le_mul_of_pos_left A hC
          omega
        have HA := Lib.hid hA
        have HLV := Lib.hid hlv
        clear hA hlv
        go_wp2
        go_quiet (fail)
        go_wp2
        clear hHW
        obtain ⟨w7, hw7⟩ : ∃ w7, w7 = w6.drewN nq := ⟨_, rfl⟩
        have hd7 : Dr w6 w7 := ⟨nq, hw7⟩
        rw [← hw7]
        clear hw7
        go_loopw [14] (fun t wr => ∃ (i : Nat), i ≤ A ∧ t = .int .i64 i ∧ Dr w6 wr) (fun t _ => A - (intOf t).toNat)
        case atStart => exact ⟨0, by omega, rfl, hd7⟩
        case round =>
          clear hd7
          obtain ⟨i, hi, rfl, hd⟩ := hrel
          by_cases hlt2 : i < A
          · go_wp2
            obtain ⟨wo, hwo⟩ : ∃ wo : World, wo = wr := ⟨_, rfl⟩
            subst hwo
            go_loopw [15] (fun t wr => ∃ (c : Nat), c ≤ C ∧ t = .int .i64 c ∧ Dr w6 wr) (fun t _ => C - (intOf t).toNat)
            case atStart => exact ⟨0, by omega, rfl, hd⟩
            case round =>
              clear hd
              obtain ⟨c, hc, rfl, hd⟩ := hrel
              have u0 : wr.cell? ⟨w.heap.size, 0, none⟩ = some (.slice (some ⟨bb, oo, none⟩) 3 cap) := (hd.cell _).trans r0'
              have u1 := (hd.cell _).trans x0
              by_cases hlt3 : c < C
              · obtain ⟨x, g1, g2, g3⟩ := one_get hC hH hW (show i < H * W by rw [HA.out]; exact hlt2) hlt3
                rw [HA.out] at g3
                obtain ⟨g, ka, kc, rfl, d1, d2⟩ := vals_cell hown hvs HLV.out hlt2 g1 g3
                rw [g2] at d1
                have u2 := (hd.cell _).trans d1
                have u3 := (hd.cell _).trans d2
                have hca : 0 ≤ (c : Int) * (A : Int) ∧ (c : Int) * (A : Int) ≤ 268435456 := by
                  have := Nat.mul_le_mul (show c ≤ 16384 by omega) hA2
                  rw [← Int.natCast_mul]; omega
                rw [show ((c * A + i : Nat) : Int) = (c : Int) * (A : Int) + (i : Int) by rw [Int.natCast_add, Int.natCast_mul]] at u3
                clear g1 g2 g3 d1 d2
                go_wp2
                go_roundw
                case rel => exact ⟨c + 1, by omega, by go_num, hd⟩
                case measure => simp [intOf]; omega
              · have hcC : c = C := by omega
                subst hcC
                go_wp2
                go_roundw
                case rel => exact ⟨i + 1, by omega, by go_num, hd⟩
                case measure => simp [intOf]; omega
          · go_wp2
            go_ret
            exact ⟨ret_bool rfl, hd.below hbw6⟩
  · rw [winRes_err he] at hvs ⊢
    have hev := winErr_vals l kh kw st 0
    have hne : (winErr l kh kw st 0 != 0) = true := by rw [bne_iff_ne]; exact he
    obtain ⟨er, her⟩ : ∃ er, winErr l kh kw st 0 = er := ⟨_, rfl⟩
    rw [her] at hev he hne ⊢
    clear her
    rcases hev with h0 | rfl | rfl | rfl
    · exact absurd h0 he
    all_goals
      go_wp2_with fail
      go_ret
      exact ⟨ret_bool rfl, hbw4⟩
end Go.Proofs.Ytlbmllhjmgccaaa
