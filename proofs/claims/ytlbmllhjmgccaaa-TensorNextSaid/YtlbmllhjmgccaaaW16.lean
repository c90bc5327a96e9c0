/- Walks of layer 11: the statement TensorNext. -/
import Derived.Test.YtlbmllhjmgccaaaW15
namespace Go.Proofs.Ytlbmllhjmgccaaa
open Go.RowKit
set_option linter.unusedVariables false
set_option maxHeartbeats 3200000 in
set_option maxRecDepth 100000 in
theorem law_next (a : Option Addr) (len cap : Nat) (zs : List Int) (kh kw st pad : Int) (w : World) (h : RowIn w a len cap zs) (_hreach : len * 8 ≤ 140737488351232) :
    Calls Try.prog 10 #[.agg #[.slice a len cap, .int .i64 kh, .int .i64 kw, .int .i64 st, .int .i64 pad]] w fun e w' => e = .returned (.bool true) ∧ Below w.heap.size w w' := by
  have HSL := Lib.hid (isRow_sl h)
  clear h
  obtain ⟨l, hl⟩ : ∃ l, l = zs.take len := ⟨_, rfl⟩
  rw [← hl] at HSL
  clear hl
  have hk := KerCells.new w (.slice a len cap) kh kw st pad 38
  have hbA : Below w.heap.size w (w.alloc (.cells #[.slice a len cap, .int .i64 kh, .int .i64 kw, .int .i64 st, .int .i64 pad] 38)) := (Below.refl _ _).alloc (Nat.le_refl _) _
  have hsA : (w.alloc (.cells #[.slice a len cap, .int .i64 kh, .int .i64 kw, .int .i64 st, .int .i64 pad] 38)).heap.size = w.heap.size + 1 := by simp
  go_enter Try.func10, Try.ntmps10
  go_wp2_with fail
  obtain ⟨wa, hwa⟩ : ∃ wa, wa = w.alloc (.cells #[.slice a len cap, .int .i64 kh, .int .i64 kw, .int .i64 st, .int .i64 pad] 38) := ⟨_, rfl⟩
  rw [← hwa] at hk hbA hsA ⊢
  clear hwa
  refine (awake_c _).mono ?_
  rintro e w1 ⟨rfl, hb⟩
  have hb1 : Below (w.heap.size + 1) wa w1 := hb.mono (by omega)
  have hk1 := hk.below hb1 (by omega)
  have hbw := hbA.trans (hb1.mono (by omega))
  have hsz1 : w.heap.size + 1 ≤ w1.heap.size := by have := hb1.size; omega
  clear hb hk hbA hb1 hsA
  have H1 := Lib.hid (HSL.out.below hbw)
  obtain ⟨q0, q1, q2, q3, q4⟩ := hk1
  go_wp2_with fail
  refine (small_c _ _ _ l _ _ _ _ _ H1.out).mono ?_
  rintro e w2 ⟨rfl, hw2⟩
  have hk2 : KerCells w2 w.heap.size (.slice a len cap) kh kw st pad := hw2 ▸ KerCells.below ⟨q0, q1, q2, q3, q4⟩ ((Below.refl _ _).alloc (by omega) _) (by omega)
  have hbw2 : Below w.heap.size w w2 := hw2 ▸ hbw.alloc hbw.size _
  have hsz2 : w.heap.size + 1 ≤ w2.heap.size := by rw [← hw2]; simp; omega
  clear hw2 q0 q1 q2 q3 q4 hbw H1 hsz1
  by_cases hsm : smallB l kh kw = false
  · obtain ⟨q0, q1, q2, q3, q4⟩ := hk2
    go_wp2_with fail
    refine (awake_c _).mono ?_
    rintro e w3 ⟨rfl, hb⟩
    go_wp2_with fail
    go_ret
    exact ⟨rfl, hbw2.trans (hb.mono hbw2.size)⟩
  have hsm : smallB l kh kw = true := by simpa using hsm
  have H2 := Lib.hid (HSL.out.below hbw2)
  obtain ⟨q0, q1, q2, q3, q4⟩ := hk2
  go_wp2_with fail
  refine (few_c _ _ _ l _ _ _ _ _ H2.out).mono ?_
  rintro e w3 ⟨bf, rfl, hb3⟩
  have hk3 := KerCells.below ⟨q0, q1, q2, q3, q4⟩ hb3 (by omega)
  have hbw3 := hbw2.trans (hb3.mono (by omega))
  have hsz3 : w.heap.size + 1 ≤ w3.heap.size := by have := hb3.size; omega
  clear q0 q1 q2 q3 q4 hbw2 hsz2 H2 hb3
  cases bf
  · go_wp2_with fail
    refine (awake_c _).mono ?_
    rintro e w4 ⟨rfl, hb⟩
    go_wp2_with fail
    go_ret
    exact ⟨rfl, hbw3.trans (hb.mono hbw3.size)⟩
  have H3 := Lib.hid (HSL.out.below hbw3)
  obtain ⟨q0, q1, q2, q3, q4⟩ := hk3
  go_wp2_with fail
  refine (windows_c _ _ _ l _ _ _ _ _ H3.out).mono ?_
  rintro e w4 ⟨v, vs, rfl, hown, hvs, hb4⟩
  have hk4 := KerCells.below ⟨q0, q1, q2, q3, q4⟩ hb4 (by omega)
  have hbw4 := hbw3.trans (hb4.mono (by omega))
  clear q0 q1 q2 q3 q4 hb4 hbw3 hsz3 H3
  by_cases he : winErr l kh kw 1 pad = 0
  · obtain ⟨C, H, W, a', b, s, p, R, S, rfl, rfl, rfl, hs1, rfl, hres, hC, hC2, hH, hH2, hW, hW2, ha, ha2, hb1, hb2, hs, hs2, hp, hp2, hR, hR2, hS, hS2, hok, eR, eS⟩ := win_nat he
    clear eR eS
    obtain rfl : s = 1 := by omega
    rw [hres] at hvs ⊢
    obtain ⟨m, hm⟩ : ∃ m, vs.length = m := ⟨_, rfl⟩
    obtain ⟨xa, xc, rfl⟩ := own_slice hown
    rw [hm] at hown ⊢
    have hml := own_len hown
    have hmRS : Hid (m = R * S) := Lib.hid (by rw [← hm, hvs.1, len_winRows])
    have HM := Lib.hid hm
    have hm2 : m ≤ 275560000 := by rw [hmRS.out]; exact Nat.mul_le_mul hR2 hS2
    clear hres he hm hs1 hml
    obtain ⟨q0, q1, q2, q3, q4⟩ := hk4
    go_wp2_with fail
    go_loopw [7] (fun t wr => ∃ (i : Nat), i ≤ m ∧ t = .int .i64 i ∧ Dr w4 wr) (fun t _ => m - (intOf t).toNat)
    case atStart => exact ⟨0, by omega, rfl, 0, rfl⟩
    case round =>
      obtain ⟨i, hi, rfl, hdr⟩ := hrel
      by_cases hlt : i + 1 < m
      · by_cases hmod : (i + 1) % S = 0
        · have hmod2 : Hid (((i : Int) + 1) % (S : Int) = 0) := Lib.hid (by rw [← Int.natCast_one, ← Int.natCast_add, ← Int.natCast_emod, hmod]; rfl)
          have hmb : (((i : Int) + 1) % (S : Int) == 0) = true := by rw [hmod2.out]; rfl
          clear hmod
          go_wp2
          go_roundw
          case rel => exact ⟨i + 1, by omega, by go_num, hdr⟩
          case measure => simp [intOf]; omega
        · have hmb : (((i : Int) + 1) % (S : Int) == 0) = false := by
            rw [← Int.natCast_one, ← Int.natCast_add, ← Int.natCast_emod]
            exact beq_eq_false_iff_ne.2 (by omega)
          have HMOD := Lib.hid hmod
          clear hmod
          obtain ⟨x, hx⟩ : ∃ x, x = chans H W ((i / S : Nat) * (1 : Nat) - p) ((i % S : Nat) * (1 : Nat) - p) a' b C := ⟨_, rfl⟩
          have hwi := winRows_get H W (1 : Nat) p a' b C S R i hS (by rw [← hmRS.out]; omega)
          rw [← hx] at hwi
          have hxl : x.length = C * (a' * b) := by rw [hx, len_chans]
          have hxpos : 0 < C * (a' * b) := Nat.mul_pos hC (Nat.mul_pos ha hb1)
          have hx67 : C * (a' * b) ≤ 67108864 := by
            have h1 := Nat.mul_le_mul ha2 hb2
            have h2 := Nat.mul_le_mul hC2 h1
            omega
          obtain ⟨L, hL⟩ : ∃ L, C * (a' * b) = L := ⟨_, rfl⟩
          rw [hL] at hxl hxpos hx67
          have HL := Lib.hid hL
          have HX := Lib.hid hx
          have HWI := Lib.hid hwi
          have HXL := Lib.hid hxl
          clear hL hx hwi hxl
          obtain ⟨g, ka, kc, rfl, hc1, _⟩ := vals_cell hown hvs HM.out (show i < m by omega) HWI.out (n := 0) (v := x.getD 0 0) (by simp [List.getD_eq_getElem?_getD, HXL.out, hxpos])
          rw [HXL.out] at hc1
          go_wp2
          obtain ⟨wo, hwo⟩ : ∃ wo : World, wo = wr := ⟨_, rfl⟩
          subst hwo
          go_loopw [8] (fun t wr => ∃ (n : Nat), n ≤ L ∧ t = .int .i64 n ∧ Dr w4 wr) (fun t _ => L - (intOf t).toNat)
          case atStart => exact ⟨0, by omega, rfl, hdr⟩
          case round =>
            clear hdr
            obtain ⟨n, hn, rfl, hdr⟩ := hrel
            have d1 : wr.cell? ⟨g, i, none⟩ = some (.slice (some ⟨ka, 0, none⟩) L kc) := (hdr.cell _).trans hc1
            have r2 : wr.cell? ⟨w.heap.size, 2, none⟩ = some (.int .i64 b) := (hdr.cell _).trans q2
            by_cases hlt2 : n < L
            · by_cases hn0 : n % b = 0
              · have hg : decide (0 < (n : Int) % (b : Int)) = false := by rw [← Int.natCast_emod, hn0]; rfl
                clear hn0
                go_wp2
                go_quiet (fail)
                go_wp2
                go_roundw
                case rel => exact ⟨n + 1, by omega, by go_num, hdr.more _⟩
                case measure => simp [intOf]; omega
              · obtain ⟨x', y', v, g1, g2, g3, g4⟩ := next_ok H W p a' b C S R i n hS ha hb1 (by rw [← hmRS.out]; exact hlt) HMOD.out (by rw [HL.out]; exact hlt2) hn0
                have hxx : x' = x := Option.some.inj (g1.symm.trans HWI.out)
                subst hxx
                have hn0' : decide (0 < (n : Int) % (b : Int)) = true := by rw [← Int.natCast_emod]; simp; omega
                have hnp : 0 < n := by
                  rcases Nat.eq_zero_or_pos n with h0 | h0
                  · subst h0; simp at hn0
                  · exact h0
                obtain ⟨n', rfl⟩ : ∃ n', n = n' + 1 := ⟨n - 1, by omega⟩
                obtain ⟨_, ka1, kc1, e1, f1, f2⟩ := vals_cell hown hvs HM.out (show i < m by omega) g1 g3
                obtain ⟨_, ka2, kc2, e2, f3, f4⟩ := vals_cell hown hvs HM.out hlt g2 g4
                simp only [Option.some.injEq, Addr.mk.injEq, and_true] at e1 e2
                subst e1
                subst e2
                rw [hc1] at f1
                simp only [Option.some.injEq, Value.slice.injEq, Addr.mk.injEq, and_true] at f1
                obtain ⟨rfl, _, _⟩ := f1
                have hly : n' < y'.length := (List.getElem?_eq_some_iff.1 g4).1
                obtain ⟨Y, hY⟩ : ∃ Y, y'.length = Y := ⟨_, rfl⟩
                rw [hY] at hly f3
                have t1 : wr.cell? ⟨ka, n' + 1, none⟩ = some (.int .i64 v) := (hdr.cell _).trans f2
                have t2 : wr.cell? ⟨g, i + 1, none⟩ = some (.slice (some ⟨ka2, 0, none⟩) Y kc2) := (hdr.cell _).trans f3
                have t3 : wr.cell? ⟨ka2, n', none⟩ = some (.int .i64 v) := (hdr.cell _).trans f4
                rw [show ((n' + 1 : Nat) : Int) = (n' : Int) + 1 from by omega] at hn0'
                have i1 : ((i : Int) + 1) < (m : Int) := by omega
                have i2 : ((n' : Int) + 1) < (L : Int) := by omega
                have i4 : (0 : Int) ≤ (i : Int) + 1 := by omega
                have i5 : (0 : Int) ≤ (n' : Int) + 1 := by omega
                have i6 : (i : Int) < (m : Int) := by omega
                have w1 : IntKind.i64.wrap ((i : Int) + 1) = (i : Int) + 1 := IntWalk.i64_in _ (by omega)
                have w2 : IntKind.i64.wrap ((n' : Int) + 1 - 1) = (n' : Int) := by rw [IntWalk.i64_in _ (by omega)]; omega
                have w3 : ((i : Int) + 1).toNat = i + 1 := by omega
                have w4 : ((n' : Int) + 1).toNat = n' + 1 := by omega
                have i3 : (n' : Int) < (Y : Int) := by omega
                clear hY f2 f3 f4 g1 g2 g3 g4 hvs hown hc1 hn0
                go_wp2
                go_quiet (fail)
                go_wp2
                go_roundw
                case rel => exact ⟨n' + 1 + 1, by omega, by go_num, hdr.more _⟩
                case measure => simp [intOf]; omega
            · have hnL : n = L := by omega
              subst hnL
              go_wp2
              go_roundw
              case rel => exact ⟨i + 1, by omega, by go_num, hdr⟩
              case measure => simp [intOf]; omega
      · go_wp2
        go_ret
        exact ⟨rfl, hdr.below hbw4⟩
  · rw [winRes_err he] at hvs ⊢
    have hv0 : vs.length = 0 := by rw [hvs.1]; rfl
    obtain ⟨xa, xc, rfl⟩ := own_slice hown
    rw [hv0]
    have hne : (winErr l kh kw 1 pad != 0) = true := by rw [bne_iff_ne]; exact he
    clear he hv0 hown hvs
    go_wp2_with fail
    go_ret
    exact ⟨ret_bool rfl, hbw4⟩
end Go.Proofs.Ytlbmllhjmgccaaa
