/- Walks of layer 11: the reference's Windows, where the windows are listed; whatever the arguments. -/
import Derived.Test.YtlbmllhjmgccaaaW12
namespace Go.Proofs.Ytlbmllhjmgccaaa
open Go.RowKit
set_option linter.unusedVariables false
theorem own_drewN {w : World} {base : Nat} {e : TypeId} {size : Nat} {v : Value} {n : Nat} {xs : List Value} (h : w.ownsRow base e size v n xs) (m : Nat) : (w.drewN m).ownsRow base e size v n xs := h
theorem below_dN {B : Nat} {w w' : World} (h : Below B w w') (n : Nat) : Below B w (w'.drewN n) := h.trans ⟨rfl, rfl, rfl, Nat.le_refl _, fun _ _ => rfl⟩
theorem cells_three {w wr : World} {b off : Nat} {C H W : Int} (hb : Below w.heap.size w wr) (h : b < w.heap.size) (c0 : w.cell? ⟨b, off, none⟩ = some (.int .i64 C)) (c1 : w.cell? ⟨b, off + 1, none⟩ = some (.int .i64 H)) (c2 : w.cell? ⟨b, off + 2, none⟩ = some (.int .i64 W)) :
    wr.cell? ⟨b, off, none⟩ = some (.int .i64 C) ∧ wr.cell? ⟨b, off + 1, none⟩ = some (.int .i64 H) ∧ wr.cell? ⟨b, off + 2, none⟩ = some (.int .i64 W) :=
  ⟨(hb.cell h).trans c0, (hb.cell h).trans c1, (hb.cell h).trans c2⟩

set_option maxHeartbeats 6400000 in
set_option maxRecDepth 100000 in
theorem rwindows_ok (b off cap C H W kh kw st pad : Nat) (w : World) (hsl : Sl w (some ⟨b, off, none⟩) 3 [(C : Int), H, W]) (hb : winArg [(C : Int), H, W] kh kw st pad = true)
    (hs1 : kh ≤ H + 2 * pad) (hs2 : kw ≤ W + 2 * pad)  :
    Calls Try.prog 24 #[.slice (some ⟨b, off, none⟩) 3 cap, .int .i64 kh, .int .i64 kw, .int .i64 st, .int .i64 pad] w (WsPost [(C : Int), H, W] kh kw st pad w) := by
  have herr := winErr_ok hb hs1 hs2
  obtain ⟨h1, h2, h3, h4, h5, h6, h7⟩ := winArg_true hb
  have k1 := side_bd h2
  have k2 := side_bd h3
  have k3 := side_bd h4
  clear hb h2 h3 h4
  have b1 := ok_pos h1 C (by simp)
  have b2 := ok_pos h1 H (by simp)
  have b3 := ok_pos h1 W (by simp)
  obtain ⟨_, b', off', e, c0, c1, c2⟩ := hsl.three
  simp at e
  obtain ⟨rfl, rfl⟩ := e
  have HS := Lib.hid hsl; clear hsl
  have hblt : b < w.heap.size := World.block_lt_of_cell? w _ c0
  obtain ⟨i0, hi, hz0, hz1, hz2⟩ := info_parts Try.info22
  obtain ⟨j0, hj, hy0, hy1, hy2⟩ := info_parts Try.info3
  have o1 := outs_bd (H := H) (k := kh) (st := st) (pad := pad) b2.1 b2.2 k1.1 k1.2 k3.1 (by omega) h6 (by omega)
  have o2 := outs_bd (H := W) (k := kw) (st := st) (pad := pad) b3.1 b3.2 k2.1 k2.2 k3.1 (by omega) h7 (by omega)
  obtain ⟨R, hR⟩ : ∃ R : Nat, outs H kh st pad = R := ⟨(outs H kh st pad).toNat, by omega⟩
  obtain ⟨S, hS⟩ : ∃ S : Nat, outs W kw st pad = S := ⟨(outs W kw st pad).toNat, by omega⟩
  rw [hR] at o1
  rw [hS] at o2
  have hfive := five_bd o1.1 o1.2 o2.1 o2.2 b1.1 b1.2 k1.1 k1.2 k2.1 k2.2
  rw [hR, hS] at herr
  have HR := Lib.hid hR
  have HSS := Lib.hid hS
  unfold outs at hR hS
  by_cases hlim : (262144 : Int) < R * S * C * kh * kw
  · rw [if_pos hlim] at herr
    have fin : ∀ (e : Ending) w', (e = Ending.returned (.tuple #[.slice none 0 0, .int .i64 0, .int .i64 0, .int .i64 8]) ∧ Below w.heap.size w w') → WsPost [(C : Int), H, W] kh kw st pad w e w' := by
      rintro e w' ⟨rfl, hbl⟩
      have hr : winRes [(C : Int), H, W] kh kw st pad = ([], 0, 0, 8) := by unfold winRes; rw [herr]; rfl
      exact ⟨.slice none 0 0, [], by rw [hr], World.ownsRow_nil _ _ _ _, by rw [hr]; exact Vals.nil _ _, hbl⟩
    refine Calls.mono ?_ fin
    clear fin herr
    go_enter Try.func24, Try.ntmps24
    go_wp2_with (go_at_call 13; refine (rvalid_c _ _ _ _ _ HS.out).mono ?_; rintro e w' ⟨rfl, rfl⟩)
    go_quiet (fail)
    go_wp2
    refine bodyPost_ret (results_tmp4 rfl _ _ _) rfl ?_
    exact ⟨rfl, ⟨rfl, rfl, rfl, Nat.le_refl _, fun _ _ => rfl⟩⟩
  · rw [if_neg hlim] at herr
    have fin : ∀ (e : Ending) w', (∃ v vs ws, e = Ending.returned (.tuple #[v, .int .i64 R, .int .i64 S, .int .i64 0]) ∧ w'.ownsRow w.heap.size 22 1 v vs.length vs ∧ Vals w' w.heap.size vs ws ∧ ws = winRows H W st pad kh kw C S R ∧ Below w.heap.size w w') → WsPost [(C : Int), H, W] kh kw st pad w e w' := by
      rintro e w' ⟨v, vs, ws, rfl, ho, hv, rfl, hbl⟩
      have hr : winRes [(C : Int), H, W] kh kw st pad = (winRows H W st pad kh kw C S R, (R : Int), (S : Int), 0) := by
        unfold winRes; rw [herr, if_pos rfl]
        unfold wins
        simp only [List.getD_cons_succ, List.getD_cons_zero]
        rw [HR.out, HSS.out]; simp
      exact ⟨v, vs, by rw [hr], ho, by rw [hr]; exact hv, hbl⟩
    refine Calls.mono ?_ fin
    clear fin herr
    go_enter Try.func24, Try.ntmps24
    go_wp2_with (go_at_call 13; refine (rvalid_c _ _ _ _ _ HS.out).mono ?_; rintro e w' ⟨rfl, rfl⟩)
    go_quiet (fail)
    go_wp2
    clear hR hS hfive
    go_loopw [17, 16] (fun s v wr => ∃ (r : Nat) (vs : List Value) (ws : List (List Int)), r ≤ R ∧ s = .int .i64 r ∧ WsInv H W st pad kh kw C S r 0 ws ∧ wr.ownsRow w.heap.size 22 1 v vs.length vs ∧ Vals wr w.heap.size vs ws ∧ Below w.heap.size w wr) (fun s _ _ => R - (intOf s).toNat)
    case atStart => exact ⟨0, [], [], by omega, rfl, wsInv_zero .., World.ownsRow_nil _ _ _ _, Vals.nil _ _, ⟨rfl, rfl, rfl, Nat.le_refl _, fun _ _ => rfl⟩⟩
    case round =>
      obtain ⟨r, vs, ws, hr, rfl, hinv, hown, hvs, hbel⟩ := hrel
      by_cases hlt : r < R
      · go_wp2
        obtain ⟨wo, rfl⟩ : ∃ wo : World, wo = wr := ⟨_, rfl⟩
        go_loopw [18, 16] (fun s v wr => ∃ (c : Nat) (vs : List Value) (ws : List (List Int)), c ≤ S ∧ s = .int .i64 c ∧ WsInv H W st pad kh kw C S r c ws ∧ wr.ownsRow w.heap.size 22 1 v vs.length vs ∧ Vals wr w.heap.size vs ws ∧ Below w.heap.size w wr) (fun s _ _ => S - (intOf s).toNat)
        case atStart => exact ⟨0, vs, ws, by omega, rfl, hinv, hown, hvs, hbel⟩
        case round =>
          clear hown hbel hinv hvs
          obtain ⟨c, vs, ws, hc, rfl, hinv, hown, hvs, hbel⟩ := hrel
          by_cases hlt2 : c < S
          · go_wp2
            obtain ⟨wp, rfl⟩ : ∃ wp : World, wp = wr := ⟨_, rfl⟩
            go_loopw [20, 19] (fun s v wr => ∃ (ch : Nat) (xs : List Int), ch ≤ C ∧ s = .int .i64 ch ∧ WinInv H W (r * st - pad) (c * st - pad) kh kw ch 0 0 xs ∧ wr.ownsRow wp.heap.size 3 1 v xs.length (xs.map (Value.int .i64)) ∧ Below wp.heap.size wp wr) (fun s _ _ => C - (intOf s).toNat)
            case atStart => exact ⟨0, [], by omega, rfl, winInv_zero .., World.ownsRow_nil _ _ _ _, Below.refl _ _⟩
            case round =>
              obtain ⟨ch, xs, hch, rfl, hinvw, hownw, hbelw⟩ := hrel
              obtain ⟨d0, d1, d2⟩ := cells_three (hbel.trans (hbelw.mono hbel.size)) hblt c0 c1 c2
              by_cases hlt3 : ch < C
              · go_wp2
                obtain ⟨wq, rfl⟩ : ∃ wq : World, wq = wr := ⟨_, rfl⟩
                clear d0 d1 d2
                go_loopw [21, 19] (fun s v wr => ∃ (i : Nat) (xs : List Int), i ≤ kh ∧ s = .int .i64 i ∧ WinInv H W (r * st - pad) (c * st - pad) kh kw ch i 0 xs ∧ wr.ownsRow wp.heap.size 3 1 v xs.length (xs.map (Value.int .i64)) ∧ Below wp.heap.size wp wr) (fun s _ _ => kh - (intOf s).toNat)
                case atStart => exact ⟨0, xs, by omega, rfl, hinvw, hownw, hbelw⟩
                case round =>
                  clear hinvw hownw hbelw
                  obtain ⟨i, xs, hik, rfl, hinvw, hownw, hbelw⟩ := hrel
                  by_cases hlt4 : i < kh
                  · go_wp2
                    obtain ⟨wt, rfl⟩ : ∃ wt : World, wt = wr := ⟨_, rfl⟩
                    go_loopw [22, 19] (fun s v wr => ∃ (j : Nat) (xs : List Int), j ≤ kw ∧ s = .int .i64 j ∧ WinInv H W (r * st - pad) (c * st - pad) kh kw ch i j xs ∧ wr.ownsRow wp.heap.size 3 1 v xs.length (xs.map (Value.int .i64)) ∧ Below wp.heap.size wp wr) (fun s _ _ => kw - (intOf s).toNat)
                    case atStart => exact ⟨0, xs, by omega, rfl, hinvw, hownw, hbelw⟩
                    case round =>
                      clear hinvw hownw hbelw
                      obtain ⟨j, xs, hjk, rfl, hinvw, hownw, hbelw⟩ := hrel
                      by_cases hlt5 : j < kw
                      · have m1 := mul_st (a := r) (st := st) (by omega) (by omega)
                        have m2 := mul_st (a := c) (st := st) (by omega) (by omega)
                        have hix := ix_three (ch := ch) (y := r * st + i - pad) (x := c * st + j - pad) h1 (by omega) (by omega)
                        have HSr := Lib.hid ((HS.out.below (hbel.trans (hbelw.mono hbel.size))))
                        have hlen := winInv_len hinvw (by omega) (by omega) (by omega) (by omega) (by omega)
                        have hsz := hbelw.size
                        have hel := elemv_i64 (H := H) (W := W) (ch := ch) (y := r * st - pad + i) (x := c * st - pad + j) (by omega) (by omega) (by omega) (by omega)
                        have HSH := Lib.hid (elem_shift (H := H) (W := W) (ch := ch) (rs := r * st) (cs := c * st) (pad := pad) (i := i) (j := j))
                        by_cases hpad : (r : Int) * st + i - pad < 0 ∨ (H : Int) ≤ r * st + i - pad ∨ (c : Int) * st + j - pad < 0 ∨ (W : Int) ≤ c * st + j - pad
                        · rw [if_pos hpad] at hix
                          have HIX := Lib.hid hix; clear hix
                          have HE := Lib.hid (elemv_out (ch := ch) hpad)
                          clear hpad
                          go_wp2_with fail
                          refine (rindex_c _ _ _ _ _ _ _ _ _ (HSr.out.alloc _) (Sl.new3 _ _ _ _ (by omega) (by omega) (by omega))).mono ?_
                          rintro e w1 ⟨rfl, n1, rfl⟩
                          rw [HIX.out]
                          have hinv2 := winInv_j hinvw
                          rw [← HSH.out, HE.out] at hinv2
                          clear hinvw
                          have hown1 := own_drewN (hownw.alloc (.cells #[.int .i64 ch, .int .i64 (r * st + i - pad), .int .i64 (c * st + j - pad)] 3)) n1
                          go_wp2_with (at_builtin; refine wpList_append_own _ rfl _ _ 22 rfl wp.heap.size 3 j0 (.int .i64 0) 1 8 Try.underlying22 hj hy0 hy1 hy2 rfl (by decide) _ _ _ rfl (hown1.alloc _) ⟨wr.heap.size + 1, 0, none⟩ 1 1 [.int .i64 (-1)] rfl rfl (one_new (by simp)) one_cell (by unfold maxLen; omega) (by omega) (by simp; omega) ?_)
                          intro v' w2 hown' hgrow _
                          have hown3 := hown'
                          rw [show xs.length + 1 = (xs ++ [(-1)]).length by simp, show List.map (Value.int .i64) xs ++ [Value.int .i64 (-1)] = (xs ++ [(-1)]).map (Value.int .i64) by simp] at hown3
                          have hbel3 : Below wp.heap.size wp w2 := ((below_dN (hbelw.alloc hsz _) n1).alloc (by simp; omega) _).grown hgrow (by simp; omega) (fun k hk => by have := hownw.lt k hk; omega)
                          clear hown' hgrow hown1 hownw hbelw
                          go_wp2
                          go_roundw
                          case rel => exact ⟨j + 1, _, by omega, by go_num, hinv2, hown3, hbel3⟩
                          case measure => simp [intOf]; omega
                        · rw [if_neg hpad] at hix
                          have HIX := Lib.hid hix; clear hix
                          clear hpad
                          go_wp2_with fail
                          refine (rindex_c _ _ _ _ _ _ _ _ _ (HSr.out.alloc _) (Sl.new3 _ _ _ _ (by omega) (by omega) (by omega))).mono ?_
                          rintro e w1 ⟨rfl, n1, rfl⟩
                          rw [HIX.out]
                          have hinv2 := winInv_j hinvw
                          rw [← HSH.out] at hinv2
                          clear hinvw
                          have hown1 := own_drewN (hownw.alloc (.cells #[.int .i64 ch, .int .i64 (r * st + i - pad), .int .i64 (c * st + j - pad)] 3)) n1
                          go_wp2_with (at_builtin; refine wpList_append_own _ rfl _ _ 22 rfl wp.heap.size 3 j0 (.int .i64 0) 1 8 Try.underlying22 hj hy0 hy1 hy2 rfl (by decide) _ _ _ rfl (hown1.alloc _) ⟨wr.heap.size + 1, 0, none⟩ 1 1 [.int .i64 (elemv H W ch (r * st + i - pad) (c * st + j - pad))] rfl rfl (one_new (by simp)) one_cell (by unfold maxLen; omega) (by omega) (by simp; omega) ?_)
                          intro v' w2 hown' hgrow _
                          have hown3 := hown'
                          rw [show xs.length + 1 = (xs ++ [(elemv H W ch (r * st + i - pad) (c * st + j - pad))]).length by simp, show List.map (Value.int .i64) xs ++ [Value.int .i64 (elemv H W ch (r * st + i - pad) (c * st + j - pad))] = (xs ++ [(elemv H W ch (r * st + i - pad) (c * st + j - pad))]).map (Value.int .i64) by simp] at hown3
                          have hbel3 : Below wp.heap.size wp w2 := ((below_dN (hbelw.alloc hsz _) n1).alloc (by simp; omega) _).grown hgrow (by simp; omega) (fun k hk => by have := hownw.lt k hk; omega)
                          clear hown' hgrow hown1 hownw hbelw
                          go_wp2
                          go_roundw
                          case rel => exact ⟨j + 1, _, by omega, by go_num, hinv2, hown3, hbel3⟩
                          case measure => simp [intOf]; omega
                      · have hjk2 : j = kw := by omega
                        subst hjk2
                        have hinv2 := winInv_i hinvw
                        go_wp2
                        go_roundw
                        case rel => exact ⟨i + 1, xs, by omega, by go_num, hinv2, hownw, hbelw⟩
                        case measure => simp [intOf]; omega
                  · have hik2 : i = kh := by omega
                    subst hik2
                    have hinv2 := winInv_ch hinvw
                    go_wp2
                    go_roundw
                    case rel => exact ⟨ch + 1, xs, by omega, by go_num, hinv2, hownw, hbelw⟩
                    case measure => simp [intOf]; omega
              · have hcC : ch = C := by omega
                subst hcC
                have hx := Lib.hid (winInv_end hinvw)
                have hxl := winInv_len hinvw (by omega) (by omega) (by omega) (by omega) (by omega)
                clear hinvw
                obtain ⟨va, vc, rfl⟩ := own_slice hownw
                have HONE := Lib.hid (own_oneCell hownw)
                have hown2 := own_below hown hbelw
                have hownc : wr.ownsRow w.heap.size 3 1 (.slice va xs.length vc) (chans H W (r * st - pad) (c * st - pad) kh kw ch).length ((chans H W (r * st - pad) (c * st - pad) kh kw ch).map (Value.int .i64)) := by rw [← hx.out]; exact hownw.mono hbel.size
                have hvs2 := (hvs.below hbelw).push hownc
                have hbel2 := hbel.trans (hbelw.mono hbel.size)
                have hsz2 := hbel2.size
                have hlen := wsInv_len hinv (by omega) (by omega) (by omega)
                rw [← hvs.1] at hlen
                have hinv2 := wsInv_c hinv
                clear hbelw hown hvs hbel hinv hownc d0 d1 d2
                obtain ⟨d0, d1, d2⟩ := cells_three hbel2 hblt c0 c1 c2
                go_wp2_with (at_builtin; refine wpList_append_own _ rfl _ _ 33 rfl w.heap.size 22 i0 (.slice none 0 0) 1 24 Try.underlying33 hi hz0 hz1 hz2 rfl (by decide) _ _ _ rfl (hown2.alloc _) ⟨wr.heap.size, 0, none⟩ 1 1 [.slice va _ vc] rfl rfl (one_new rfl) HONE.out (by unfold maxLen; omega) (by omega) (by simp; omega) ?_)
                intro v' w2 hown' hgrow _
                have hown3 := hown'
                rw [show vs.length + 1 = (vs ++ [Value.slice va xs.length vc]).length by simp] at hown3
                have hbel3 : Below w.heap.size w w2 := (hbel2.alloc (by omega) _).grown hgrow (by simp; omega) (fun k hk => by have := hown2.lt k hk; omega)
                have hvs3 := (hvs2.below ((Below.refl _ _).alloc (Nat.le_refl _) _)).grown (hown2.alloc _) hgrow
                clear hown' hgrow hvs2 hown2 hownw hbel2 d0 d1 d2
                go_wp2
                go_roundw
                case rel => exact ⟨c + 1, _, _, by omega, by go_num, hinv2, hown3, hvs3, hbel3⟩
                case measure => simp [intOf]; omega
          · have hcS : c = S := by omega
            subst hcS
            have hinv2 := wsInv_r hinv
            go_wp2
            go_roundw
            case rel => exact ⟨r + 1, vs, ws, by omega, by go_num, hinv2, hown, hvs, hbel⟩
            case measure => simp [intOf]; omega
      · have hrR : r = R := by omega
        subst hrR
        have hfin := Lib.hid (wsInv_end hinv)
        go_wp2
        refine bodyPost_ret (results_tmp4 rfl _ _ _) rfl ?_
        exact ⟨_, vs, ws, rfl, hown, hvs, hfin.out, hbel⟩

theorem rwindows_c (a : Option Addr) (len cap : Nat) (l : List Int) (kh kw st pad : Int) (w : World) (h : Sl w a len l) :
    Calls Try.prog 24 #[.slice a len cap, .int .i64 kh, .int .i64 kw, .int .i64 st, .int .i64 pad] w (WsPost l kh kw st pad w) := by
  by_cases hb : winArg l kh kw st pad = false
  · exact (rwindows_arg a len cap l kh kw st pad w h hb).mono (wsBad_post (winErr_bad hb))
  · have hb : winArg l kh kw st pad = true := by simpa using hb
    by_cases hs : l.length ≠ 3 ∨ l.getD 1 0 + 2 * pad < kh ∨ l.getD 2 0 + 2 * pad < kw
    · exact (rwindows_shape a len cap l kh kw st pad w h hb hs).mono (wsBad_post (winErr_shape hb hs))
    · obtain ⟨C, H, W, rfl⟩ := three (l := l) (by omega)
      obtain ⟨h1, h2, h3, h4, h5, h6, h7⟩ := winArg_true hb
      have k1 := side_bd h2
      have k2 := side_bd h3
      have k3 := side_bd h4
      have b1 := ok_pos h1 C (by simp)
      have b2 := ok_pos h1 H (by simp)
      have b3 := ok_pos h1 W (by simp)
      obtain ⟨rfl, b, off, rfl, _, _, _⟩ := h.three
      obtain ⟨C, rfl⟩ := Int.eq_ofNat_of_zero_le (show 0 ≤ C by omega)
      obtain ⟨H, rfl⟩ := Int.eq_ofNat_of_zero_le (show 0 ≤ H by omega)
      obtain ⟨W, rfl⟩ := Int.eq_ofNat_of_zero_le (show 0 ≤ W by omega)
      obtain ⟨kh, rfl⟩ := Int.eq_ofNat_of_zero_le (show 0 ≤ kh by omega)
      obtain ⟨kw, rfl⟩ := Int.eq_ofNat_of_zero_le (show 0 ≤ kw by omega)
      obtain ⟨st, rfl⟩ := Int.eq_ofNat_of_zero_le (show 0 ≤ st by omega)
      obtain ⟨pad, rfl⟩ := Int.eq_ofNat_of_zero_le h5
      simp at hs
      exact rwindows_ok b off cap C H W kh kw st pad w h hb (by omega) (by omega)
end Go.Proofs.Ytlbmllhjmgccaaa
