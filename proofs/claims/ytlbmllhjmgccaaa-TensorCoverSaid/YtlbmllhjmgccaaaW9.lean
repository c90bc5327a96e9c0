/- Walks of layer 11: Windows, where the windows are listed. -/
import Derived.Test.YtlbmllhjmgccaaaW8
import Derived.Test.YtlbmllhjmgccaaaOwn
namespace Go.Proofs.Ytlbmllhjmgccaaa
open Go.RowKit
set_option linter.unusedVariables false

theorem mul_st {a st : Nat} (h : a ≤ 16600) (h2 : st ≤ 64) : 0 ≤ (a : Int) * (st : Int) ∧ (a : Int) * (st : Int) ≤ 1062400 := by
  have := Nat.mul_le_mul h h2
  rw [← Int.natCast_mul]; omega

set_option maxHeartbeats 3200000 in
set_option maxRecDepth 100000 in
theorem windows_ok (b off cap C H W kh kw st pad : Nat) (w : World) (hsl : Sl w (some ⟨b, off, none⟩) 3 [(C : Int), H, W]) (hb : winArg [(C : Int), H, W] kh kw st pad = true)
    (hs1 : kh ≤ H + 2 * pad) (hs2 : kw ≤ W + 2 * pad)  :
    Calls Try.prog 23 #[.slice (some ⟨b, off, none⟩) 3 cap, .int .i64 kh, .int .i64 kw, .int .i64 st, .int .i64 pad] w (WsPost [(C : Int), H, W] kh kw st pad w) := by
  have herr := winErr_ok hb hs1 hs2
  obtain ⟨h1, h2, h3, h4, h5, h6, h7⟩ := winArg_true hb
  have k1 := side_bd h2
  have k2 := side_bd h3
  have k3 := side_bd h4
  clear hb
  have b1 := ok_pos h1 C (by simp)
  have b2 := ok_pos h1 H (by simp)
  have b3 := ok_pos h1 W (by simp)
  obtain ⟨_, b', off', e, c0, c1, c2⟩ := hsl.three
  simp at e
  obtain ⟨rfl, rfl⟩ := e
  have HS := Lib.hid hsl; clear hsl
  have hblt : b < w.heap.size := World.block_lt_of_cell? w _ c0
  obtain ⟨i0, hi, hz0, hz1, hz2⟩ := info_parts Try.info22
  have o1 := outs_bd (H := H) (k := kh) (st := st) (pad := pad) b2.1 b2.2 k1.1 k1.2 k3.1 (by omega) h6 (by omega)
  have o2 := outs_bd (H := W) (k := kw) (st := st) (pad := pad) b3.1 b3.2 k2.1 k2.2 k3.1 (by omega) h7 (by omega)
  obtain ⟨R, hR⟩ : ∃ R : Nat, outs H kh st pad = R := ⟨(outs H kh st pad).toNat, by omega⟩
  obtain ⟨S, hS⟩ : ∃ S : Nat, outs W kw st pad = S := ⟨(outs W kw st pad).toNat, by omega⟩
  rw [hR] at o1
  rw [hS] at o2
  have hfive := five_bd o1.1 o1.2 o2.1 o2.2 b1.1 b1.2 k1.1 k1.2 k2.1 k2.2
  obtain ⟨n, hn⟩ : ∃ n : Nat, (R : Int) * (S : Int) = (n : Int) := ⟨R * S, by simp⟩
  have hn2 : n ≤ 275560000 := by omega
  have HN := Lib.hid hn
  clear hn
  rw [hR, hS] at herr
  have hkc := KCells.new w C H W kh kw st pad 45
  have HR := Lib.hid hR
  have HSS := Lib.hid hS
  unfold outs at hR hS
  by_cases hlim : (262144 : Int) < R * S * C * kh * kw
  · rw [if_pos hlim] at herr
    have fin : ∀ (e : Ending) w', (e = Ending.returned (.tuple #[.slice none 0 0, .int .i64 0, .int .i64 0, .int .i64 8]) ∧ Below w.heap.size w w') → WsPost [(C : Int), H, W] kh kw st pad w e w' := by
      rintro e w' ⟨rfl, hbl⟩
      have hr : winRes [(C : Int), H, W] kh kw st pad = ([], 0, 0, 8) := by unfold winRes; rw [herr]; rfl
      exact ⟨.slice none 0 0, [], by rw [hr], World.ownsRow_nil _ _ _ _, by rw [hr]; exact Vals.nil _ _, hbl⟩
    refine Calls.mono ?_ fin
    clear fin herr
    go_enter Try.func23, Try.ntmps23
    go_wp2_with (first | (go_at_call 12; refine (valid_c _ _ _ _ _ HS.out).mono ?_; rintro e w' ⟨rfl, rfl⟩) | (go_at_call 27; refine (side_c _ _).mono ?_; rintro e w' ⟨rfl, rfl⟩))
    go_region
    go_wp2
    go_quiet (fail)
    go_wp2
    refine bodyPost_ret (results_tmp4 rfl _ _ _) rfl ?_
    exact ⟨rfl, ((Below.refl _ _).alloc (Nat.le_refl _) _).trans ⟨rfl, rfl, rfl, Nat.le_refl _, fun _ _ => rfl⟩⟩
  · rw [if_neg hlim] at herr
    have fin : ∀ (e : Ending) w', (∃ v vs ws, e = Ending.returned (.tuple #[v, .int .i64 R, .int .i64 S, .int .i64 0]) ∧ w'.ownsRow (w.heap.size + 1) 22 1 v vs.length vs ∧ Vals w' (w.heap.size + 1) vs ws ∧ ws = winRows H W st pad kh kw C S R ∧ Below w.heap.size w w') → WsPost [(C : Int), H, W] kh kw st pad w e w' := by
      rintro e w' ⟨v, vs, ws, rfl, ho, hv, rfl, hbl⟩
      have hr : winRes [(C : Int), H, W] kh kw st pad = (winRows H W st pad kh kw C S R, (R : Int), (S : Int), 0) := by
        unfold winRes; rw [herr, if_pos rfl]
        unfold wins
        simp only [List.getD_cons_succ, List.getD_cons_zero]
        rw [HR.out, HSS.out]; simp
      exact ⟨v, vs, by rw [hr], ho.mono (by omega), by rw [hr]; exact hv.mono (by omega), hbl⟩
    refine Calls.mono ?_ fin
    clear fin herr
    go_enter Try.func23, Try.ntmps23
    go_wp2_with (first | (go_at_call 12; refine (valid_c _ _ _ _ _ HS.out).mono ?_; rintro e w' ⟨rfl, rfl⟩) | (go_at_call 27; refine (side_c _ _).mono ?_; rintro e w' ⟨rfl, rfl⟩))
    go_region
    have hbA : Below w.heap.size w (w.alloc (.cells #[.int .i64 C, .int .i64 H, .int .i64 W, .int .i64 kh, .int .i64 kw, .int .i64 st, .int .i64 pad] 45)) := (Below.refl _ _).alloc (Nat.le_refl _) _
    have hszA : (w.alloc (.cells #[.int .i64 C, .int .i64 H, .int .i64 W, .int .i64 kh, .int .i64 kw, .int .i64 st, .int .i64 pad] 45)).heap.size = w.heap.size + 1 := by simp
    go_wp2
    go_quiet (fail)
    obtain ⟨wa, hwa⟩ : ∃ wa, wa = w.alloc (.cells #[.int .i64 C, .int .i64 H, .int .i64 W, .int .i64 kh, .int .i64 kw, .int .i64 st, .int .i64 pad] 45) := ⟨_, rfl⟩
    rw [← hwa] at hkc hbA hszA ⊢
    clear hwa
    have hsA := Lib.hid hszA
    have hsB : w.heap.size + 1 ≤ wa.heap.size := by omega
    clear hszA c0 c1 c2
    obtain ⟨q0, q1, q2, q3, q4, q5, q6⟩ := hkc
    go_wp2_with (at_make; refine wpList_make_own _ rfl _ _ 33 rfl (w.heap.size + 1) 22 i0 (.slice none 0 0) 1 Try.underlying33 hi hz0 hz1 _ _ _ n rfl rfl HN.out ?b2 ?b3 ?b4 ?_)
    case b2 => rw [hz2]; omega
    case b3 => unfold maxLen; omega
    case b4 => simp; omega
    intro w0 hown0 hgrow0
    have hkc : KCells wa w.heap.size C H W kh kw st pad := ⟨q0, q1, q2, q3, q4, q5, q6⟩
    clear q0 q1 q2 q3 q4 q5 q6
    have hb0 : Below (w.heap.size + 1) wa w0 := (Below.refl _ _).grown (row := none) ⟨hgrow0.os, hgrow0.tape, hgrow0.output, hgrow0.size, hgrow0.block⟩ (by omega) (fun k h => by cases h)
    have hsz0 : w.heap.size + 1 ≤ w0.heap.size := by have := hb0.size; omega
    have hbw : Below w.heap.size w w0 := hbA.trans (hb0.mono (by omega))
    have hk0 := hkc.below hb0 (by omega)
    clear hkc hgrow0 hbA hb0
    go_wp2
    go_loopw [125, 17] (fun s v wr => ∃ (r : Nat) (vs : List Value) (ws : List (List Int)), r ≤ R ∧ s = .int .i64 r ∧ WsInv H W st pad kh kw C S r 0 ws ∧ wr.ownsRow (w.heap.size + 1) 22 1 v vs.length vs ∧ Vals wr (w.heap.size + 1) vs ws ∧ Below (w.heap.size + 1) w0 wr) (fun s _ _ => R - (intOf s).toNat)
    case atStart => exact ⟨0, [], [], by omega, rfl, wsInv_zero .., hown0, Vals.nil _ _, Below.refl _ _⟩
    case round =>
      clear hown0
      obtain ⟨r, vs, ws, hr, rfl, hinv, hown, hvs, hbel⟩ := hrel
      by_cases hlt : r < R
      · go_wp2
        obtain ⟨wo, rfl⟩ : ∃ wo : World, wo = wr := ⟨_, rfl⟩
        go_loopw [129, 17] (fun s v wr => ∃ (c : Nat) (vs : List Value) (ws : List (List Int)), c ≤ S ∧ s = .int .i64 c ∧ WsInv H W st pad kh kw C S r c ws ∧ wr.ownsRow (w.heap.size + 1) 22 1 v vs.length vs ∧ Vals wr (w.heap.size + 1) vs ws ∧ Below (w.heap.size + 1) w0 wr) (fun s _ _ => S - (intOf s).toNat)
        case atStart => exact ⟨0, vs, ws, by omega, rfl, hinv, hown, hvs, hbel⟩
        case round =>
          clear hown hbel hinv hvs
          obtain ⟨c, vs, ws, hc, rfl, hinv, hown, hvs, hbel⟩ := hrel
          by_cases hlt2 : c < S
          · have hlen := wsInv_len hinv (by omega) (by omega) (by omega)
            rw [← hvs.1] at hlen
            have hsz := hbel.size
            have m1 := mul_st (a := r) (st := st) (by omega) (by omega)
            have m2 := mul_st (a := c) (st := st) (by omega) (by omega)
            obtain ⟨q0, q1, q2, q3, q4, q5, q6⟩ := hk0.below hbel (by omega)
            go_wp2_with fail
            refine (window_c C kh kw H W st pad _ _ _ (by omega) (by omega) (by omega) (by omega) (by omega) (by omega) (by omega) (by omega) (by omega)).mono ?_
            rintro e w1 ⟨v1, xs, rfl, hxs, hown1, hb1⟩
            subst hxs
            clear q0 q1 q2 q3 q4 q5 q6
            have hown2 := (own_below hown hb1)
            have hvs2 := (hvs.below hb1).push (hown1.mono (by omega))
            have hbel2 : Below (w.heap.size + 1) w0 w1 := hbel.trans (hb1.mono (by omega))
            have hsz2 := hbel2.size
            obtain ⟨va, vc, rfl⟩ := own_slice hown1
            have HONE := Lib.hid (own_oneCell hown1)
            go_wp2_with (at_builtin; refine wpList_append_own _ rfl _ _ 33 rfl (w.heap.size + 1) 22 i0 (.slice none 0 0) 1 24 Try.underlying33 hi hz0 hz1 hz2 rfl (by decide) _ _ _ rfl (hown2.alloc _) ⟨w1.heap.size, 0, none⟩ 1 1 [.slice va _ vc] rfl rfl (one_new rfl) HONE.out (by unfold maxLen; omega) (by omega) (by simp; omega) ?_)
            intro v' w2 hown' hgrow _
            have hown3 := hown'
            rw [show vs.length + 1 = (vs ++ [Value.slice va (chans H W (r * st - pad) (c * st - pad) kh kw C).length vc]).length by simp] at hown3
            have hbel3 : Below (w.heap.size + 1) w0 w2 := (hbel2.alloc (by omega) _).grown hgrow (by simp; omega) (fun k hk => by have := hown2.lt k hk; omega)
            have hvs3 := (hvs2.below ((Below.refl _ _).alloc (Nat.le_refl _) _)).grown (hown2.alloc _) hgrow
            have hinv2 := wsInv_c hinv
            clear hown' hgrow hown hbel hinv hvs hvs2 hown1 hown2 hb1 hbel2
            go_wp2
            go_roundw
            case rel => exact ⟨c + 1, _, _, by omega, by go_num, hinv2, hown3, hvs3, hbel3⟩
            case measure => simp [intOf]; omega
          · have hcS : c = S := by omega
            subst hcS
            have hinv2 := wsInv_r hinv
            go_wp2
            go_roundw
            case rel => exact ⟨r + 1, vs, ws, by omega, by go_num, hinv2, hown, hvs, hbel⟩
            case measure => simp [intOf]; omega
      · have hrR : r = R := by omega
        subst hrR
        have hfin := Lib.hid (wsInv_end hinv)
        go_wp2
        refine bodyPost_ret (results_tmp4 rfl _ _ _) rfl ?_
        exact ⟨_, vs, ws, rfl, hown, hvs, hfin.out, hbw.trans (hbel.mono (by omega))⟩
end Go.Proofs.Ytlbmllhjmgccaaa
