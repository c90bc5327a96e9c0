/- The law of the numbers. -/
import Derived.Test.YtbdmljdcipcanaaV9
import Derived.Laws.MakeOwn
import Derived.Deep.RegionHeld3
import Derived.Deep.Cut
namespace Go.Proofs.Ytbdmljdcipcanaa
open Go.RowKit
set_option linter.unusedVariables false

set_option linter.unusedSimpArgs false
theorem st_snoc (L : List Int) : strOfNums (L ++ [0]) = strOfNums L ++ ⟨#[0]⟩ := by
  apply ByteArray.ext
  apply Array.ext'
  simp [strOfNums]
set_option maxHeartbeats 4000000 in
set_option maxRecDepth 100000 in
theorem law_numbers (ad : Option Addr) (n cap : Nat) (L : List Int) (N : Nat) (i : Int) (w : World) (hs : SlB w ad n cap L) (hN : N < 18446744073709551616) (hi1 : -9223372036854775808 ≤ i) (hi2 : i ≤ 9223372036854775807) :
    Calls Try.prog 3 #[.slice ad n cap, .int .u64 (N : Nat), .int .i64 i] w fun e w' => e = .returned (.bool true) ∧ Below w.heap.size w w' := by
  have HS := Lib.hid hs
  have hnc : n ≤ cap := hs.2.1
  have hc63 := hs.2.2.1
  have HLN : Hid (L.length = n) := Lib.hid hs.1
  clear hs
  by_cases hn : 100 < n
  · go_enter Try.func3, Try.ntmps3
    go_wp2_with fail
    refine (awake_c w).mono ?_
    rintro e w1 ⟨rfl, hb1⟩
    have B1 := Lib.hid hb1
    clear hb1
    go_wp2_with fail
    refine (awake_c w1).mono ?_
    rintro e w2 ⟨rfl, hb2⟩
    have B2 := Lib.hid (B1.out.trans (hb2.mono B1.out.size))
    go_wp2
    refine bodyPost_ret (results_tmp rfl _ _ _) rfl ?_
    exact ⟨rfl, B2.out⟩
  · go_enter Try.func3, Try.ntmps3
    go_wp2_with fail
    refine (awake_c w).mono ?_
    rintro e w1 ⟨rfl, hb1⟩
    have B1 := Lib.hid hb1
    have S1 := Lib.hid (HS.out.below hb1)
    clear hb1
    obtain ⟨i0, hi0, hz0, hz1, hz2⟩ := info_parts info8
    obtain ⟨wm, hmk, hOm, hgm⟩ := run_make_own (P := Try.prog) w1 w1.heap.size 22 5 i0 (.int .u8 0) 1 Try.underlying22 hi0 hz0 hz1 .i64 .i64 (n + 20) (by rw [hz2]; omega) (by unfold maxLen; omega) (Nat.le_refl _)
    rw [show ((n + 20 : Nat) : Int) = (n : Int) + 20 by omega] at hmk
    have OM : Hid (OwnB wm w1.heap.size (.slice (some ⟨w1.heap.size, 0, none⟩) 0 (n + 20)) []) := Lib.hid hOm
    have BM : Hid (Below w1.heap.size w1 wm) := Lib.hid ((Below.refl _ _).grown hgm (Nat.le_refl _) (fun k hk => by cases hk))
    have SM := Lib.hid (S1.out.below BM.out)
    clear hOm hgm hi0 hz0 hz1 hz2
    go_wp2_with (at_builtin; refine wpList_append_bs rfl (.tmp 22) (.tmp 23) 22 22 rfl Try.underlying22 w1.heap.size _ [] rfl OM.out _ n L rfl (SM.out.asSrc Try.underlying22) HLN.out (by simp; omega) BM.out.size ?_; intro v2 w2 hO2 hB2; rw [List.nil_append] at hO2; have O2 := Lib.hid hO2; have B2 := Lib.hid (BM.out.trans hB2); clear hO2 hB2 OM SM hmk)
    obtain ⟨ra, rc, hv2⟩ := O2.out.slice
    rw [HLN.out] at hv2
    subst hv2
    have C2 := Lib.hid (B1.out.trans (B2.out.mono B1.out.size))
    have R2 := Lib.hid (O2.out.sl HLN.out)
    clear O2 B2 BM
    refine (appendUint_c ra n rc L N w2 R2.out hN (by omega)).mono ?_
    rintro e w3 ⟨v, rfl, hO, hb⟩
    obtain ⟨xa, xc, rfl⟩ := hO.slice
    have X3 := Lib.hid (hO.sl rfl)
    have R3 := Lib.hid (R2.out.below hb)
    have C3 := Lib.hid (C2.out.trans (hb.mono C2.out.size))
    obtain ⟨xn, hxn⟩ : ∃ x, (L ++ grp N).length = x := ⟨_, rfl⟩
    rw [hxn] at X3 ⊢
    clear hO hb R2 C2 hxn
    go_wp2_with fail
    refine (appendInt_c ra n rc L i w3 R3.out hi1 hi2 (by omega)).mono ?_
    rintro e w4 ⟨v, rfl, hO, hb⟩
    obtain ⟨ya, yc, rfl⟩ := hO.slice
    have X4 := Lib.hid (X3.out.below hb)
    have Y4 := Lib.hid (hO.sl rfl)
    have R4 := Lib.hid (R3.out.below hb)
    have C4 := Lib.hid (C3.out.trans (hb.mono C3.out.size))
    obtain ⟨yn, hyn⟩ : ∃ x, (L ++ grp (zz i)).length = x := ⟨_, rfl⟩
    rw [hyn] at Y4 ⊢
    clear hO hb R3 C3 X3 hyn
    go_wp2_with fail
    refine (appendUint_c ra n rc L 0 w4 R4.out (by omega) (by omega)).mono ?_
    rintro e w5 ⟨v, rfl, hO, hb⟩
    obtain ⟨za, zc, rfl⟩ := hO.slice
    have X5 := X4.out.below hb
    have Y5 := Y4.out.below hb
    have Z5 := hO.sl rfl
    have R5 := R4.out.below hb
    have C5 := Lib.hid (C4.out.trans (hb.mono C4.out.size))
    have L5 := (HS.out.below C5.out)
    obtain ⟨zn, hzn⟩ : ∃ x, (L ++ grp 0).length = x := ⟨_, rfl⟩
    rw [hzn] at Z5 ⊢
    rw [grp_small (by omega : 0 < 128)] at Z5
    obtain ⟨sx, hsx⟩ : ∃ x, strOfNums (L ++ grp N) = x := ⟨_, rfl⟩
    obtain ⟨sy, hsy⟩ : ∃ x, strOfNums (L ++ grp (zz i)) = x := ⟨_, rfl⟩
    obtain ⟨sb, hsb⟩ : ∃ x, strOfNums L = x := ⟨_, rfl⟩
    have ssz : sb.size ≤ 100 := by rw [← hsb, strOfNums_size, HLN.out]; omega
    have hbig : ¬ 9223372036854775807 < sb.size + 1 := by omega
    have hsz : strOfNums (L ++ [((0 : Nat) : Int)]) = sb ++ ⟨#[0]⟩ := by rw [← hsb]; exact st_snoc L
    have KW : Hid (∀ W, Below w5.heap.size w5 W → (convert 22 9 (.slice xa xn xc)).run Try.prog W = .ok (.string sx) W ∧ (convert 22 9 (.slice ya yn yc)).run Try.prog W = .ok (.string sy) W ∧ (convert 22 9 (.slice za zn zc)).run Try.prog W = .ok (.string (sb ++ ⟨#[0]⟩)) W ∧ (convert 22 9 (.slice ra n rc)).run Try.prog W = .ok (.string sb) W ∧ (convert 22 9 (.slice ad n cap)).run Try.prog W = .ok (.string sb) W) := Lib.hid (fun W hW => by
      refine ⟨?_, ?_, ?_, ?_, ?_⟩
      · rw [← hsx]; exact conv_sl (X5.below hW)
      · rw [← hsy]; exact conv_sl (Y5.below hW)
      · rw [← hsz]; exact conv_sl (Z5.below hW)
      · rw [← hsb]; exact conv_sl (R5.below hW)
      · rw [← hsb]; exact conv_sl (L5.below hW))
    have H10 : Hid (∀ W, Below w5.heap.size w5 W → Calls Try.prog 10 #[.slice ad n cap, .int .u64 (N : Nat)] W fun e w' => ∃ a m c, e = .returned (.slice a m c) ∧ (convert 22 9 (.slice a m c)).run Try.prog w' = .ok (.string sx) w' ∧ Below w5.heap.size w5 w') := Lib.hid (fun W hW => (rappendUint_c ad n cap L N W (L5.below hW) hN (by omega)).mono (by
      rintro e w' ⟨v, rfl, hO, hb⟩
      obtain ⟨a, c, rfl⟩ := hO.slice
      exact ⟨a, _, c, rfl, by rw [← hsx]; exact conv_sl (hO.sl rfl), hW.trans (hb.mono hW.size)⟩))
    have H11 : Hid (∀ W, Below w5.heap.size w5 W → Calls Try.prog 11 #[.slice ad n cap, .int .i64 i] W fun e w' => ∃ a m c, e = .returned (.slice a m c) ∧ (convert 22 9 (.slice a m c)).run Try.prog w' = .ok (.string sy) w' ∧ Below w5.heap.size w5 w') := Lib.hid (fun W hW => (rappendInt_c ad n cap L i W (L5.below hW) hi1 hi2 (by omega)).mono (by
      rintro e w' ⟨v, rfl, hO, hb⟩
      obtain ⟨a, c, rfl⟩ := hO.slice
      exact ⟨a, _, c, rfl, by rw [← hsy]; exact conv_sl (hO.sl rfl), hW.trans (hb.mono hW.size)⟩))
    clear hO hb R4 C4 X4 Y4 hzn X5 Y5 Z5 R5 L5 hsx hsy hsb hsz HS S1 B1 HLN
    obtain ⟨q1, q2, q3, q4, q5⟩ := KW.out _ (below_drewN (Below.refl w5.heap.size w5) 1)
    have BD : Hid (Below w5.heap.size w5 w5.drew) := Lib.hid (below_drewN (Below.refl _ _) 1)
    go_upto_region 6 with (fail)
    refine wp_region_held_drew (S := (fun w' => (convert 22 9 (.slice xa xn xc)).run Try.prog w' = .ok (.string sx) w' ∧ (convert 22 9 (.slice ya yn yc)).run Try.prog w' = .ok (.string sy) w' ∧ (convert 22 9 (.slice za zn zc)).run Try.prog w' = .ok (.string (sb ++ ⟨#[0]⟩)) w' ∧ (convert 22 9 (.slice ra n rc)).run Try.prog w' = .ok (.string sb) w' ∧ (convert 22 9 (.slice ad n cap)).run Try.prog w' = .ok (.string sb) w')) (by kernel_rfl) ⟨q1, q2, q3, q4, q5⟩ (fun hHeld => ?_)
    refine wpAnyH_take (i := 0) (oi := _) (v := ?vA0) rfl (by kernel_rfl) (by kernel_rfl) (by kernel_rfl) (fun _ _ _ h => h) (Or.inl ⟨by rfl, ?hyA0⟩) (by assumption) ?restA0
    case hyA0 => (intro wq hSw; (try dsimp only at hSw); first | (go_simp; done) | (go_simp; with_reducible rfl))
    try simp only [Act.put, List.getElem_toArray, List.getElem_cons_succ, List.getElem_cons_zero, List.setIfInBounds_toArray, List.set_cons_zero, List.set_cons_succ]
    refine wpAnyH_take (i := 1) (oi := _) (v := ?vA1) rfl (by kernel_rfl) (by kernel_rfl) (by kernel_rfl) (fun _ _ _ h => h) (Or.inl ⟨by rfl, ?hyA1⟩) (by assumption) ?restA1
    case hyA1 => (intro wq hSw; (try dsimp only at hSw); first | (go_simp; done) | (go_simp; with_reducible rfl))
    try simp only [Act.put, List.getElem_toArray, List.getElem_cons_succ, List.getElem_cons_zero, List.setIfInBounds_toArray, List.set_cons_zero, List.set_cons_succ]
    refine wpAnyH_take (i := 2) (oi := _) (v := ?vA2) rfl (by kernel_rfl) (by kernel_rfl) (by kernel_rfl) (fun _ _ _ h => h) (Or.inl ⟨by rfl, ?hyA2⟩) (by assumption) ?restA2
    case hyA2 => (intro wq hSw; (try dsimp only at hSw); first | (go_simp; done) | (go_simp; with_reducible rfl))
    try simp only [Act.put, List.getElem_toArray, List.getElem_cons_succ, List.getElem_cons_zero, List.setIfInBounds_toArray, List.set_cons_zero, List.set_cons_succ]
    refine wpAnyH_take (i := 3) (oi := _) (v := ?vA3) rfl (by kernel_rfl) (by kernel_rfl) (by kernel_rfl) (fun _ _ _ h => h) (Or.inl ⟨by rfl, ?hyA3⟩) (by assumption) ?restA3
    case hyA3 => (intro wq hSw; (try dsimp only at hSw); first | (go_simp; done) | (go_simp; with_reducible rfl))
    try simp only [Act.put, List.getElem_toArray, List.getElem_cons_succ, List.getElem_cons_zero, List.setIfInBounds_toArray, List.set_cons_zero, List.set_cons_succ]
    refine wpAnyH_ready (rs := [4]) (by kernel_rfl) (by simp) ?_
    refine AllReadyH.cons (o := _) rfl (fun KK hKK => ?_) AllReadyH.nil
    go_simp
    refine Calls.mono (H10.out _ BD.out) ?_
    rintro e w7 ⟨a7, m7, c7, rfl, k7, hb7⟩
    obtain ⟨p1, p2, p3, p4, p5⟩ := KW.out _ hb7
    have HB7 := Lib.hid hb7
    clear hb7
    go_wp2_with fail
    refine hKK.out _ _ ⟨p1, p2, p3, p4, p5⟩ (fun hHeld2 => ?_)
    clear hKK KK hHeld
    have hHeld := hHeld2
    clear hHeld2
    try simp only [Act.put, List.getElem_toArray, List.getElem_cons_succ, List.getElem_cons_zero, List.setIfInBounds_toArray, List.set_cons_zero, List.set_cons_succ]
    refine wpAnyH_ready (rs := [5]) (by kernel_rfl) (by simp) ?_
    refine AllReadyH.cons (o := _) rfl (fun KK hKK => ?_) AllReadyH.nil
    go_simp
    refine hKK.out _ _ ⟨p1, p2, p3, p4, p5⟩ (fun hHeld2 => ?_)
    clear hKK KK hHeld
    have hHeld := hHeld2
    clear hHeld2
    try simp only [Act.put, List.getElem_toArray, List.getElem_cons_succ, List.getElem_cons_zero, List.setIfInBounds_toArray, List.set_cons_zero, List.set_cons_succ]
    refine wpAnyH_take (i := 6) (oi := _) (v := ?vA6) rfl (by kernel_rfl) (by kernel_rfl) (by kernel_rfl) (fun _ _ _ h => h) (Or.inl ⟨by rfl, ?hyA6⟩) (by assumption) ?restA6
    case hyA6 => (intro wq hSw; (try dsimp only at hSw); first | (go_simp; done) | (go_simp; with_reducible rfl))
    try simp only [Act.put, List.getElem_toArray, List.getElem_cons_succ, List.getElem_cons_zero, List.setIfInBounds_toArray, List.set_cons_zero, List.set_cons_succ]
    refine wpAnyH_take (i := 7) (oi := _) (v := ?vA7) rfl (by kernel_rfl) (by kernel_rfl) (by kernel_rfl) (fun _ _ _ h => h) (Or.inl ⟨by rfl, ?hyA7⟩) (by assumption) ?restA7
    case hyA7 => (intro wq hSw; (try dsimp only at hSw); first | (go_simp; done) | (go_simp; with_reducible rfl))
    try simp only [Act.put, List.getElem_toArray, List.getElem_cons_succ, List.getElem_cons_zero, List.setIfInBounds_toArray, List.set_cons_zero, List.set_cons_succ]
    refine wpAnyH_take (i := 8) (oi := _) (v := ?vA8) rfl (by kernel_rfl) (by kernel_rfl) (by kernel_rfl) (fun _ _ _ h => h) (Or.inl ⟨by rfl, ?hyA8⟩) (by assumption) ?restA8
    case hyA8 => (intro wq hSw; (try dsimp only at hSw); first | (go_simp; done) | (go_simp; with_reducible rfl))
    try simp only [Act.put, List.getElem_toArray, List.getElem_cons_succ, List.getElem_cons_zero, List.setIfInBounds_toArray, List.set_cons_zero, List.set_cons_succ]
    refine wpAnyH_take (i := 9) (oi := _) (v := ?vA9) rfl (by kernel_rfl) (by kernel_rfl) (by kernel_rfl) (fun _ _ _ h => h) (Or.inl ⟨by rfl, ?hyA9⟩) (by assumption) ?restA9
    case hyA9 => (intro wq hSw; (try dsimp only at hSw); first | (go_simp; done) | (go_simp; with_reducible rfl))
    try simp only [Act.put, List.getElem_toArray, List.getElem_cons_succ, List.getElem_cons_zero, List.setIfInBounds_toArray, List.set_cons_zero, List.set_cons_succ]
    refine wpAnyH_take (i := 10) (oi := _) (v := ?vA10) rfl (by kernel_rfl) (by kernel_rfl) (by kernel_rfl) (fun _ _ _ h => h) (Or.inl ⟨by rfl, ?hyA10⟩) (by assumption) ?restA10
    case hyA10 => (intro wq hSw; (try dsimp only at hSw); first | (go_simp; done) | (go_simp; with_reducible rfl))
    try simp only [Act.put, List.getElem_toArray, List.getElem_cons_succ, List.getElem_cons_zero, List.setIfInBounds_toArray, List.set_cons_zero, List.set_cons_succ]
    refine wpAnyH_take (i := 11) (oi := _) (v := ?vA11) rfl (by kernel_rfl) (by kernel_rfl) (by kernel_rfl) (fun _ _ _ h => h) (Or.inl ⟨by rfl, ?hyA11⟩) (by assumption) ?restA11
    case hyA11 => (intro wq hSw; (try dsimp only at hSw); first | (go_simp; done) | (go_simp; with_reducible rfl))
    try simp only [Act.put, List.getElem_toArray, List.getElem_cons_succ, List.getElem_cons_zero, List.setIfInBounds_toArray, List.set_cons_zero, List.set_cons_succ]
    refine wpAnyH_ready (rs := [12]) (by kernel_rfl) (by simp) ?_
    refine AllReadyH.cons (o := _) rfl (fun KK hKK => ?_) AllReadyH.nil
    go_simp
    refine Calls.mono (H11.out _ HB7.out) ?_
    rintro e w8 ⟨a8, m8, c8, rfl, k8, hb8⟩
    obtain ⟨r1, r2, r3, r4, r5⟩ := KW.out _ hb8
    have HB8 := Lib.hid hb8
    clear hb8
    go_wp2_with fail
    refine hKK.out _ _ ⟨r1, r2, r3, r4, r5⟩ (fun hHeld2 => ?_)
    clear hKK KK hHeld
    have hHeld := hHeld2
    clear hHeld2
    try simp only [Act.put, List.getElem_toArray, List.getElem_cons_succ, List.getElem_cons_zero, List.setIfInBounds_toArray, List.set_cons_zero, List.set_cons_succ]
    refine wpAnyH_ready (rs := [13]) (by kernel_rfl) (by simp) ?_
    refine AllReadyH.cons (o := _) rfl (fun KK hKK => ?_) AllReadyH.nil
    go_simp
    refine hKK.out _ _ ⟨r1, r2, r3, r4, r5⟩ (fun hHeld2 => ?_)
    clear hKK KK hHeld
    have hHeld := hHeld2
    clear hHeld2
    try simp only [Act.put, List.getElem_toArray, List.getElem_cons_succ, List.getElem_cons_zero, List.setIfInBounds_toArray, List.set_cons_zero, List.set_cons_succ]
    refine wpAnyH_take (i := 14) (oi := _) (v := ?vA14) rfl (by kernel_rfl) (by kernel_rfl) (by kernel_rfl) (fun _ _ _ h => h) (Or.inl ⟨by rfl, ?hyA14⟩) (by assumption) ?restA14
    case hyA14 => (intro wq hSw; (try dsimp only at hSw); first | (go_simp; done) | (go_simp; with_reducible rfl))
    try simp only [Act.put, List.getElem_toArray, List.getElem_cons_succ, List.getElem_cons_zero, List.setIfInBounds_toArray, List.set_cons_zero, List.set_cons_succ]
    refine wpAnyH_take (i := 15) (oi := _) (v := ?vA15) rfl (by kernel_rfl) (by kernel_rfl) (by kernel_rfl) (fun _ _ _ h => h) (Or.inl ⟨by rfl, ?hyA15⟩) (by assumption) ?restA15
    case hyA15 => (intro wq hSw; (try dsimp only at hSw); first | (go_simp; done) | (go_simp; with_reducible rfl))
    try simp only [Act.put, List.getElem_toArray, List.getElem_cons_succ, List.getElem_cons_zero, List.setIfInBounds_toArray, List.set_cons_zero, List.set_cons_succ]
    refine wpAnyH_take (i := 16) (oi := _) (v := ?vA16) rfl (by kernel_rfl) (by kernel_rfl) (by kernel_rfl) (fun _ _ _ h => h) (Or.inl ⟨by rfl, ?hyA16⟩) (by assumption) ?restA16
    case hyA16 => (intro wq hSw; (try dsimp only at hSw); first | (go_simp; done) | (go_simp; with_reducible rfl))
    try simp only [Act.put, List.getElem_toArray, List.getElem_cons_succ, List.getElem_cons_zero, List.setIfInBounds_toArray, List.set_cons_zero, List.set_cons_succ]
    refine wpAnyH_take (i := 17) (oi := _) (v := ?vA17) rfl (by kernel_rfl) (by kernel_rfl) (by kernel_rfl) (fun _ _ _ h => h) (Or.inl ⟨by rfl, ?hyA17⟩) (by assumption) ?restA17
    case hyA17 => (intro wq hSw; (try dsimp only at hSw); first | (go_simp; done) | (go_simp; with_reducible rfl))
    try simp only [Act.put, List.getElem_toArray, List.getElem_cons_succ, List.getElem_cons_zero, List.setIfInBounds_toArray, List.set_cons_zero, List.set_cons_succ]
    refine wpAnyH_take (i := 18) (oi := _) (v := ?vA18) rfl (by kernel_rfl) (by kernel_rfl) (by kernel_rfl) (fun _ _ _ h => h) (Or.inl ⟨by rfl, ?hyA18⟩) (by assumption) ?restA18
    case hyA18 => (intro wq hSw; (try dsimp only at hSw); first | (go_simp; done) | (go_simp; with_reducible rfl))
    try simp only [Act.put, List.getElem_toArray, List.getElem_cons_succ, List.getElem_cons_zero, List.setIfInBounds_toArray, List.set_cons_zero, List.set_cons_succ]
    refine wpAnyH_take (i := 19) (oi := _) (v := ?vA19) rfl (by kernel_rfl) (by kernel_rfl) (by kernel_rfl) (fun _ _ _ h => h) (Or.inl ⟨by rfl, ?hyA19⟩) (by assumption) ?restA19
    case hyA19 => (intro wq hSw; (try dsimp only at hSw); first | (go_simp; done) | (go_simp; with_reducible rfl))
    try simp only [Act.put, List.getElem_toArray, List.getElem_cons_succ, List.getElem_cons_zero, List.setIfInBounds_toArray, List.set_cons_zero, List.set_cons_succ]
    refine wpAnyH_take (i := 20) (oi := _) (v := ?vA20) rfl (by kernel_rfl) (by kernel_rfl) (by kernel_rfl) (fun _ _ _ h => h) (Or.inl ⟨by rfl, ?hyA20⟩) (by assumption) ?restA20
    case hyA20 => (intro wq hSw; (try dsimp only at hSw); first | (go_simp; done) | (go_simp; with_reducible rfl))
    try simp only [Act.put, List.getElem_toArray, List.getElem_cons_succ, List.getElem_cons_zero, List.setIfInBounds_toArray, List.set_cons_zero, List.set_cons_succ]
    refine wpAnyH_take (i := 21) (oi := _) (v := ?vA21) rfl (by kernel_rfl) (by kernel_rfl) (by kernel_rfl) (fun _ _ _ h => h) (Or.inl ⟨by rfl, ?hyA21⟩) (by assumption) ?restA21
    case hyA21 => (intro wq hSw; (try dsimp only at hSw); first | (go_simp; done) | (go_simp; with_reducible rfl))
    try simp only [Act.put, List.getElem_toArray, List.getElem_cons_succ, List.getElem_cons_zero, List.setIfInBounds_toArray, List.set_cons_zero, List.set_cons_succ]
    refine wpAnyH_take (i := 22) (oi := _) (v := ?vA22) rfl (by kernel_rfl) (by kernel_rfl) (by kernel_rfl) (fun _ _ _ h => h) (Or.inl ⟨by rfl, ?hyA22⟩) (by assumption) ?restA22
    case hyA22 => (intro wq hSw; (try dsimp only at hSw); first | (go_simp; done) | (go_simp; with_reducible rfl))
    try simp only [Act.put, List.getElem_toArray, List.getElem_cons_succ, List.getElem_cons_zero, List.setIfInBounds_toArray, List.set_cons_zero, List.set_cons_succ]
    refine wpAnyH_take (i := 23) (oi := _) (v := ?vA23) rfl (by kernel_rfl) (by kernel_rfl) (by kernel_rfl) (fun _ _ _ h => h) (Or.inl ⟨by rfl, ?hyA23⟩) (by assumption) ?restA23
    case hyA23 => (intro wq hSw; (try dsimp only at hSw); first | (go_simp; done) | (go_simp; with_reducible rfl))
    try simp only [Act.put, List.getElem_toArray, List.getElem_cons_succ, List.getElem_cons_zero, List.setIfInBounds_toArray, List.set_cons_zero, List.set_cons_succ]
    refine wpAnyH_take (i := 24) (oi := _) (v := ?vA24) rfl (by kernel_rfl) (by kernel_rfl) (by kernel_rfl) (fun _ _ _ h => h) (Or.inl ⟨by rfl, ?hyA24⟩) (by assumption) ?restA24
    case hyA24 => (intro wq hSw; (try dsimp only at hSw); first | (go_simp; done) | (go_simp; with_reducible rfl))
    try simp only [Act.put, List.getElem_toArray, List.getElem_cons_succ, List.getElem_cons_zero, List.setIfInBounds_toArray, List.set_cons_zero, List.set_cons_succ]
    refine wpAnyH_take (i := 25) (oi := _) (v := ?vA25) rfl (by kernel_rfl) (by kernel_rfl) (by kernel_rfl) (fun _ _ _ h => h) (Or.inl ⟨by rfl, ?hyA25⟩) (by assumption) ?restA25
    case hyA25 => (intro wq hSw; (try dsimp only at hSw); first | (go_simp; done) | (go_simp; with_reducible rfl))
    try simp only [Act.put, List.getElem_toArray, List.getElem_cons_succ, List.getElem_cons_zero, List.setIfInBounds_toArray, List.set_cons_zero, List.set_cons_succ]
    refine wpAnyH_take (i := 26) (oi := _) (v := ?vA26) rfl (by kernel_rfl) (by kernel_rfl) (by kernel_rfl) (fun _ _ _ h => h) (Or.inl ⟨by rfl, ?hyA26⟩) (by assumption) ?restA26
    case hyA26 => (intro wq hSw; (try dsimp only at hSw); first | (go_simp; done) | (go_simp; with_reducible rfl))
    try simp only [Act.put, List.getElem_toArray, List.getElem_cons_succ, List.getElem_cons_zero, List.setIfInBounds_toArray, List.set_cons_zero, List.set_cons_succ]
    refine wpAnyH_take (i := 27) (oi := _) (v := ?vA27) rfl (by kernel_rfl) (by kernel_rfl) (by kernel_rfl) (fun _ _ _ h => h) (Or.inl ⟨by rfl, ?hyA27⟩) (by assumption) ?restA27
    case hyA27 => (intro wq hSw; (try dsimp only at hSw); first | (go_simp; done) | (go_simp; with_reducible rfl))
    try simp only [Act.put, List.getElem_toArray, List.getElem_cons_succ, List.getElem_cons_zero, List.setIfInBounds_toArray, List.set_cons_zero, List.set_cons_succ]
    refine wpAnyH_take (i := 28) (oi := _) (v := ?vA28) rfl (by kernel_rfl) (by kernel_rfl) (by kernel_rfl) (fun _ _ _ h => h) (Or.inl ⟨by rfl, ?hyA28⟩) (by assumption) ?restA28
    case hyA28 => (intro wq hSw; (try dsimp only at hSw); first | (go_simp; done) | (go_simp; with_reducible rfl))
    try simp only [Act.put, List.getElem_toArray, List.getElem_cons_succ, List.getElem_cons_zero, List.setIfInBounds_toArray, List.set_cons_zero, List.set_cons_succ]
    refine wpAnyH_take (i := 29) (oi := _) (v := ?vA29) rfl (by kernel_rfl) (by kernel_rfl) (by kernel_rfl) (fun _ _ _ h => h) (Or.inl ⟨by rfl, ?hyA29⟩) (by assumption) ?restA29
    case hyA29 => (intro wq hSw; (try dsimp only at hSw); first | (go_simp; done) | (go_simp; with_reducible rfl))
    try simp only [Act.put, List.getElem_toArray, List.getElem_cons_succ, List.getElem_cons_zero, List.setIfInBounds_toArray, List.set_cons_zero, List.set_cons_succ]
    refine wpAnyH_take (i := 30) (oi := _) (v := ?vA30) rfl (by kernel_rfl) (by kernel_rfl) (by kernel_rfl) (fun _ _ _ h => h) (Or.inl ⟨by rfl, ?hyA30⟩) (by assumption) ?restA30
    case hyA30 => (intro wq hSw; (try dsimp only at hSw); first | (go_simp; done) | (go_simp; with_reducible rfl))
    try simp only [Act.put, List.getElem_toArray, List.getElem_cons_succ, List.getElem_cons_zero, List.setIfInBounds_toArray, List.set_cons_zero, List.set_cons_succ]
    refine wpAnyH_take (i := 31) (oi := _) (v := ?vA31) rfl (by kernel_rfl) (by kernel_rfl) (by kernel_rfl) (fun _ _ _ h => h) (Or.inl ⟨by rfl, ?hyA31⟩) (by assumption) ?restA31
    case hyA31 => (intro wq hSw; (try dsimp only at hSw); first | (go_simp; done) | (go_simp; with_reducible rfl))
    try simp only [Act.put, List.getElem_toArray, List.getElem_cons_succ, List.getElem_cons_zero, List.setIfInBounds_toArray, List.set_cons_zero, List.set_cons_succ]
    refine wpAnyH_done (by kernel_rfl) ?_ _
    try go_simp
    clear hHeld
    go_wp2
    refine bodyPost_ret (results_tmp rfl _ _ _) rfl ?_
    exact ⟨rfl, C5.out.trans (HB8.out.mono C5.out.size)⟩

end Go.Proofs.Ytbdmljdcipcanaa
