/- Resolve of the reference. -/
import Derived.Test.YtljgcjmelmpgoaaDoorQ28
namespace Go.Proofs.YtljgcjmelmpgoaaDoor
open Go.RowKit
set_option linter.unusedVariables false

theorem SlL.one (w : World) (u : Int) (o : Bool) : SlL (w.alloc (.cells #[.int .i64 u, .bool o] 30)) (some ⟨w.heap.size, 0, none⟩) 1 1 [(u, o)] := by
  refine ⟨rfl, Nat.le_refl _, by omega, .inr ⟨w.heap.size, 0, rfl, by simp, fun i hi => ?_⟩⟩
  obtain rfl : i = 0 := by omega
  exact ⟨by rw [cell_of_row _ w.heap.size _ _ 30 (0, 0) (heap_alloc_new w _)]; rfl, by rw [cell_of_row _ w.heap.size _ _ 30 (0, 0) (heap_alloc_new w _)]; rfl⟩
set_option maxHeartbeats 4000000 in
set_option maxRecDepth 100000 in
theorem rresolve_c (a0 : Option Addr) (n0 c0 : Nat) (A : List Lt) (a1 : Option Addr) (n1 c1 : Nat) (B : List Lt) (x : Int) (w : World) (h0 : SlL w a0 n0 c0 A) (h1 : SlL w a1 n1 c1 B) (hn : n0 + n1 ≤ 1000) :
    Calls Tryd.prog 24 #[.slice a0 n0 c0, .slice a1 n1 c1, .int .i64 x] w fun e w' => ResSays w A B x e w' := by
  obtain ⟨w1, hw1⟩ : ∃ y, (w.alloc (.cells #[.int .i64 x, .bool true] 30)).alloc (.cells #[.int .i64 x, .bool false] 30) = y := ⟨_, rfl⟩
  have B1 : Hid (Below w.heap.size w w1) := Lib.hid (by rw [← hw1]; exact ((Below.refl _ _).alloc (Nat.le_refl _) _).alloc (by rw [World.size_alloc]; omega) _)
  have X1 : Hid (w1.heap[w.heap.size]? = some (.cells #[.int .i64 x, .bool true] 30 (0, 0))) := Lib.hid (by rw [← hw1, heap_alloc_old _ _ (by rw [World.size_alloc]; omega)]; exact heap_alloc_new w _)
  have Y1 : Hid (w1.heap[w.heap.size + 1]? = some (.cells #[.int .i64 x, .bool false] 30 (0, 0))) := Lib.hid (by
    have h := heap_alloc_new (w.alloc (.cells #[.int .i64 x, .bool true] 30)) (.cells #[.int .i64 x, .bool false] 30)
    rw [World.size_alloc, hw1] at h
    exact h)
  have HW1 := Lib.hid hw1
  have H0 := Lib.hid h0
  have H1 := Lib.hid h1
  obtain ⟨by', hby⟩ : ∃ y, w.heap.size + 1 = y := ⟨_, rfl⟩
  have HBY := Lib.hid hby
  rw [hby] at Y1
  clear hby
  obtain ⟨bx, hbx⟩ : ∃ y, w.heap.size = y := ⟨_, rfl⟩
  have HBX := Lib.hid hbx
  rw [hbx] at X1
  clear hw1 h0 h1 hbx
  go_enter Tryd.func24, Tryd.ntmps24
  go_upto_region 2 with fail
  rw [HW1.out, HBY.out, HBX.out]
  go_wp2_with fail
  refine (rvalid_c a0 n0 c0 A w1 (H0.out.below B1.out)).mono ?_
  rintro e w2 ⟨rfl, hb2⟩
  have B2 := Lib.hid (B1.out.trans (hb2.mono B1.out.size))
  have X2 : Hid (w2.heap[bx]? = some (.cells #[.int .i64 x, .bool true] 30 (0, 0))) := Lib.hid (by rw [hb2.block _ (lt_of_block X1.out)]; exact X1.out)
  have Y2 : Hid (w2.heap[by']? = some (.cells #[.int .i64 x, .bool false] 30 (0, 0))) := Lib.hid (by rw [hb2.block _ (lt_of_block Y1.out)]; exact Y1.out)
  clear hb2


  cases hA : vld A with
  | false =>
    have HAF := Lib.hid hA
    clear hA
    have HN : Hid ((vld A && vld B && clash A B x) = false) := Lib.hid (by rw [HAF.out]; rfl)
    go_wp2
    refine bodyPost_ret (results_tmp2 rfl _ _ _) rfl ?_
    exact res_no HN.out B2.out


  | true =>
    have HA := Lib.hid hA
    clear hA
    go_wp2_with fail
    refine (rvalid_c a1 n1 c1 B w2 (H1.out.below B2.out)).mono ?_
    rintro e w3 ⟨rfl, hb3⟩
    have B3 := Lib.hid (B2.out.trans (hb3.mono B2.out.size))
    have X3 : Hid (w3.heap[bx]? = some (.cells #[.int .i64 x, .bool true] 30 (0, 0))) := Lib.hid (by rw [hb3.block _ (lt_of_block X2.out)]; exact X2.out)
    have Y3 : Hid (w3.heap[by']? = some (.cells #[.int .i64 x, .bool false] 30 (0, 0))) := Lib.hid (by rw [hb3.block _ (lt_of_block Y2.out)]; exact Y2.out)
    clear hb3


    cases hB : vld B with
    | false =>
      have HBF := Lib.hid hB
      clear hB
      have HN : Hid ((vld A && vld B && clash A B x) = false) := Lib.hid (by rw [HBF.out]; simp)
      go_wp2
      refine bodyPost_ret (results_tmp2 rfl _ _ _) rfl ?_
      exact res_no HN.out B3.out


    | true =>
      have HB := Lib.hid hB
      clear hB
      have x0 : w3.cell? ⟨bx, 0, none⟩ = some (.int .i64 x) := by rw [cell_of_row w3 bx 0 _ 30 (0, 0) X3.out]; rfl
      have x1 : w3.cell? ⟨bx, 1, none⟩ = some (.bool true) := by rw [cell_of_row w3 bx 1 _ 30 (0, 0) X3.out]; rfl
      have y0 : w3.cell? ⟨by', 0, none⟩ = some (.int .i64 x) := by rw [cell_of_row w3 by' 0 _ 30 (0, 0) Y3.out]; rfl
      have y1 : w3.cell? ⟨by', 1, none⟩ = some (.bool false) := by rw [cell_of_row w3 by' 1 _ 30 (0, 0) Y3.out]; rfl
      go_wp2_with fail
      refine (has_c a0 n0 c0 A x true w3 (H0.out.below B3.out)).mono ?_
      rintro e w4 ⟨rfl, hb4⟩
      have B4 := Lib.hid (B3.out.trans (hb4.mono B3.out.size))
      have X4 : Hid (w4.heap[bx]? = some (.cells #[.int .i64 x, .bool true] 30 (0, 0))) := Lib.hid (by rw [hb4.block _ (lt_of_block X3.out)]; exact X3.out)
      have Y4 : Hid (w4.heap[by']? = some (.cells #[.int .i64 x, .bool false] 30 (0, 0))) := Lib.hid (by rw [hb4.block _ (lt_of_block Y3.out)]; exact Y3.out)
      clear hb4
      clear x0 x1 y0 y1
      by_cases m1 : (x, true) ∈ A
      · rw [decide_eq_true m1]
        have M1 := Lib.hid m1
        have NA : Hid ((x, false) ∉ A) := Lib.hid (fun h => by have := asc_inj (vld_iff.1 HA.out).1 _ h _ m1 rfl; injection this with _ h; cases h)
        clear m1
        have x0 : w4.cell? ⟨bx, 0, none⟩ = some (.int .i64 x) := by rw [cell_of_row w4 bx 0 _ 30 (0, 0) X4.out]; rfl
        have x1 : w4.cell? ⟨bx, 1, none⟩ = some (.bool true) := by rw [cell_of_row w4 bx 1 _ 30 (0, 0) X4.out]; rfl
        have y0 : w4.cell? ⟨by', 0, none⟩ = some (.int .i64 x) := by rw [cell_of_row w4 by' 0 _ 30 (0, 0) Y4.out]; rfl
        have y1 : w4.cell? ⟨by', 1, none⟩ = some (.bool false) := by rw [cell_of_row w4 by' 1 _ 30 (0, 0) Y4.out]; rfl
        go_wp2_with fail
        refine (has_c a1 n1 c1 B x false w4 (H1.out.below B4.out)).mono ?_
        rintro e w5 ⟨rfl, hb5⟩
        have B5 := Lib.hid (B4.out.trans (hb5.mono B4.out.size))
        have X5 : Hid (w5.heap[bx]? = some (.cells #[.int .i64 x, .bool true] 30 (0, 0))) := Lib.hid (by rw [hb5.block _ (lt_of_block X4.out)]; exact X4.out)
        have Y5 : Hid (w5.heap[by']? = some (.cells #[.int .i64 x, .bool false] 30 (0, 0))) := Lib.hid (by rw [hb5.block _ (lt_of_block Y4.out)]; exact Y4.out)
        clear hb5
        clear x0 x1 y0 y1
        by_cases m2 : (x, false) ∈ B
        · rw [decide_eq_true m2]
          have HCL : Hid (clash A B x = true) := Lib.hid (decide_eq_true (.inl ⟨M1.out, m2⟩))
          clear m2
          have HN : Hid ((vld A && vld B && clash A B x) = true) := Lib.hid (by rw [HA.out, HB.out, HCL.out]; rfl)
          have RC : Hid (rcode A B x = if vld (made (but x (A ++ B))) = true then 0 else 10) := Lib.hid (by unfold rcode; rw [if_pos HN.out])
          have RL : Hid (rlist A B x = if vld (made (but x (A ++ B))) = true then made (but x (A ++ B)) else []) := Lib.hid (by unfold rlist; rw [if_pos HN.out])
          have OE : Hid (OwnL (w5.alloc (.cells #[] 30)) w.heap.size (.slice (some ⟨w5.heap.size, 0, none⟩) 0 0) []) := Lib.hid (World.ownsRow_made w5 #[] 0 B5.out.size (by unfold maxLen; omega) rfl)
          have BE := Lib.hid (B5.out.alloc B5.out.size (.cells #[] 30))
          go_wp2_with (first | (at_builtin; refine wpList_append_lts rfl (.tmp 48) (.tmp 49) 22 24 rfl Tryd.underlying22 Tryd.underlying24 w.heap.size _ [] rfl OE.out _ _ _ A rfl (H0.out.below BE.out) (by simp; omega) BE.out.size ?_; intro v2 w12 hO2 hB2; rw [List.nil_append] at hO2; have O2 := Lib.hid hO2; have B12 := Lib.hid (BE.out.trans hB2); clear hO2 hB2) | (at_builtin; refine wpList_append_lts rfl (.tmp 50) (.tmp 51) 22 24 rfl Tryd.underlying22 Tryd.underlying24 w.heap.size _ A rfl O2.out _ _ _ B rfl (H1.out.below B12.out) (by rw [H0.out.1]; omega) B12.out.size ?_; intro v3 w13 hO3 hB3; have O3 := Lib.hid hO3; have B13 := Lib.hid (B12.out.trans hB3); clear hO3 hB3; obtain ⟨aa, ca, hv3⟩ := O3.out.slice; subst hv3; have HNN := Lib.hid (show (A ++ B).length = n0 + n1 by rw [List.length_append, H0.out.1, H1.out.1]); rw [HNN.out]))
          have O3' : Hid (OwnL w13 w.heap.size (.slice aa (n0 + n1) ca) (A ++ B)) := Lib.hid (by rw [← HNN.out]; exact O3.out)
          obtain ⟨N, hN⟩ : ∃ N, n0 + n1 = N := ⟨_, rfl⟩
          have HNQ := Lib.hid hN
          rw [hN] at O3' HNN
          rw [hN]
          have hN1 : N ≤ 1000 := by omega
          have SA := Lib.hid (O3'.out.sl HNN.out)
          clear hN O3
          go_loopw [10, 12] (fun s10 s wr => ∃ (i m : Nat) (ao : Option Addr) (co : Nat) (out : List Lt), i ≤ N ∧ s = .int .i64 (i : Nat) ∧ s10 = .slice ao m co ∧ m ≤ i ∧ Hid (out.length = m) ∧ Hid (OwnL wr w13.heap.size (.slice ao m co) out) ∧ Hid (Below w13.heap.size w13 wr) ∧ Hid (out = but x ((A ++ B).take i))) (fun _ s _ => N - (intOf s).toNat)
          case atStart => exact ⟨0, 0, none, 0, [], by omega, rfl, rfl, by omega, Lib.hid rfl, Lib.hid ⟨rfl, .inl ⟨rfl, rfl⟩⟩, Lib.hid (Below.refl _ _), Lib.hid rfl⟩
          case round =>
            obtain ⟨i, m, ao, co, out, hi, rfl, rfl, hmi, HM, HOW, HB2, HOU⟩ := hrel
            by_cases hlt : i < N
            · obtain ⟨b, off, rfl, hb, hc⟩ := (SA.out.below HB2.out).at (by omega)
              obtain ⟨k0, k1⟩ := hc i hlt
              clear hc
              obtain ⟨u, hu⟩ : ∃ u, ((A ++ B).getD i d0).1 = u := ⟨_, rfl⟩
              obtain ⟨o, ho⟩ : ∃ o, ((A ++ B).getD i d0).2 = o := ⟨_, rfl⟩
              rw [hu] at k0
              rw [ho] at k1
              have CS : Hid (but x ((A ++ B).take (i + 1)) = if (u == x) = true then but x ((A ++ B).take i) else but x ((A ++ B).take i) ++ [(u, o)]) := Lib.hid (but_snoc (y := (u, o)) (by rw [HNN.out]; exact hlt) (by rw [← hu, ← ho]))
              clear hu ho
              have hi1 : (0 : Int) ≤ (i : Int) := by omega
              have hi2 : (i : Int) < (N : Int) := by omega
              by_cases he : u = x
              · have hq : (u != x) = false := by rw [he]; simp
                have HC2 : Hid (but x ((A ++ B).take (i + 1)) = but x ((A ++ B).take i)) := Lib.hid (by rw [CS.out, if_pos (by rw [he]; simp)])
                clear he CS
                go_wp2
                go_roundw
                case rel => exact ⟨i + 1, m, ao, co, out, by omega, by go_num, rfl, by omega, HM, HOW, HB2, Lib.hid (by rw [HC2.out]; exact HOU.out)⟩
                case measure => simp [intOf]; omega
              · have hq : (u != x) = true := by simpa using he
                have HC2 : Hid (but x ((A ++ B).take (i + 1)) = but x ((A ++ B).take i) ++ [(u, o)]) := Lib.hid (by rw [CS.out, if_neg (by simpa using he)])
                clear he CS
                go_wp2_with (at_builtin; refine wpList_append_lts rfl (.tmp 66) (.tmp 71) 22 22 rfl Tryd.underlying22 Tryd.underlying22 w13.heap.size _ out rfl (HOW.out.below ((Below.refl _ _).alloc (Nat.le_refl _) _)) _ _ _ [(u, o)] rfl (SlL.one wr u o) (by rw [HM.out]; omega) (by rw [World.size_alloc]; exact Nat.le_succ_of_le HB2.out.size) ?_; intro v4 w14 hO4 hB4; have O4 := Lib.hid hO4; have B4 := Lib.hid ((HB2.out.alloc HB2.out.size (.cells #[.int .i64 u, .bool o] 30)).trans hB4); clear hO4 hB4; obtain ⟨a4, c4, hv4⟩ := O4.out.slice; rw [List.length_append, HM.out] at hv4; change v4 = .slice a4 (m + 1) c4 at hv4; subst hv4)
                exact ⟨⟨i + 1, m + 1, a4, c4, _, by omega, by go_num, rfl, by omega, Lib.hid (by rw [List.length_append, HM.out]; rfl), O4, B4, Lib.hid (by rw [HC2.out, HOU.out])⟩, by simp only [intOf]; omega⟩
            · obtain rfl : i = N := by omega
              have hne : ¬ ((i : Int) < (i : Int)) := by omega
              have HO2 : Hid (out = but x (A ++ B)) := Lib.hid (by rw [HOU.out, List.take_of_length_le (by rw [HNN.out]; exact Nat.le_refl _)])
              have SO : Hid (SlL wr ao m co (but x (A ++ B))) := Lib.hid (by rw [← HO2.out]; exact HOW.out.sl HM.out)
              have BF := Lib.hid (B13.out.trans (HB2.out.mono B13.out.size))
              go_wp2_with fail
              refine (rmake_c ao m co (but x (A ++ B)) wr SO.out (by omega)).mono ?_
              rintro e w11 ⟨v5, rfl, hO11, hb11⟩
              have O11 := Lib.hid (hO11.le BF.out.size)
              have B11 := Lib.hid (BF.out.trans (hb11.mono BF.out.size))
              clear hO11 hb11
              obtain ⟨t, ht⟩ : ∃ t, vld (made (but x (A ++ B))) = t := ⟨_, rfl⟩
              have HT := Lib.hid ht
              rw [ht]
              clear ht
              cases t with
              | true =>
                go_wp2
                refine bodyPost_ret (results_tmp2 rfl _ _ _) rfl ?_
                refine ⟨_, by rw [RC.out, if_pos HT.out]; rfl, ?_, B11.out⟩
                have := O11.out
                rw [if_pos HT.out] at this
                rw [RL.out, if_pos HT.out]
                exact this
              | false =>
                go_wp2
                refine bodyPost_ret (results_tmp2 rfl _ _ _) rfl ?_
                exact ⟨_, by rw [RC.out, if_neg (by rw [HT.out]; decide)]; rfl, by rw [RL.out, if_neg (by rw [HT.out]; decide)]; exact ⟨rfl, .inl ⟨rfl, rfl⟩⟩, B11.out⟩
        · rw [decide_eq_false m2]
          have M2 := Lib.hid m2
          clear m2
          have x0 : w5.cell? ⟨bx, 0, none⟩ = some (.int .i64 x) := by rw [cell_of_row w5 bx 0 _ 30 (0, 0) X5.out]; rfl
          have x1 : w5.cell? ⟨bx, 1, none⟩ = some (.bool true) := by rw [cell_of_row w5 bx 1 _ 30 (0, 0) X5.out]; rfl
          have y0 : w5.cell? ⟨by', 0, none⟩ = some (.int .i64 x) := by rw [cell_of_row w5 by' 0 _ 30 (0, 0) Y5.out]; rfl
          have y1 : w5.cell? ⟨by', 1, none⟩ = some (.bool false) := by rw [cell_of_row w5 by' 1 _ 30 (0, 0) Y5.out]; rfl
          go_wp2_with fail
          refine (has_c a0 n0 c0 A x false w5 (H0.out.below B5.out)).mono ?_
          rintro e w6 ⟨rfl, hb6⟩
          have B6 := Lib.hid (B5.out.trans (hb6.mono B5.out.size))
          have X6 : Hid (w6.heap[bx]? = some (.cells #[.int .i64 x, .bool true] 30 (0, 0))) := Lib.hid (by rw [hb6.block _ (lt_of_block X5.out)]; exact X5.out)
          have Y6 : Hid (w6.heap[by']? = some (.cells #[.int .i64 x, .bool false] 30 (0, 0))) := Lib.hid (by rw [hb6.block _ (lt_of_block Y5.out)]; exact Y5.out)
          clear hb6
          clear x0 x1 y0 y1
          rw [decide_eq_false NA.out]
          have HN : Hid ((vld A && vld B && clash A B x) = false) := Lib.hid (by rw [show clash A B x = false from decide_eq_false (by rintro (⟨h1, h2⟩ | ⟨h1, h2⟩); exact M2.out h2; exact NA.out h1)]; simp)
          go_wp2
          refine bodyPost_ret (results_tmp2 rfl _ _ _) rfl ?_
          exact res_no HN.out B6.out


      · rw [decide_eq_false m1]
        have M1 := Lib.hid m1
        clear m1
        have x0 : w4.cell? ⟨bx, 0, none⟩ = some (.int .i64 x) := by rw [cell_of_row w4 bx 0 _ 30 (0, 0) X4.out]; rfl
        have x1 : w4.cell? ⟨bx, 1, none⟩ = some (.bool true) := by rw [cell_of_row w4 bx 1 _ 30 (0, 0) X4.out]; rfl
        have y0 : w4.cell? ⟨by', 0, none⟩ = some (.int .i64 x) := by rw [cell_of_row w4 by' 0 _ 30 (0, 0) Y4.out]; rfl
        have y1 : w4.cell? ⟨by', 1, none⟩ = some (.bool false) := by rw [cell_of_row w4 by' 1 _ 30 (0, 0) Y4.out]; rfl
        go_wp2_with fail
        refine (has_c a0 n0 c0 A x false w4 (H0.out.below B4.out)).mono ?_
        rintro e w5 ⟨rfl, hb5⟩
        have B5 := Lib.hid (B4.out.trans (hb5.mono B4.out.size))
        have X5 : Hid (w5.heap[bx]? = some (.cells #[.int .i64 x, .bool true] 30 (0, 0))) := Lib.hid (by rw [hb5.block _ (lt_of_block X4.out)]; exact X4.out)
        have Y5 : Hid (w5.heap[by']? = some (.cells #[.int .i64 x, .bool false] 30 (0, 0))) := Lib.hid (by rw [hb5.block _ (lt_of_block Y4.out)]; exact Y4.out)
        clear hb5
        clear x0 x1 y0 y1
        by_cases m3 : (x, false) ∈ A
        · rw [decide_eq_true m3]
          have M3 := Lib.hid m3
          clear m3
          have x0 : w5.cell? ⟨bx, 0, none⟩ = some (.int .i64 x) := by rw [cell_of_row w5 bx 0 _ 30 (0, 0) X5.out]; rfl
          have x1 : w5.cell? ⟨bx, 1, none⟩ = some (.bool true) := by rw [cell_of_row w5 bx 1 _ 30 (0, 0) X5.out]; rfl
          have y0 : w5.cell? ⟨by', 0, none⟩ = some (.int .i64 x) := by rw [cell_of_row w5 by' 0 _ 30 (0, 0) Y5.out]; rfl
          have y1 : w5.cell? ⟨by', 1, none⟩ = some (.bool false) := by rw [cell_of_row w5 by' 1 _ 30 (0, 0) Y5.out]; rfl
          go_wp2_with fail
          refine (has_c a1 n1 c1 B x true w5 (H1.out.below B5.out)).mono ?_
          rintro e w6 ⟨rfl, hb6⟩
          have B6 := Lib.hid (B5.out.trans (hb6.mono B5.out.size))
          have X6 : Hid (w6.heap[bx]? = some (.cells #[.int .i64 x, .bool true] 30 (0, 0))) := Lib.hid (by rw [hb6.block _ (lt_of_block X5.out)]; exact X5.out)
          have Y6 : Hid (w6.heap[by']? = some (.cells #[.int .i64 x, .bool false] 30 (0, 0))) := Lib.hid (by rw [hb6.block _ (lt_of_block Y5.out)]; exact Y5.out)
          clear hb6
          clear x0 x1 y0 y1
          by_cases m4 : (x, true) ∈ B
          · rw [decide_eq_true m4]
            have HCL : Hid (clash A B x = true) := Lib.hid (decide_eq_true (.inr ⟨M3.out, m4⟩))
            clear m4
            have HN : Hid ((vld A && vld B && clash A B x) = true) := Lib.hid (by rw [HA.out, HB.out, HCL.out]; rfl)
            have RC : Hid (rcode A B x = if vld (made (but x (A ++ B))) = true then 0 else 10) := Lib.hid (by unfold rcode; rw [if_pos HN.out])
            have RL : Hid (rlist A B x = if vld (made (but x (A ++ B))) = true then made (but x (A ++ B)) else []) := Lib.hid (by unfold rlist; rw [if_pos HN.out])
            have OE : Hid (OwnL (w6.alloc (.cells #[] 30)) w.heap.size (.slice (some ⟨w6.heap.size, 0, none⟩) 0 0) []) := Lib.hid (World.ownsRow_made w6 #[] 0 B6.out.size (by unfold maxLen; omega) rfl)
            have BE := Lib.hid (B6.out.alloc B6.out.size (.cells #[] 30))
            go_wp2_with (first | (at_builtin; refine wpList_append_lts rfl (.tmp 48) (.tmp 49) 22 24 rfl Tryd.underlying22 Tryd.underlying24 w.heap.size _ [] rfl OE.out _ _ _ A rfl (H0.out.below BE.out) (by simp; omega) BE.out.size ?_; intro v2 w12 hO2 hB2; rw [List.nil_append] at hO2; have O2 := Lib.hid hO2; have B12 := Lib.hid (BE.out.trans hB2); clear hO2 hB2) | (at_builtin; refine wpList_append_lts rfl (.tmp 50) (.tmp 51) 22 24 rfl Tryd.underlying22 Tryd.underlying24 w.heap.size _ A rfl O2.out _ _ _ B rfl (H1.out.below B12.out) (by rw [H0.out.1]; omega) B12.out.size ?_; intro v3 w13 hO3 hB3; have O3 := Lib.hid hO3; have B13 := Lib.hid (B12.out.trans hB3); clear hO3 hB3; obtain ⟨aa, ca, hv3⟩ := O3.out.slice; subst hv3; have HNN := Lib.hid (show (A ++ B).length = n0 + n1 by rw [List.length_append, H0.out.1, H1.out.1]); rw [HNN.out]))
            have O3' : Hid (OwnL w13 w.heap.size (.slice aa (n0 + n1) ca) (A ++ B)) := Lib.hid (by rw [← HNN.out]; exact O3.out)
            obtain ⟨N, hN⟩ : ∃ N, n0 + n1 = N := ⟨_, rfl⟩
            have HNQ := Lib.hid hN
            rw [hN] at O3' HNN
            rw [hN]
            have hN1 : N ≤ 1000 := by omega
            have SA := Lib.hid (O3'.out.sl HNN.out)
            clear hN O3
            go_loopw [10, 12] (fun s10 s wr => ∃ (i m : Nat) (ao : Option Addr) (co : Nat) (out : List Lt), i ≤ N ∧ s = .int .i64 (i : Nat) ∧ s10 = .slice ao m co ∧ m ≤ i ∧ Hid (out.length = m) ∧ Hid (OwnL wr w13.heap.size (.slice ao m co) out) ∧ Hid (Below w13.heap.size w13 wr) ∧ Hid (out = but x ((A ++ B).take i))) (fun _ s _ => N - (intOf s).toNat)
            case atStart => exact ⟨0, 0, none, 0, [], by omega, rfl, rfl, by omega, Lib.hid rfl, Lib.hid ⟨rfl, .inl ⟨rfl, rfl⟩⟩, Lib.hid (Below.refl _ _), Lib.hid rfl⟩
            case round =>
              obtain ⟨i, m, ao, co, out, hi, rfl, rfl, hmi, HM, HOW, HB2, HOU⟩ := hrel
              by_cases hlt : i < N
              · obtain ⟨b, off, rfl, hb, hc⟩ := (SA.out.below HB2.out).at (by omega)
                obtain ⟨k0, k1⟩ := hc i hlt
                clear hc
                obtain ⟨u, hu⟩ : ∃ u, ((A ++ B).getD i d0).1 = u := ⟨_, rfl⟩
                obtain ⟨o, ho⟩ : ∃ o, ((A ++ B).getD i d0).2 = o := ⟨_, rfl⟩
                rw [hu] at k0
                rw [ho] at k1
                have CS : Hid (but x ((A ++ B).take (i + 1)) = if (u == x) = true then but x ((A ++ B).take i) else but x ((A ++ B).take i) ++ [(u, o)]) := Lib.hid (but_snoc (y := (u, o)) (by rw [HNN.out]; exact hlt) (by rw [← hu, ← ho]))
                clear hu ho
                have hi1 : (0 : Int) ≤ (i : Int) := by omega
                have hi2 : (i : Int) < (N : Int) := by omega
                by_cases he : u = x
                · have hq : (u != x) = false := by rw [he]; simp
                  have HC2 : Hid (but x ((A ++ B).take (i + 1)) = but x ((A ++ B).take i)) := Lib.hid (by rw [CS.out, if_pos (by rw [he]; simp)])
                  clear he CS
                  go_wp2
                  go_roundw
                  case rel => exact ⟨i + 1, m, ao, co, out, by omega, by go_num, rfl, by omega, HM, HOW, HB2, Lib.hid (by rw [HC2.out]; exact HOU.out)⟩
                  case measure => simp [intOf]; omega
                · have hq : (u != x) = true := by simpa using he
                  have HC2 : Hid (but x ((A ++ B).take (i + 1)) = but x ((A ++ B).take i) ++ [(u, o)]) := Lib.hid (by rw [CS.out, if_neg (by simpa using he)])
                  clear he CS
                  go_wp2_with (at_builtin; refine wpList_append_lts rfl (.tmp 66) (.tmp 71) 22 22 rfl Tryd.underlying22 Tryd.underlying22 w13.heap.size _ out rfl (HOW.out.below ((Below.refl _ _).alloc (Nat.le_refl _) _)) _ _ _ [(u, o)] rfl (SlL.one wr u o) (by rw [HM.out]; omega) (by rw [World.size_alloc]; exact Nat.le_succ_of_le HB2.out.size) ?_; intro v4 w14 hO4 hB4; have O4 := Lib.hid hO4; have B4 := Lib.hid ((HB2.out.alloc HB2.out.size (.cells #[.int .i64 u, .bool o] 30)).trans hB4); clear hO4 hB4; obtain ⟨a4, c4, hv4⟩ := O4.out.slice; rw [List.length_append, HM.out] at hv4; change v4 = .slice a4 (m + 1) c4 at hv4; subst hv4)
                  exact ⟨⟨i + 1, m + 1, a4, c4, _, by omega, by go_num, rfl, by omega, Lib.hid (by rw [List.length_append, HM.out]; rfl), O4, B4, Lib.hid (by rw [HC2.out, HOU.out])⟩, by simp only [intOf]; omega⟩
              · obtain rfl : i = N := by omega
                have hne : ¬ ((i : Int) < (i : Int)) := by omega
                have HO2 : Hid (out = but x (A ++ B)) := Lib.hid (by rw [HOU.out, List.take_of_length_le (by rw [HNN.out]; exact Nat.le_refl _)])
                have SO : Hid (SlL wr ao m co (but x (A ++ B))) := Lib.hid (by rw [← HO2.out]; exact HOW.out.sl HM.out)
                have BF := Lib.hid (B13.out.trans (HB2.out.mono B13.out.size))
                go_wp2_with fail
                refine (rmake_c ao m co (but x (A ++ B)) wr SO.out (by omega)).mono ?_
                rintro e w11 ⟨v5, rfl, hO11, hb11⟩
                have O11 := Lib.hid (hO11.le BF.out.size)
                have B11 := Lib.hid (BF.out.trans (hb11.mono BF.out.size))
                clear hO11 hb11
                obtain ⟨t, ht⟩ : ∃ t, vld (made (but x (A ++ B))) = t := ⟨_, rfl⟩
                have HT := Lib.hid ht
                rw [ht]
                clear ht
                cases t with
                | true =>
                  go_wp2
                  refine bodyPost_ret (results_tmp2 rfl _ _ _) rfl ?_
                  refine ⟨_, by rw [RC.out, if_pos HT.out]; rfl, ?_, B11.out⟩
                  have := O11.out
                  rw [if_pos HT.out] at this
                  rw [RL.out, if_pos HT.out]
                  exact this
                | false =>
                  go_wp2
                  refine bodyPost_ret (results_tmp2 rfl _ _ _) rfl ?_
                  exact ⟨_, by rw [RC.out, if_neg (by rw [HT.out]; decide)]; rfl, by rw [RL.out, if_neg (by rw [HT.out]; decide)]; exact ⟨rfl, .inl ⟨rfl, rfl⟩⟩, B11.out⟩
          · rw [decide_eq_false m4]
            have M4 := Lib.hid m4
            clear m4
            have HN : Hid ((vld A && vld B && clash A B x) = false) := Lib.hid (by rw [show clash A B x = false from decide_eq_false (by rintro (⟨h1, h2⟩ | ⟨h1, h2⟩); exact M1.out h1; exact M4.out h2)]; simp)
            go_wp2
            refine bodyPost_ret (results_tmp2 rfl _ _ _) rfl ?_
            exact res_no HN.out B6.out


        · rw [decide_eq_false m3]
          have M3 := Lib.hid m3
          clear m3
          have HN : Hid ((vld A && vld B && clash A B x) = false) := Lib.hid (by rw [show clash A B x = false from decide_eq_false (by rintro (⟨h1, h2⟩ | ⟨h1, h2⟩); exact M1.out h1; exact M3.out h1)]; simp)
          go_wp2
          refine bodyPost_ret (results_tmp2 rfl _ _ _) rfl ?_
          exact res_no HN.out B5.out




end Go.Proofs.YtljgcjmelmpgoaaDoor
