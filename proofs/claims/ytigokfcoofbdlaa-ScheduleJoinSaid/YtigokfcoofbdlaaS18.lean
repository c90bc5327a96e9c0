/- The law ScheduleRun. -/
import Derived.Test.YtigokfcoofbdlaaS17
namespace Go.Proofs.Ytigokfcoofbdlaa
open Go.RowKit
set_option linter.unusedVariables false

set_option maxHeartbeats 4000000 in
set_option maxRecDepth 100000 in
theorem law_run (a0 : Option Addr) (n0 c0 : Nat) (l0 : List Int) (a1 : Option Addr) (n1 c1 : Nat) (S : List Nat) (most : Int) (w : World) (h0 : SlI w a0 n0 c0 l0) (z0 : a0 = none → n0 = 0 ∧ c0 = 0) (h1 : SlS w a1 n1 c1 S) (hS : ∀ i, S.getD i 0 < 256) :
    Calls Try.prog 4 #[.slice a0 n0 c0, .slice a1 n1 c1, .int .i64 most] w fun e w' => e = .returned (.bool true) ∧ Below w.heap.size w w' := by
  have H0 := Lib.hid h0; clear h0
  have H1 := Lib.hid h1; clear h1
  have HZ := Lib.hid z0; clear z0
  have HSB := Lib.hid hS; clear hS
  go_enter Try.func4, Try.ntmps4
  go_wp2_with fail
  refine (awake_c w).mono ?_
  rintro e w1 ⟨rfl, hb1⟩
  have B1 := Lib.hid hb1; clear hb1
  go_wp2_with fail
  refine (large_c a0 n0 c0 l0 a1 n1 c1 w1 (H0.out.below B1.out)).mono ?_
  rintro e w' ⟨⟨b, rfl, hb⟩, rfl⟩
  cases b with
  | true =>
    clear hb
    go_wp2
    refine bodyPost_ret (results_tmp rfl _ _ _) rfl ?_
    exact ⟨rfl, B1.out⟩
  | false =>
    obtain ⟨hn0, hn1, hle⟩ := hb rfl
    have HLE := Lib.hid hle
    clear hb hle
    go_wp2
    go_loopw [22] (fun s wr => ∃ i : Nat, i ≤ n0 ∧ s = .int .i64 (i : Nat) ∧ w1 = wr ∧ Hid (∀ k, k < i → 1 ≤ l0.getD k 0)) (fun s _ => n0 - (intOf s).toNat)
    case atStart => exact ⟨0, by omega, rfl, rfl, Lib.hid (fun k hk => absurd hk (Nat.not_lt_zero k))⟩
    case round =>
      obtain ⟨i, hi, rfl, rfl, hno⟩ := hrel
      by_cases hlt : i < n0
      · obtain ⟨p0, o0, rfl, hc0⟩ := (H0.out.below B1.out).at (by omega)
        have k0 := hc0 i hlt
        clear hc0
        obtain ⟨x, hx⟩ : ∃ y, l0.getD i 0 = y := ⟨_, rfl⟩
        rw [hx] at k0
        have HX := Lib.hid hx
        clear hx
        by_cases hx1 : x < 1
        · go_wp2
          refine bodyPost_ret (results_tmp rfl _ _ _) rfl ?_
          exact ⟨rfl, B1.out⟩
        · go_wp2
          go_roundw
          case rel => exact ⟨i + 1, by omega, by go_num, trivial, Lib.hid (fun k hk => by
            rcases Nat.lt_or_ge k i with h | h
            · exact hno.out k h
            · have : k = i := by omega
              rw [this, HX.out]; omega)⟩
          case measure => simp [intOf]; omega
      · have hin : i = n0 := by omega
        obtain ⟨L, rfl, hL, hp, hsum⟩ := nats_of H0.out.1 hn0 HLE.out (fun k hk => hno.out k (by omega))
        have HL := Lib.hid hL; have HP := Lib.hid hp; have HSm := Lib.hid hsum
        clear hno hL hp hsum
        go_wp2_with fail
        refine (crew_c a0 n0 c0 (ints L) w1 (H0.out.below B1.out) hn0).mono ?_
        rintro e w2 ⟨C, la, lc, rfl, hC, hP, hO⟩
        have CP := Lib.hid hP; have CO := Lib.hid hO; have HC := Lib.hid hC
        clear hP hO hC
        by_cases hm : 0 ≤ most
        · go_wp2_with fail
          refine (crun_c w1 (w1.heap.size + 1) C la n0 lc L a1 n1 c1 S most w2 rfl CP.out CO.out HC.out HL.out HP.out hn0 HSm.out (H1.out.below B1.out) HSB.out hm).mono ?_
          rintro e w3 ⟨bw, u, L', rfl, hi⟩
          obtain ⟨R, hR⟩ : ∃ R, ord S most L.sum L (-1) [] = R := ⟨_, rfl⟩
          rw [hR] at hi ⊢
          have HR := Lib.hid hR; clear hR
          obtain ⟨hbel, _, ⟨vo, hvo, hown, _⟩, _⟩ := hi
          have B3 := Lib.hid (B1.out.trans (hbel.mono B1.out.size))
          have HVO := Lib.hid hvo
          obtain ⟨oa, oc, rfl⟩ := hown.slice
          have T3 := Lib.hid (hown.sl rfl)
          clear hbel hvo hown CP CO
          go_wp2_with fail
          refine (refOrder_c a0 n0 c0 L a1 n1 c1 S most w3 (H0.out.below B3.out) HZ.out HL.out HP.out hn0 HSm.out (H1.out.below B3.out) HSB.out hm).mono ?_
          rintro e w4 ⟨v2, rfl, ho, hb4⟩
          rw [HR.out] at ho ⊢
          have B4 := Lib.hid (B3.out.trans (hb4.mono B3.out.size))
          have T4 := Lib.hid (T3.out.below hb4)
          have kv := cell_of_one (show w4.heap[w1.heap.size + 1]? = _ from (by rw [hb4.block _ (lt_of_block HVO.out)]; exact HVO.out))
          obtain ⟨ra, rc, rfl⟩ := ho.slice
          have U4 := Lib.hid (ho.sl rfl)
          clear ho hb4 T3
          rw [ints_len] at *
          go_wp2_with fail
          refine (same_c oa _ oc _ ra _ rc _ w4 T4.out U4.out).mono ?_
          rintro e w5 ⟨rfl, hb5⟩
          rw [decide_eq_true rfl]
          have B5 := Lib.hid (B4.out.trans (hb5.mono B4.out.size))
          clear hb5
          go_wp2
          refine bodyPost_ret (results_tmp rfl _ _ _) rfl ?_
          exact ⟨rfl, B5.out⟩
        · have hm2 : most < 0 := by omega
          have WV : Hid (∀ i, i < n0 → WVal ((wvals C).getD i .nilIface)) := Lib.hid (fun i hi => .inr ⟨_, wvals_get (by rw [HC.out]; exact hi)⟩)
          go_wp2_with fail
          refine (crun_neg la n0 lc (wvals C) a1 n1 c1 most w2 (SlW.crew CO.out HC.out) WV.out (.inl hm2)).mono ?_
          rintro e w3 ⟨rfl, hw3⟩
          have B3 : Hid (Below w1.heap.size w1 w3) := Lib.hid (by rw [← hw3]; exact CP.out.bel.alloc CP.out.bel.size _)
          have kv := cell_of_one (show w3.heap[w1.heap.size + 1]? = _ from (by rw [← hw3, Below.heap_alloc _ _ _ (lt_of_block CP.out.log)]; exact CP.out.log))
          have BB := Lib.hid (B1.out.trans (B3.out.mono B1.out.size))
          clear hw3 CP CO WV B3
          go_wp2_with fail
          refine (refOrder_neg a0 n0 c0 (ints L) a1 n1 c1 most w3 (H0.out.below BB.out) (.inl hm2)).mono ?_
          rintro e w' ⟨rfl, rfl⟩
          go_wp2_with fail
          refine (same_c (some ⟨w1.heap.size, 0, none⟩) 0 0 [] none 0 0 [] w3 (SlI.nil _ _ _ (by omega)) (SlI.nil _ _ _ (by omega))).mono ?_
          rintro e w5 ⟨rfl, hb5⟩
          rw [show decide (([] : List Int) = []) = true from by decide]
          have B5 := Lib.hid (BB.out.trans (hb5.mono BB.out.size))
          clear hb5
          go_wp2
          refine bodyPost_ret (results_tmp rfl _ _ _) rfl ?_
          exact ⟨rfl, B5.out⟩

end Go.Proofs.Ytigokfcoofbdlaa
