/- Laws: Status, Resolve, Make. -/
import Derived.Test.YtljgcjmelmpgoaaDoorQ31
import Derived.Test.YtljgcjmelmpgoaaDoorQ29
import Derived.Test.YtljgcjmelmpgoaaDoorQ17
import Derived.Test.YtljgcjmelmpgoaaDoorQ12
import Derived.Deep.RegionHeld3
namespace Go.Proofs.YtljgcjmelmpgoaaDoor
open Go.RowKit
set_option linter.unusedVariables false

set_option maxHeartbeats 4000000 in
set_option maxRecDepth 100000 in
theorem lawStatus (a0 : Option Addr) (n0 c0 : Nat) (A : List Lt) (a1 : Option Addr) (n1 c1 : Nat) (P : List Int) (w : World) (h0 : SlL w a0 n0 c0 A) (h1 : SlI w a1 n1 c1 P) :
    Calls Tryd.prog 7 #[.slice a0 n0 c0, .slice a1 n1 c1] w fun e w' => e = .returned (.bool true) ∧ Below w.heap.size w w' := by
  have H0 := Lib.hid h0
  have H1 := Lib.hid h1
  clear h0 h1
  go_enter Tryd.func7, Tryd.ntmps7
  go_wp2_with fail
  refine Calls.mono (awake_c w) ?_
  rintro e w1 ⟨rfl, hb1⟩
  have B1 := Lib.hid hb1
  clear hb1
  by_cases g0 : (30 : Int) < (n0 : Int)
  · go_wp2
    refine bodyPost_ret (results_tmp rfl _ _ _) rfl ?_
    exact ⟨rfl, B1.out⟩
  · by_cases g1 : (60 : Int) < (n1 : Int)
    · go_wp2
      refine bodyPost_ret (results_tmp rfl _ _ _) rfl ?_
      exact ⟨rfl, B1.out⟩
    · go_wp2_with fail
      refine Calls.mono (status_c a0 n0 c0 A a1 n1 c1 P w1 (H0.out.below B1.out) (H1.out.below B1.out)) ?_
      rintro e w2 ⟨rfl, hb2⟩
      have B2 := Lib.hid (B1.out.trans (hb2.mono B1.out.size))
      clear hb2
      obtain ⟨s, hs⟩ : ∃ s, status P A = s := ⟨_, rfl⟩
      have HS := Lib.hid hs
      rw [hs]
      clear hs
      obtain ⟨s1, s2⟩ := s
      go_wp2_with fail
      refine Calls.mono (rstatus_c a0 n0 c0 A a1 n1 c1 P w2 (H0.out.below B2.out) (H1.out.below B2.out)) ?_
      rintro e w3 ⟨rfl, hb3⟩
      have B3 := Lib.hid (B2.out.trans (hb3.mono B2.out.size))
      clear hb3
      rw [HS.out]
      go_wp2
      refine bodyPost_ret (results_tmp rfl _ _ _) rfl ?_
      exact ⟨rfl, B3.out⟩
set_option maxHeartbeats 4000000 in
set_option maxRecDepth 100000 in
theorem lawResolve (a0 : Option Addr) (n0 c0 : Nat) (A : List Lt) (a1 : Option Addr) (n1 c1 : Nat) (B : List Lt) (x : Int) (w : World) (h0 : SlL w a0 n0 c0 A) (h1 : SlL w a1 n1 c1 B) :
    Calls Tryd.prog 5 #[.slice a0 n0 c0, .slice a1 n1 c1, .int .i64 x] w fun e w' => e = .returned (.bool true) ∧ Below w.heap.size w w' := by
  have H0 := Lib.hid h0
  have H1 := Lib.hid h1
  clear h0 h1
  go_enter Tryd.func5, Tryd.ntmps5
  go_wp2_with fail
  refine Calls.mono (awake_c w) ?_
  rintro e w1 ⟨rfl, hb1⟩
  have B1 := Lib.hid hb1
  clear hb1
  by_cases g0 : (30 : Int) < (n0 : Int)
  · go_wp2
    refine bodyPost_ret (results_tmp rfl _ _ _) rfl ?_
    exact ⟨rfl, B1.out⟩
  · by_cases g1 : (30 : Int) < (n1 : Int)
    · go_wp2
      refine bodyPost_ret (results_tmp rfl _ _ _) rfl ?_
      exact ⟨rfl, B1.out⟩
    · go_wp2_with fail
      refine Calls.mono (resolve_c a0 n0 c0 A a1 n1 c1 B x w1 (H0.out.below B1.out) (H1.out.below B1.out)) ?_
      rintro e w2 ⟨v2, rfl, hO2, hb2⟩
      have B2 := Lib.hid (B1.out.trans (hb2.mono B1.out.size))
      obtain ⟨a2, c2, hv2⟩ := hO2.slice
      subst hv2
      have S2 := Lib.hid (hO2.sl rfl)
      clear hb2 hO2
      obtain ⟨r, hr⟩ : ∃ r, rcode A B x = r := ⟨_, rfl⟩
      have HR := Lib.hid hr
      rw [hr]
      clear hr
      obtain ⟨m, hm⟩ : ∃ m, (rlist A B x).length = m := ⟨_, rfl⟩
      have HM := Lib.hid hm
      rw [hm] at S2 ⊢
      clear hm
      go_wp2_with fail
      refine Calls.mono (rresolve_c a0 n0 c0 A a1 n1 c1 B x w2 (H0.out.below B2.out) (H1.out.below B2.out) (by omega)) ?_
      rintro e w3 ⟨v3, rfl, hO3, hb3⟩
      have B3 := Lib.hid (B2.out.trans (hb3.mono B2.out.size))
      obtain ⟨a3, c3, hv3⟩ := hO3.slice
      subst hv3
      have S3 := Lib.hid (hO3.sl rfl)
      have S2' := Lib.hid (S2.out.below hb3)
      clear hb3 hO3
      rw [HR.out, HM.out]
      rw [HM.out] at S3
      go_wp2_with fail
      refine Calls.mono (same_c a2 m c2 (rlist A B x) a3 m c3 (rlist A B x) w3 S2'.out S3.out) ?_
      rintro e w4 ⟨rfl, hb4⟩
      have B4 := Lib.hid (B3.out.trans (hb4.mono B3.out.size))
      clear hb4
      rw [decide_eq_true rfl]
      go_wp2
      refine bodyPost_ret (results_tmp rfl _ _ _) rfl ?_
      exact ⟨rfl, B4.out⟩
set_option maxHeartbeats 8000000 in
set_option maxRecDepth 100000 in
theorem lawMake (a0 : Option Addr) (n0 c0 : Nat) (L : List Lt) (w : World) (h0 : SlL w a0 n0 c0 L) :
    Calls Tryd.prog 3 #[.slice a0 n0 c0] w fun e w' => e = .returned (.bool true) ∧ Below w.heap.size w w' := by
  have H0 := Lib.hid h0
  clear h0
  go_enter Tryd.func3, Tryd.ntmps3
  go_wp2_with fail
  refine Calls.mono (awake_c w) ?_
  rintro e w1 ⟨rfl, hb1⟩
  have B1 := Lib.hid hb1
  clear hb1
  by_cases g0 : (60 : Int) < (n0 : Int)
  · go_wp2
    refine bodyPost_ret (results_tmp rfl _ _ _) rfl ?_
    exact ⟨rfl, B1.out⟩
  · go_wp2_with fail
    refine Calls.mono (make_c a0 n0 c0 L w1 (H0.out.below B1.out) (by omega)) ?_
    rintro e w2 ⟨v2, rfl, hO2, hb2⟩
    have B2 := Lib.hid (B1.out.trans (hb2.mono B1.out.size))
    obtain ⟨R, hR⟩ : ∃ R, (if vld (made L) = true then made L else []) = R := ⟨_, rfl⟩
    have HR := Lib.hid hR
    rw [hR] at hO2
    clear hR
    obtain ⟨a2, c2, hv2⟩ := hO2.slice
    subst hv2
    have S2 := Lib.hid (hO2.sl rfl)
    clear hb2 hO2
    obtain ⟨r, hr⟩ : ∃ r, vld (made L) = r := ⟨_, rfl⟩
    have HV := Lib.hid hr
    rw [hr]
    clear hr
    obtain ⟨m, hm⟩ : ∃ m, R.length = m := ⟨_, rfl⟩
    have HM := Lib.hid hm
    rw [hm] at S2 ⊢
    clear hm
    go_wp2_with fail
    refine Calls.mono (rmake_c a0 n0 c0 L w2 (H0.out.below B2.out) (by omega)) ?_
    rintro e w3 ⟨v3, rfl, hO3, hb3⟩
    have B3 := Lib.hid (B2.out.trans (hb3.mono B2.out.size))
    rw [HR.out] at hO3
    obtain ⟨a3, c3, hv3⟩ := hO3.slice
    subst hv3
    have S3 := Lib.hid (hO3.sl rfl)
    have S2' := Lib.hid (S2.out.below hb3)
    clear hb3 hO3
    rw [HV.out, HM.out]
    rw [HM.out] at S3
    have hbb : (r == r) = true := by simp
    have hbn : (r != r) = false := by simp
    go_wp2_with fail
    refine Calls.mono (same_c a2 m c2 R a3 m c3 R w3 S2'.out S3.out) ?_
    rintro e w4 ⟨rfl, hb4⟩
    have B4 := Lib.hid (B3.out.trans (hb4.mono B3.out.size))
    clear hb4
    rw [decide_eq_true rfl]
    go_wp2_with fail
    refine Calls.mono (valid_c a0 n0 c0 L w4 (H0.out.below B4.out)) ?_
    rintro e w5 ⟨rfl, hb5⟩
    have B5 := Lib.hid (B4.out.trans (hb5.mono B4.out.size))
    clear hb5
    obtain ⟨q, hq⟩ : ∃ r, vld L = r := ⟨_, rfl⟩
    have HQ := Lib.hid hq
    rw [hq]
    clear hq
    go_wp2_with fail
    refine Calls.mono (rvalid_c a0 n0 c0 L w5 (H0.out.below B5.out)) ?_
    rintro e w6 ⟨rfl, hb6⟩
    have B6 := Lib.hid (B5.out.trans (hb6.mono B5.out.size))
    clear hb6
    rw [HQ.out]
    have hqq : (q == q) = true := by simp
    have hqn : (q != q) = false := by simp
    go_wp2
    clear hbb hbn hqq hqn
    go_loopw [8, 42] (fun s8 s wr => ∃ i : Nat, i ≤ n0 ∧ s = .int .i64 (i : Nat) ∧ Hid (Below w.heap.size w wr)) (fun _ s _ => n0 - (RowKit.intOf s).toNat)
    case atStart => exact ⟨0, by omega, rfl, B6⟩
    case round =>
      obtain ⟨i, hi, rfl, HB⟩ := hrel
      by_cases hlt : i < n0
      · obtain ⟨b, off, rfl, hb, hc⟩ := (H0.out.below HB.out).at (by omega)
        obtain ⟨k0, k1⟩ := hc i hlt
        clear hc
        obtain ⟨u, hu⟩ : ∃ u, (L.getD i d0).1 = u := ⟨_, rfl⟩
        obtain ⟨o, ho⟩ : ∃ o, (L.getD i d0).2 = o := ⟨_, rfl⟩
        rw [hu] at k0
        rw [ho] at k1
        clear hu ho
        have hi0 : (0 : Int) ≤ (i : Int) := by omega
        have hi1 : (i : Int) < (n0 : Int) := by omega
        have BA : Hid (Below w.heap.size w (wr.alloc (.cells #[.int .i64 u, .bool o] 30)).drew) := Lib.hid (below_drewN (HB.out.alloc HB.out.size _) 1)
        have KB : Hid (∀ w1, Below ((wr.alloc (.cells #[.int .i64 u, .bool o] 30)).drew).heap.size (wr.alloc (.cells #[.int .i64 u, .bool o] 30)).drew w1 → (w1.cell? ⟨wr.heap.size, 0, none⟩ = some (.int .i64 u) ∧ w1.cell? ⟨wr.heap.size, 1, none⟩ = some (.bool o)) ∧ Hid (Below w.heap.size w w1)) := Lib.hid (by
          intro w1 hb
          have hl : (wr.alloc (.cells #[.int .i64 u, .bool o] 30)).drew.heap[wr.heap.size]? = some (.cells #[.int .i64 u, .bool o] 30 (0, 0)) := heap_alloc_new wr _
          have hl1 : w1.heap[wr.heap.size]? = some (.cells #[.int .i64 u, .bool o] 30 (0, 0)) := by rw [hb.block _ (lt_of_block hl)]; exact hl
          exact ⟨⟨by rw [cell_of_row w1 _ 0 _ 30 (0, 0) hl1]; rfl, by rw [cell_of_row w1 _ 1 _ 30 (0, 0) hl1]; rfl⟩, Lib.hid (BA.out.trans (hb.mono BA.out.size))⟩)
        have hq := lit_ne_yes (rfl : ((u, !o) : Int × Bool) = (u, !o))
        have hg := eqg30
        go_upto_region 12 with fail
        go_region_held3 (fun w' => w'.cell? ⟨wr.heap.size, 0, none⟩ = some (.int .i64 u) ∧ w'.cell? ⟨wr.heap.size, 1, none⟩ = some (.bool o)) (first | exact ⟨t0, t1⟩ | exact ⟨s0, s1⟩ | go_keep)
          (first
            | (go_at_call 17; ((with_reducible refine Calls.mono (opp_c u o _) ?_); rintro e w7 ⟨rfl, hb7⟩; obtain ⟨⟨s0, s1⟩, bw⟩ := KB.out _ hb7; clear hb7))
            | (go_at_call 18; ((with_reducible refine Calls.mono (ropp_c u o _) ?_); rintro e w8 ⟨rfl, hb8⟩; have t0 := (hb8.cell (p := ⟨wr.heap.size, 0, none⟩) (World.block_lt_of_cell? _ _ s0)).trans s0; have t1 := (hb8.cell (p := ⟨wr.heap.size, 1, none⟩) (World.block_lt_of_cell? _ _ s1)).trans s1; have bw2 := Lib.hid (bw.out.trans (hb8.mono bw.out.size)); clear hb8)))
        all_goals
          go_wp2
          go_roundw
          case rel => exact ⟨i + 1, by omega, by go_num, bw2⟩
          case measure => simp [RowKit.intOf]; omega
      · have hne : ¬ (i : Int) < (n0 : Int) := by omega
        go_wp2
        refine bodyPost_ret (results_tmp rfl _ _ _) rfl ?_
        exact ⟨rfl, HB.out⟩

end Go.Proofs.YtljgcjmelmpgoaaDoor
