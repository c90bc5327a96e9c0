/- Laws: Text. -/
import Derived.Test.YtljgcjmelmpgoaaDoorQ39
import Derived.Test.YtljgcjmelmpgoaaDoorQ31
import Derived.Test.YtljgcjmelmpgoaaDoorQ12
namespace Go.Proofs.YtljgcjmelmpgoaaDoor
open Go.RowKit
set_option linter.unusedVariables false

open Go.Sort
theorem gTab : Tryd.prog.globalNamed "internal/strconv.uint64pow10" = some 0 := by kernel_rfl
theorem tab_below {w w' : World} (h : Lib.TabIs Tryd.prog w "internal/strconv.uint64pow10" .u64 Lib.pow10Tab) (hb : Below w.heap.size w w') : Lib.TabIs Tryd.prog w' "internal/strconv.uint64pow10" .u64 Lib.pow10Tab := by
  unfold Lib.TabIs World.var? at h ⊢
  rw [gTab] at h ⊢
  simp only [Option.bind_some] at h ⊢
  have hlt : 0 < w.heap.size := by
    rcases Nat.lt_or_ge 0 w.heap.size with h1 | h1
    · exact h1
    · rw [Array.getElem?_eq_none h1] at h; cases h
  rw [hb.block 0 hlt]
  exact h
theorem itoa_tab (w : World) (u : Int) (hu : 0 ≤ u ∧ u < 1024) (h : Lib.TabIs Tryd.prog w "internal/strconv.uint64pow10" .u64 Lib.pow10Tab) : ItoaOk w u := by
  intro W hb
  refine (Tryd.strconv_Itoa u (by omega) (by omega) W (tab_below h hb)).mono ?_
  rintro e w' ⟨rfl, k, os, rfl⟩
  refine ⟨rfl, ⟨rfl, rfl, rfl, ?_, fun j hj => ?_⟩⟩
  · simp [grow]
  · exact heap_grow_old _ _ hj
set_option maxHeartbeats 4000000 in
set_option maxRecDepth 100000 in
theorem lawText (a0 : Option Addr) (n0 c0 : Nat) (A : List Lt) (a1 : Option Addr) (n1 c1 : Nat) (B : List Lt) (w : World) (h0 : SlL w a0 n0 c0 A) (h1 : SlL w a1 n1 c1 B) (ht : Lib.TabIs Tryd.prog w "internal/strconv.uint64pow10" .u64 Lib.pow10Tab) :
    Calls Tryd.prog 10 #[.slice a0 n0 c0, .slice a1 n1 c1] w fun e w' => e = .returned (.bool true) ∧ Below w.heap.size w w' := by
  have H0 := Lib.hid h0
  have H1 := Lib.hid h1
  have HT := Lib.hid ht
  clear h0 h1 ht
  go_enter Tryd.func10, Tryd.ntmps10
  go_wp2_with fail
  refine Calls.mono (awake_c w) ?_
  rintro e w1 ⟨rfl, hb1⟩
  have B1 := Lib.hid hb1
  clear hb1
  by_cases g0 : (30 : Int) < (n0 : Int)
  · go_wp2
    refine bodyPost_ret (results_tmp rfl _ _ _) rfl ?_
    exact ⟨rfl, B1.out⟩
  · by_cases g1 : (30 : Int) < (n1 : Int)
    · go_wp2
      refine bodyPost_ret (results_tmp rfl _ _ _) rfl ?_
      exact ⟨rfl, B1.out⟩
    · go_wp2_with fail
      refine Calls.mono (rvalid_c a0 n0 c0 A w1 (H0.out.below B1.out)) ?_
      rintro e w2 ⟨rfl, hb2⟩
      have B2 := Lib.hid (B1.out.trans (hb2.mono B1.out.size))
      clear hb2
      cases hA : vld A with
      | false =>
        clear hA
        go_wp2
        refine bodyPost_ret (results_tmp rfl _ _ _) rfl ?_
        exact ⟨rfl, B2.out⟩
      | true =>
        have HA := Lib.hid (vld_iff.1 hA).2
        clear hA
        go_wp2_with fail
        refine Calls.mono (rvalid_c a1 n1 c1 B w2 (H1.out.below B2.out)) ?_
        rintro e w3 ⟨rfl, hb3⟩
        have B3 := Lib.hid (B2.out.trans (hb3.mono B2.out.size))
        clear hb3
        cases hB : vld B with
        | false =>
          clear hB
          go_wp2
          refine bodyPost_ret (results_tmp rfl _ _ _) rfl ?_
          exact ⟨rfl, B3.out⟩
        | true =>
          have HB := Lib.hid (vld_iff.1 hB).2
          clear hB
          have l0 : n0 ≤ 30 := by omega
          have l1 : n1 ≤ 30 := by omega
          have key : ∀ (W : World) (a : Option Addr) (n c : Nat) (L : List Lt), Below w.heap.size w W → SlL W a n c L → n ≤ 30 → (∀ x ∈ L, 0 ≤ x.1 ∧ x.1 < 1024) → Calls Tryd.prog 30 #[.slice a n c] W fun e w' => e = .returned (.string ⟨(textL L).toArray⟩) ∧ Below W.heap.size W w' :=
            fun W a n c L hb hs hn hu => text_c a n c L W hs (by omega) hu (fun x hx => itoa_tab W x.1 (hu x hx) (tab_below HT.out hb))
          have KEY := Lib.hid key
          clear key
          obtain ⟨tA, htA⟩ : ∃ t, ByteArray.mk (textL A).toArray = t := ⟨_, rfl⟩
          obtain ⟨tB, htB⟩ : ∃ t, ByteArray.mk (textL B).toArray = t := ⟨_, rfl⟩
          have HTA := Lib.hid htA
          have HTB := Lib.hid htB
          clear htA htB
          go_wp2_with fail
          refine Calls.mono (KEY.out w3 a0 n0 c0 A B3.out (H0.out.below B3.out) l0 HA.out) ?_
          rintro e w4 ⟨rfl, hb4⟩
          rw [HTA.out]
          have B4 := Lib.hid (B3.out.trans (hb4.mono B3.out.size))
          clear hb4
          go_wp2_with fail
          refine Calls.mono (rtext_c a0 n0 c0 A w4 (H0.out.below B4.out) (by omega) HA.out) ?_
          rintro e w5 ⟨rfl, hb5⟩
          rw [HTA.out]
          have B5 := Lib.hid (B4.out.trans (hb5.mono B4.out.size))
          clear hb5
          have e1 : (tA.toList == tA.toList) = true := by simp
          go_wp2_with fail
          refine Calls.mono (KEY.out w5 a0 n0 c0 A B5.out (H0.out.below B5.out) l0 HA.out) ?_
          rintro e w6 ⟨rfl, hb6⟩
          rw [HTA.out]
          have B6 := Lib.hid (B5.out.trans (hb6.mono B5.out.size))
          clear hb6
          go_wp2_with fail
          refine Calls.mono (KEY.out w6 a1 n1 c1 B B6.out (H1.out.below B6.out) l1 HB.out) ?_
          rintro e w7 ⟨rfl, hb7⟩
          rw [HTB.out]
          have B7 := Lib.hid (B6.out.trans (hb7.mono B6.out.size))
          clear hb7
          go_wp2_with fail
          refine Calls.mono (same_c a0 n0 c0 A a1 n1 c1 B w7 (H0.out.below B7.out) (H1.out.below B7.out)) ?_
          rintro e w8 ⟨rfl, hb8⟩
          have B8 := Lib.hid (B7.out.trans (hb8.mono B7.out.size))
          clear hb8
          have TL : Hid (tA.toList = textL A ∧ tB.toList = textL B) := Lib.hid ⟨by rw [← HTA.out, ByteArray.toList_mk], by rw [← HTB.out, ByteArray.toList_mk]⟩
          by_cases hAB : A = B
          · have f1 : (tA.toList == tB.toList) = true := by rw [TL.out.1, TL.out.2, hAB]; simp
            have f2 : tA.toList = tB.toList := by rw [TL.out.1, TL.out.2, hAB]
            rw [decide_eq_true hAB]
            clear hAB f2
            go_wp2
            refine bodyPost_ret (results_tmp rfl _ _ _) rfl ?_
            exact ⟨by first | rfl | simp [f1], B8.out⟩
          · have f2 : ¬ tA.toList = tB.toList := by
              rw [TL.out.1, TL.out.2]
              exact fun h => hAB (text_inj (fun x hx => (HA.out x hx).1) (fun x hx => (HB.out x hx).1) h)
            have f1 : (tA.toList == tB.toList) = false := by rw [beq_eq_false_iff_ne]; exact f2
            rw [decide_eq_false hAB]
            clear hAB
            go_wp2
            refine bodyPost_ret (results_tmp rfl _ _ _) rfl ?_
            exact ⟨by first | rfl | simp [f1], B8.out⟩

end Go.Proofs.YtljgcjmelmpgoaaDoor
