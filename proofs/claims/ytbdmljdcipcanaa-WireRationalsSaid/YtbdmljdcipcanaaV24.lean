/- The law of rational numbers. -/
import Derived.Test.YtbdmljdcipcanaaV23
import Derived.Test.YtbdmljdcipcanaaV9
import Derived.Deep.RegionHeld3
import Derived.Deep.Cut
namespace Go.Proofs.Ytbdmljdcipcanaa
open Go.RowKit
set_option linter.unusedVariables false

set_option linter.unusedSimpArgs false
/-- what is held at more may be shown -/
theorem wpAnyH_strong {P : Program} {ops : Array Oper} {Q : Exit → Act → World → Prop} {md : Region.Mode} {S S' : World → Prop} (hm : ∀ w, S' w → S w) :
    ∀ (fuel : Nat) (listed : Array Bool) (a : Act) (w : World), wpAnyH P md ops Q S' fuel listed a w → wpAnyH P md ops Q S fuel listed a w
  | 0, _, _, _, h => h
  | fuel + 1, _, _, _, h => ⟨h.1, fun i hi => wpOp_mono (fun a' w' h' => ⟨hm _ h'.1, wpAnyH_strong hm fuel _ a' w' h'.2⟩) (h.2 i hi)⟩
theorem box_kept {w W : World} {neg : Bool} {u1 u2 : Value} (hW : Below (w.alloc (.cells #[.bool neg, u1, u2] 31)).heap.size (w.alloc (.cells #[.bool neg, u1, u2] 31)) W) :
    W.cell? ⟨w.heap.size, 0, none⟩ = some (.bool neg) ∧ W.cell? ⟨w.heap.size, 1, none⟩ = some u1 ∧ W.cell? ⟨w.heap.size, 2, none⟩ = some u2 := by
  refine ⟨?_, ?_, ?_⟩
  · rw [hW.cell (p := ⟨w.heap.size, 0, none⟩) (by simp), cell_of_row _ w.heap.size 0 _ 31 (0, 0) (heap_alloc_new w _)]; rfl
  · rw [hW.cell (p := ⟨w.heap.size, 1, none⟩) (by simp), cell_of_row _ w.heap.size 1 _ 31 (0, 0) (heap_alloc_new w _)]; rfl
  · rw [hW.cell (p := ⟨w.heap.size, 2, none⟩) (by simp), cell_of_row _ w.heap.size 2 _ 31 (0, 0) (heap_alloc_new w _)]; rfl
set_option maxHeartbeats 8000000 in
set_option maxRecDepth 100000 in
theorem law_rationals (a0 : Option Addr) (n0 c0 : Nat) (A : List Int) (a : Option Addr) (n c : Nat) (Ln : List Int) (neg : Bool) (a1 : Option Addr) (n1 c1 : Nat) (L1 : List Int) (a2 : Option Addr) (n2 c2 : Nat) (L2 : List Int) (w : World) (h0 : SlB w a0 n0 c0 A) (h : SlW w a n c Ln) (h1 : SlW w a1 n1 c1 L1) (h2 : SlW w a2 n2 c2 L2) :
    Calls Try.prog 4 #[.slice a0 n0 c0, .slice a n c, .agg #[.bool neg, .slice a1 n1 c1, .slice a2 n2 c2]] w fun e w' => e = .returned (.bool true) ∧ Below w.heap.size w w' := by
  have H0 := Lib.hid h0
  have HN := Lib.hid h
  have H1 := Lib.hid h1
  have H2 := Lib.hid h2
  clear h0 h h1 h2
  by_cases q0 : 100 < n0
  · skip
    go_enter Try.func4, Try.ntmps4
    have BW : Hid (Below w.heap.size w (w.alloc (.cells #[.bool neg, .slice a1 n1 c1, .slice a2 n2 c2] 31))) := Lib.hid (Below.newBlock _)
    have KB : Hid (∀ W, Below (w.alloc (.cells #[.bool neg, .slice a1 n1 c1, .slice a2 n2 c2] 31)).heap.size (w.alloc (.cells #[.bool neg, .slice a1 n1 c1, .slice a2 n2 c2] 31)) W → (W.cell? ⟨w.heap.size, 0, none⟩ = some (.bool neg) ∧ W.cell? ⟨w.heap.size, 1, none⟩ = some (.slice a1 n1 c1) ∧ W.cell? ⟨w.heap.size, 2, none⟩ = some (.slice a2 n2 c2))) := Lib.hid (fun W hW => box_kept hW)
    go_wp2_with fail
    refine (awake_c _).mono ?_
    rintro e w1 ⟨rfl, hb1⟩
    have C1 := Lib.hid (BW.out.trans (hb1.mono BW.out.size))
    obtain ⟨k0, k1, k2⟩ := KB.out _ hb1
    have KB1 : Hid (∀ W, Below w1.heap.size w1 W → (W.cell? ⟨w.heap.size, 0, none⟩ = some (.bool neg) ∧ W.cell? ⟨w.heap.size, 1, none⟩ = some (.slice a1 n1 c1) ∧ W.cell? ⟨w.heap.size, 2, none⟩ = some (.slice a2 n2 c2))) := Lib.hid (fun W hW => KB.out _ (hb1.trans (hW.mono hb1.size)))
    clear hb1 KB
    go_wp2_with fail
    refine (awake_c w1).mono ?_
    rintro e w2 ⟨rfl, hb2⟩
    have C2 := Lib.hid (C1.out.trans (hb2.mono C1.out.size))
    clear hb2 KB1
    go_wp2
    refine bodyPost_ret (results_tmp rfl _ _ _) rfl ?_
    exact ⟨rfl, C2.out⟩
  by_cases q1 : 10 < n
  · skip
    go_enter Try.func4, Try.ntmps4
    have BW : Hid (Below w.heap.size w (w.alloc (.cells #[.bool neg, .slice a1 n1 c1, .slice a2 n2 c2] 31))) := Lib.hid (Below.newBlock _)
    have KB : Hid (∀ W, Below (w.alloc (.cells #[.bool neg, .slice a1 n1 c1, .slice a2 n2 c2] 31)).heap.size (w.alloc (.cells #[.bool neg, .slice a1 n1 c1, .slice a2 n2 c2] 31)) W → (W.cell? ⟨w.heap.size, 0, none⟩ = some (.bool neg) ∧ W.cell? ⟨w.heap.size, 1, none⟩ = some (.slice a1 n1 c1) ∧ W.cell? ⟨w.heap.size, 2, none⟩ = some (.slice a2 n2 c2))) := Lib.hid (fun W hW => box_kept hW)
    go_wp2_with fail
    refine (awake_c _).mono ?_
    rintro e w1 ⟨rfl, hb1⟩
    have C1 := Lib.hid (BW.out.trans (hb1.mono BW.out.size))
    obtain ⟨k0, k1, k2⟩ := KB.out _ hb1
    have KB1 : Hid (∀ W, Below w1.heap.size w1 W → (W.cell? ⟨w.heap.size, 0, none⟩ = some (.bool neg) ∧ W.cell? ⟨w.heap.size, 1, none⟩ = some (.slice a1 n1 c1) ∧ W.cell? ⟨w.heap.size, 2, none⟩ = some (.slice a2 n2 c2))) := Lib.hid (fun W hW => KB.out _ (hb1.trans (hW.mono hb1.size)))
    clear hb1 KB
    go_wp2_with fail
    refine (awake_c w1).mono ?_
    rintro e w2 ⟨rfl, hb2⟩
    have C2 := Lib.hid (C1.out.trans (hb2.mono C1.out.size))
    clear hb2 KB1
    go_wp2
    refine bodyPost_ret (results_tmp rfl _ _ _) rfl ?_
    exact ⟨rfl, C2.out⟩
  by_cases q2 : 10 < n1
  · skip
    go_enter Try.func4, Try.ntmps4
    have BW : Hid (Below w.heap.size w (w.alloc (.cells #[.bool neg, .slice a1 n1 c1, .slice a2 n2 c2] 31))) := Lib.hid (Below.newBlock _)
    have KB : Hid (∀ W, Below (w.alloc (.cells #[.bool neg, .slice a1 n1 c1, .slice a2 n2 c2] 31)).heap.size (w.alloc (.cells #[.bool neg, .slice a1 n1 c1, .slice a2 n2 c2] 31)) W → (W.cell? ⟨w.heap.size, 0, none⟩ = some (.bool neg) ∧ W.cell? ⟨w.heap.size, 1, none⟩ = some (.slice a1 n1 c1) ∧ W.cell? ⟨w.heap.size, 2, none⟩ = some (.slice a2 n2 c2))) := Lib.hid (fun W hW => box_kept hW)
    go_wp2_with fail
    refine (awake_c _).mono ?_
    rintro e w1 ⟨rfl, hb1⟩
    have C1 := Lib.hid (BW.out.trans (hb1.mono BW.out.size))
    obtain ⟨k0, k1, k2⟩ := KB.out _ hb1
    have KB1 : Hid (∀ W, Below w1.heap.size w1 W → (W.cell? ⟨w.heap.size, 0, none⟩ = some (.bool neg) ∧ W.cell? ⟨w.heap.size, 1, none⟩ = some (.slice a1 n1 c1) ∧ W.cell? ⟨w.heap.size, 2, none⟩ = some (.slice a2 n2 c2))) := Lib.hid (fun W hW => KB.out _ (hb1.trans (hW.mono hb1.size)))
    clear hb1 KB
    go_wp2_with fail
    refine (awake_c w1).mono ?_
    rintro e w2 ⟨rfl, hb2⟩
    have C2 := Lib.hid (C1.out.trans (hb2.mono C1.out.size))
    clear hb2 KB1
    go_wp2
    refine bodyPost_ret (results_tmp rfl _ _ _) rfl ?_
    exact ⟨rfl, C2.out⟩
  by_cases q3 : 10 < n2
  · skip
    go_enter Try.func4, Try.ntmps4
    have BW : Hid (Below w.heap.size w (w.alloc (.cells #[.bool neg, .slice a1 n1 c1, .slice a2 n2 c2] 31))) := Lib.hid (Below.newBlock _)
    have KB : Hid (∀ W, Below (w.alloc (.cells #[.bool neg, .slice a1 n1 c1, .slice a2 n2 c2] 31)).heap.size (w.alloc (.cells #[.bool neg, .slice a1 n1 c1, .slice a2 n2 c2] 31)) W → (W.cell? ⟨w.heap.size, 0, none⟩ = some (.bool neg) ∧ W.cell? ⟨w.heap.size, 1, none⟩ = some (.slice a1 n1 c1) ∧ W.cell? ⟨w.heap.size, 2, none⟩ = some (.slice a2 n2 c2))) := Lib.hid (fun W hW => box_kept hW)
    go_wp2_with fail
    refine (awake_c _).mono ?_
    rintro e w1 ⟨rfl, hb1⟩
    have C1 := Lib.hid (BW.out.trans (hb1.mono BW.out.size))
    obtain ⟨k0, k1, k2⟩ := KB.out _ hb1
    have KB1 : Hid (∀ W, Below w1.heap.size w1 W → (W.cell? ⟨w.heap.size, 0, none⟩ = some (.bool neg) ∧ W.cell? ⟨w.heap.size, 1, none⟩ = some (.slice a1 n1 c1) ∧ W.cell? ⟨w.heap.size, 2, none⟩ = some (.slice a2 n2 c2))) := Lib.hid (fun W hW => KB.out _ (hb1.trans (hW.mono hb1.size)))
    clear hb1 KB
    go_wp2_with fail
    refine (awake_c w1).mono ?_
    rintro e w2 ⟨rfl, hb2⟩
    have C2 := Lib.hid (C1.out.trans (hb2.mono C1.out.size))
    clear hb2 KB1
    go_wp2
    refine bodyPost_ret (results_tmp rfl _ _ _) rfl ?_
    exact ⟨rfl, C2.out⟩
  · skip
    go_enter Try.func4, Try.ntmps4
    have BW : Hid (Below w.heap.size w (w.alloc (.cells #[.bool neg, .slice a1 n1 c1, .slice a2 n2 c2] 31))) := Lib.hid (Below.newBlock _)
    have KB : Hid (∀ W, Below (w.alloc (.cells #[.bool neg, .slice a1 n1 c1, .slice a2 n2 c2] 31)).heap.size (w.alloc (.cells #[.bool neg, .slice a1 n1 c1, .slice a2 n2 c2] 31)) W → (W.cell? ⟨w.heap.size, 0, none⟩ = some (.bool neg) ∧ W.cell? ⟨w.heap.size, 1, none⟩ = some (.slice a1 n1 c1) ∧ W.cell? ⟨w.heap.size, 2, none⟩ = some (.slice a2 n2 c2))) := Lib.hid (fun W hW => box_kept hW)
    go_wp2_with fail
    refine (awake_c _).mono ?_
    rintro e w1 ⟨rfl, hb1⟩
    have C1 := Lib.hid (BW.out.trans (hb1.mono BW.out.size))
    obtain ⟨k0, k1, k2⟩ := KB.out _ hb1
    have KB1 : Hid (∀ W, Below w1.heap.size w1 W → (W.cell? ⟨w.heap.size, 0, none⟩ = some (.bool neg) ∧ W.cell? ⟨w.heap.size, 1, none⟩ = some (.slice a1 n1 c1) ∧ W.cell? ⟨w.heap.size, 2, none⟩ = some (.slice a2 n2 c2))) := Lib.hid (fun W hW => KB.out _ (hb1.trans (hW.mono hb1.size)))
    clear hb1 KB
    have S0 := H0.out.below C1.out
    have SN := HN.out.below C1.out
    have S1 := H1.out.below C1.out
    have S2 := H2.out.below C1.out
    obtain ⟨sn, hsn⟩ : ∃ s, strOfNums (A ++ nb Ln) = s := ⟨_, rfl⟩
    obtain ⟨sr, hsr⟩ : ∃ s, strOfNums (A ++ ([if neg then 1 else 0] ++ nb L1 ++ nb L2)) = s := ⟨_, rfl⟩
    obtain ⟨w2, hw2⟩ : ∃ q, w1 = q := ⟨_, rfl⟩
    subst hw2
    have H12 : Hid (∀ W, Below w1.heap.size w1 W → Calls Try.prog 12 #[.slice a0 n0 c0, .slice a n c] W fun e w' => ∃ a m c, e = .returned (.slice a m c) ∧ (∀ V, Below w'.heap.size w' V → (convert 22 9 (.slice a m c)).run Try.prog V = .ok (.string sn) V) ∧ Below W.heap.size W w') := Lib.hid (fun W hW => (appendNat_c a0 n0 c0 A a n c Ln W (S0.below hW) (SN.below hW) (by omega) (by omega)).mono (by
      rintro e w' ⟨v, rfl, hO, hb⟩
      obtain ⟨a, c, rfl⟩ := hO.slice
      exact ⟨a, _, c, rfl, fun V hV => by rw [← hsn]; exact conv_sl ((hO.sl rfl).below hV), hb⟩))
    have H13 : Hid (∀ W, Below w1.heap.size w1 W → Calls Try.prog 13 #[.slice a0 n0 c0, .slice a n c] W fun e w' => ∃ a m c, e = .returned (.slice a m c) ∧ (∀ V, Below w'.heap.size w' V → (convert 22 9 (.slice a m c)).run Try.prog V = .ok (.string sn) V) ∧ Below W.heap.size W w') := Lib.hid (fun W hW => (rappendNat_c a0 n0 c0 A a n c Ln W (S0.below hW) (SN.below hW) (by omega) (by omega)).mono (by
      rintro e w' ⟨v, rfl, hO, hb⟩
      obtain ⟨a, c, rfl⟩ := hO.slice
      exact ⟨a, _, c, rfl, fun V hV => by rw [← hsn]; exact conv_sl ((hO.sl rfl).below hV), hb⟩))
    have H14 : Hid (∀ W, Below w1.heap.size w1 W → Calls Try.prog 14 #[.slice a0 n0 c0, .agg #[.bool neg, .slice a1 n1 c1, .slice a2 n2 c2]] W fun e w' => ∃ a m c, e = .returned (.slice a m c) ∧ (∀ V, Below w'.heap.size w' V → (convert 22 9 (.slice a m c)).run Try.prog V = .ok (.string sr) V) ∧ Below W.heap.size W w') := Lib.hid (fun W hW => (appendRat_c a0 n0 c0 A neg a1 n1 c1 L1 a2 n2 c2 L2 W (S0.below hW) (S1.below hW) (S2.below hW) (by omega) (by omega) (by omega)).mono (by
      rintro e w' ⟨v, rfl, hO, hb⟩
      obtain ⟨a, c, rfl⟩ := hO.slice
      exact ⟨a, _, c, rfl, fun V hV => by rw [← hsr]; exact conv_sl ((hO.sl rfl).below hV), hb⟩))
    have H15 : Hid (∀ W, Below w1.heap.size w1 W → Calls Try.prog 15 #[.slice a0 n0 c0, .agg #[.bool neg, .slice a1 n1 c1, .slice a2 n2 c2]] W fun e w' => ∃ a m c, e = .returned (.slice a m c) ∧ (∀ V, Below w'.heap.size w' V → (convert 22 9 (.slice a m c)).run Try.prog V = .ok (.string sr) V) ∧ Below W.heap.size W w') := Lib.hid (fun W hW => (rappendRat_c a0 n0 c0 A neg a1 n1 c1 L1 a2 n2 c2 L2 W (S0.below hW) (S1.below hW) (S2.below hW) (by omega) (by omega) (by omega)).mono (by
      rintro e w' ⟨v, rfl, hO, hb⟩
      obtain ⟨a, c, rfl⟩ := hO.slice
      exact ⟨a, _, c, rfl, fun V hV => by rw [← hsr]; exact conv_sl ((hO.sl rfl).below hV), hb⟩))
    have C0 : Hid (Below w1.heap.size w1 w1.drew) := Lib.hid (below_drewN (Below.refl _ _) 1)
    have KS0 : Hid (∀ W, Below w1.drew.heap.size w1.drew W → (W.cell? ⟨w.heap.size, 0, none⟩ = some (.bool neg) ∧ W.cell? ⟨w.heap.size, 1, none⟩ = some (.slice a1 n1 c1) ∧ W.cell? ⟨w.heap.size, 2, none⟩ = some (.slice a2 n2 c2))) := Lib.hid (fun W hW => KB1.out _ (C0.out.trans (hW.mono C0.out.size)))
    clear H0 HN H1 H2 S0 SN S1 S2 hsn hsr BW KB1
    go_upto_region 3 with (fail)
    refine wp_region_held_drew (S := fun w' => (w'.cell? ⟨w.heap.size, 0, none⟩ = some (.bool neg) ∧ w'.cell? ⟨w.heap.size, 1, none⟩ = some (.slice a1 n1 c1) ∧ w'.cell? ⟨w.heap.size, 2, none⟩ = some (.slice a2 n2 c2))) (by kernel_rfl) (KS0.out _ (Below.refl _ _)) (fun hHeld => ?_)
    refine wpAnyH_take (i := 0) (oi := _) (v := ?vz1) rfl (by kernel_rfl) (by kernel_rfl) (by kernel_rfl) (fun _ _ _ h => h) (Or.inl ⟨by rfl, ?hyz1⟩) (by assumption) ?restz1
    case hyz1 => (intro wq hSw; (try dsimp only at hSw); first | (go_simp; done) | (go_simp; with_reducible rfl))
    try simp only [Act.put, List.getElem_toArray, List.getElem_cons_succ, List.getElem_cons_zero, List.setIfInBounds_toArray, List.set_cons_zero, List.set_cons_succ]
    refine wpAnyH_take (i := 1) (oi := _) (v := ?vz2) rfl (by kernel_rfl) (by kernel_rfl) (by kernel_rfl) (fun _ _ _ h => h) (Or.inl ⟨by rfl, ?hyz2⟩) (by assumption) ?restz2
    case hyz2 => (intro wq hSw; (try dsimp only at hSw); first | (go_simp; done) | (go_simp; with_reducible rfl))
    try simp only [Act.put, List.getElem_toArray, List.getElem_cons_succ, List.getElem_cons_zero, List.setIfInBounds_toArray, List.set_cons_zero, List.set_cons_succ]
    refine wpAnyH_take (i := 4) (oi := _) (v := ?vz3) rfl (by kernel_rfl) (by kernel_rfl) (by kernel_rfl) (fun _ _ _ h => h) (Or.inl ⟨by rfl, ?hyz3⟩) (by assumption) ?restz3
    case hyz3 => (intro wq hSw; (try dsimp only at hSw); first | (go_simp; done) | (go_simp; with_reducible rfl))
    try simp only [Act.put, List.getElem_toArray, List.getElem_cons_succ, List.getElem_cons_zero, List.setIfInBounds_toArray, List.set_cons_zero, List.set_cons_succ]
    refine wpAnyH_take (i := 5) (oi := _) (v := ?vz4) rfl (by kernel_rfl) (by kernel_rfl) (by kernel_rfl) (fun _ _ _ h => h) (Or.inl ⟨by rfl, ?hyz4⟩) (by assumption) ?restz4
    case hyz4 => (intro wq hSw; (try dsimp only at hSw); first | (go_simp; done) | (go_simp; with_reducible rfl))
    try simp only [Act.put, List.getElem_toArray, List.getElem_cons_succ, List.getElem_cons_zero, List.setIfInBounds_toArray, List.set_cons_zero, List.set_cons_succ]
    refine wpAnyH_ready (rs := [2]) (by kernel_rfl) (by simp) ?_
    refine AllReadyH.cons (o := _) rfl (fun KK hKK => ?_) AllReadyH.nil
    go_simp
    refine Calls.mono (H12.out _ C0.out) ?_
    rintro e v1 ⟨x1, y1, u1, rfl, g, hb⟩
    have B1 := Lib.hid hb
    have CQ1 := Lib.hid (C0.out.trans (hb.mono C0.out.size))
    have KS1 : Hid (∀ W, Below v1.heap.size v1 W → ((W.cell? ⟨w.heap.size, 0, none⟩ = some (.bool neg) ∧ W.cell? ⟨w.heap.size, 1, none⟩ = some (.slice a1 n1 c1) ∧ W.cell? ⟨w.heap.size, 2, none⟩ = some (.slice a2 n2 c2)) ∧ (convert 22 9 (.slice x1 y1 u1)).run Try.prog W = .ok (.string sn) W)) := Lib.hid (fun W hW => ⟨KS0.out _ (hb.trans (hW.mono hb.size)), g W hW⟩)
    clear hb g
    go_wp2_with fail
    refine hKK.out _ _ (KS0.out _ B1.out) (fun hHeld2 => ?_)
    clear hKK KK hHeld hHeld2
    refine wpAnyH_strong (S' := fun w' => ((w'.cell? ⟨w.heap.size, 0, none⟩ = some (.bool neg) ∧ w'.cell? ⟨w.heap.size, 1, none⟩ = some (.slice a1 n1 c1) ∧ w'.cell? ⟨w.heap.size, 2, none⟩ = some (.slice a2 n2 c2)) ∧ (convert 22 9 (.slice x1 y1 u1)).run Try.prog w' = .ok (.string sn) w')) (fun W h => h.1) _ _ _ _ ?_
    have hHeld : ((v1.cell? ⟨w.heap.size, 0, none⟩ = some (.bool neg) ∧ v1.cell? ⟨w.heap.size, 1, none⟩ = some (.slice a1 n1 c1) ∧ v1.cell? ⟨w.heap.size, 2, none⟩ = some (.slice a2 n2 c2)) ∧ (convert 22 9 (.slice x1 y1 u1)).run Try.prog v1 = .ok (.string sn) v1) := KS1.out _ (Below.refl _ _)
    try simp only [Act.put, List.getElem_toArray, List.getElem_cons_succ, List.getElem_cons_zero, List.setIfInBounds_toArray, List.set_cons_zero, List.set_cons_succ]
    refine wpAnyH_take (i := 3) (oi := _) (v := ?vz5) rfl (by kernel_rfl) (by kernel_rfl) (by kernel_rfl) (fun _ _ _ h => h) (Or.inl ⟨by rfl, ?hyz5⟩) (by assumption) ?restz5
    case hyz5 => (intro wq hSw; (try dsimp only at hSw); first | (go_simp; done) | (go_simp; with_reducible rfl))
    try simp only [Act.put, List.getElem_toArray, List.getElem_cons_succ, List.getElem_cons_zero, List.setIfInBounds_toArray, List.set_cons_zero, List.set_cons_succ]
    refine wpAnyH_ready (rs := [6]) (by kernel_rfl) (by simp) ?_
    refine AllReadyH.cons (o := _) rfl (fun KK hKK => ?_) AllReadyH.nil
    go_simp
    refine Calls.mono (H13.out _ CQ1.out) ?_
    rintro e v2 ⟨x2, y2, u2, rfl, g, hb⟩
    have B2 := Lib.hid hb
    have C2 := Lib.hid (CQ1.out.trans (hb.mono CQ1.out.size))
    have KS2 : Hid (∀ W, Below v2.heap.size v2 W → (((W.cell? ⟨w.heap.size, 0, none⟩ = some (.bool neg) ∧ W.cell? ⟨w.heap.size, 1, none⟩ = some (.slice a1 n1 c1) ∧ W.cell? ⟨w.heap.size, 2, none⟩ = some (.slice a2 n2 c2)) ∧ (convert 22 9 (.slice x1 y1 u1)).run Try.prog W = .ok (.string sn) W) ∧ (convert 22 9 (.slice x2 y2 u2)).run Try.prog W = .ok (.string sn) W)) := Lib.hid (fun W hW => ⟨KS1.out _ (hb.trans (hW.mono hb.size)), g W hW⟩)
    clear hb g
    go_wp2_with fail
    refine hKK.out _ _ (KS1.out _ B2.out) (fun hHeld2 => ?_)
    clear hKK KK hHeld hHeld2
    refine wpAnyH_strong (S' := fun w' => (((w'.cell? ⟨w.heap.size, 0, none⟩ = some (.bool neg) ∧ w'.cell? ⟨w.heap.size, 1, none⟩ = some (.slice a1 n1 c1) ∧ w'.cell? ⟨w.heap.size, 2, none⟩ = some (.slice a2 n2 c2)) ∧ (convert 22 9 (.slice x1 y1 u1)).run Try.prog w' = .ok (.string sn) w') ∧ (convert 22 9 (.slice x2 y2 u2)).run Try.prog w' = .ok (.string sn) w')) (fun W h => h.1) _ _ _ _ ?_
    have hHeld : (((v2.cell? ⟨w.heap.size, 0, none⟩ = some (.bool neg) ∧ v2.cell? ⟨w.heap.size, 1, none⟩ = some (.slice a1 n1 c1) ∧ v2.cell? ⟨w.heap.size, 2, none⟩ = some (.slice a2 n2 c2)) ∧ (convert 22 9 (.slice x1 y1 u1)).run Try.prog v2 = .ok (.string sn) v2) ∧ (convert 22 9 (.slice x2 y2 u2)).run Try.prog v2 = .ok (.string sn) v2) := KS2.out _ (Below.refl _ _)
    try simp only [Act.put, List.getElem_toArray, List.getElem_cons_succ, List.getElem_cons_zero, List.setIfInBounds_toArray, List.set_cons_zero, List.set_cons_succ]
    refine wpAnyH_take (i := 7) (oi := _) (v := ?vz6) rfl (by kernel_rfl) (by kernel_rfl) (by kernel_rfl) (fun _ _ _ h => h) (Or.inl ⟨by rfl, ?hyz6⟩) (by assumption) ?restz6
    case hyz6 => (intro wq hSw; (try dsimp only at hSw); first | (go_simp; done) | (go_simp; with_reducible rfl))
    try simp only [Act.put, List.getElem_toArray, List.getElem_cons_succ, List.getElem_cons_zero, List.setIfInBounds_toArray, List.set_cons_zero, List.set_cons_succ]
    refine wpAnyH_take (i := 8) (oi := _) (v := ?vz7) rfl (by kernel_rfl) (by kernel_rfl) (by kernel_rfl) (fun _ _ _ h => h) (Or.inl ⟨by rfl, ?hyz7⟩) (by assumption) ?restz7
    case hyz7 => (intro wq hSw; (try dsimp only at hSw); first | (go_simp; done) | (go_simp; with_reducible rfl))
    try simp only [Act.put, List.getElem_toArray, List.getElem_cons_succ, List.getElem_cons_zero, List.setIfInBounds_toArray, List.set_cons_zero, List.set_cons_succ]
    refine wpAnyH_take (i := 9) (oi := _) (v := ?vz8) rfl (by kernel_rfl) (by kernel_rfl) (by kernel_rfl) (fun _ _ _ h => h) (Or.inl ⟨by rfl, ?hyz8⟩) (by assumption) ?restz8
    case hyz8 => (intro wq hSw; (try dsimp only at hSw); first | (go_simp; done) | (go_simp; with_reducible rfl))
    try simp only [Act.put, List.getElem_toArray, List.getElem_cons_succ, List.getElem_cons_zero, List.setIfInBounds_toArray, List.set_cons_zero, List.set_cons_succ]
    refine wpAnyH_take (i := 10) (oi := _) (v := ?vz9) rfl (by kernel_rfl) (by kernel_rfl) (by kernel_rfl) (fun _ _ _ h => h) (Or.inl ⟨by rfl, ?hyz9⟩) (by assumption) ?restz9
    case hyz9 => (intro wq hSw; (try dsimp only at hSw); first | (go_simp; done) | (go_simp; with_reducible rfl))
    try simp only [Act.put, List.getElem_toArray, List.getElem_cons_succ, List.getElem_cons_zero, List.setIfInBounds_toArray, List.set_cons_zero, List.set_cons_succ]
    refine wpAnyH_take (i := 11) (oi := _) (v := ?vz10) rfl (by kernel_rfl) (by kernel_rfl) (by kernel_rfl) (fun _ _ _ h => h) (Or.inl ⟨by rfl, ?hyz10⟩) (by assumption) ?restz10
    case hyz10 => (intro wq hSw; (try dsimp only at hSw); first | (go_simp; done) | (go_simp; with_reducible rfl))
    try simp only [Act.put, List.getElem_toArray, List.getElem_cons_succ, List.getElem_cons_zero, List.setIfInBounds_toArray, List.set_cons_zero, List.set_cons_succ]
    refine wpAnyH_take (i := 14) (oi := _) (v := ?vz11) rfl (by kernel_rfl) (by kernel_rfl) (by kernel_rfl) (fun _ _ _ h => h) (Or.inl ⟨by rfl, ?hyz11⟩) (by assumption) ?restz11
    case hyz11 => (intro wq hSw; (try dsimp only at hSw); first | (go_simp; done) | (go_simp; with_reducible rfl))
    try simp only [Act.put, List.getElem_toArray, List.getElem_cons_succ, List.getElem_cons_zero, List.setIfInBounds_toArray, List.set_cons_zero, List.set_cons_succ]
    refine wpAnyH_take (i := 15) (oi := _) (v := ?vz12) rfl (by kernel_rfl) (by kernel_rfl) (by kernel_rfl) (fun _ _ _ h => h) (Or.inl ⟨by rfl, ?hyz12⟩) (by assumption) ?restz12
    case hyz12 => (intro wq hSw; (try dsimp only at hSw); first | (go_simp; done) | (go_simp; with_reducible rfl))
    try simp only [Act.put, List.getElem_toArray, List.getElem_cons_succ, List.getElem_cons_zero, List.setIfInBounds_toArray, List.set_cons_zero, List.set_cons_succ]
    refine wpAnyH_ready (rs := [12]) (by kernel_rfl) (by simp) ?_
    refine AllReadyH.cons (o := _) rfl (fun KK hKK => ?_) AllReadyH.nil
    go_simp
    refine Calls.mono (H14.out _ C2.out) ?_
    rintro e v3 ⟨x3, y3, u3, rfl, g, hb⟩
    have B3 := Lib.hid hb
    have C3 := Lib.hid (C2.out.trans (hb.mono C2.out.size))
    have KS3 : Hid (∀ W, Below v3.heap.size v3 W → ((((W.cell? ⟨w.heap.size, 0, none⟩ = some (.bool neg) ∧ W.cell? ⟨w.heap.size, 1, none⟩ = some (.slice a1 n1 c1) ∧ W.cell? ⟨w.heap.size, 2, none⟩ = some (.slice a2 n2 c2)) ∧ (convert 22 9 (.slice x1 y1 u1)).run Try.prog W = .ok (.string sn) W) ∧ (convert 22 9 (.slice x2 y2 u2)).run Try.prog W = .ok (.string sn) W) ∧ (convert 22 9 (.slice x3 y3 u3)).run Try.prog W = .ok (.string sr) W)) := Lib.hid (fun W hW => ⟨KS2.out _ (hb.trans (hW.mono hb.size)), g W hW⟩)
    clear hb g
    go_wp2_with fail
    refine hKK.out _ _ (KS2.out _ B3.out) (fun hHeld2 => ?_)
    clear hKK KK hHeld hHeld2
    refine wpAnyH_strong (S' := fun w' => ((((w'.cell? ⟨w.heap.size, 0, none⟩ = some (.bool neg) ∧ w'.cell? ⟨w.heap.size, 1, none⟩ = some (.slice a1 n1 c1) ∧ w'.cell? ⟨w.heap.size, 2, none⟩ = some (.slice a2 n2 c2)) ∧ (convert 22 9 (.slice x1 y1 u1)).run Try.prog w' = .ok (.string sn) w') ∧ (convert 22 9 (.slice x2 y2 u2)).run Try.prog w' = .ok (.string sn) w') ∧ (convert 22 9 (.slice x3 y3 u3)).run Try.prog w' = .ok (.string sr) w')) (fun W h => h.1) _ _ _ _ ?_
    have hHeld : ((((v3.cell? ⟨w.heap.size, 0, none⟩ = some (.bool neg) ∧ v3.cell? ⟨w.heap.size, 1, none⟩ = some (.slice a1 n1 c1) ∧ v3.cell? ⟨w.heap.size, 2, none⟩ = some (.slice a2 n2 c2)) ∧ (convert 22 9 (.slice x1 y1 u1)).run Try.prog v3 = .ok (.string sn) v3) ∧ (convert 22 9 (.slice x2 y2 u2)).run Try.prog v3 = .ok (.string sn) v3) ∧ (convert 22 9 (.slice x3 y3 u3)).run Try.prog v3 = .ok (.string sr) v3) := KS3.out _ (Below.refl _ _)
    try simp only [Act.put, List.getElem_toArray, List.getElem_cons_succ, List.getElem_cons_zero, List.setIfInBounds_toArray, List.set_cons_zero, List.set_cons_succ]
    refine wpAnyH_take (i := 13) (oi := _) (v := ?vz13) rfl (by kernel_rfl) (by kernel_rfl) (by kernel_rfl) (fun _ _ _ h => h) (Or.inl ⟨by rfl, ?hyz13⟩) (by assumption) ?restz13
    case hyz13 => (intro wq hSw; (try dsimp only at hSw); first | (go_simp; done) | (go_simp; with_reducible rfl))
    try simp only [Act.put, List.getElem_toArray, List.getElem_cons_succ, List.getElem_cons_zero, List.setIfInBounds_toArray, List.set_cons_zero, List.set_cons_succ]
    refine wpAnyH_ready (rs := [16]) (by kernel_rfl) (by simp) ?_
    refine AllReadyH.cons (o := _) rfl (fun KK hKK => ?_) AllReadyH.nil
    go_simp
    refine Calls.mono (H15.out _ C3.out) ?_
    rintro e v4 ⟨x4, y4, u4, rfl, g, hb⟩
    have B4 := Lib.hid hb
    have C4 := Lib.hid (C3.out.trans (hb.mono C3.out.size))
    have KS4 : Hid (∀ W, Below v4.heap.size v4 W → (((((W.cell? ⟨w.heap.size, 0, none⟩ = some (.bool neg) ∧ W.cell? ⟨w.heap.size, 1, none⟩ = some (.slice a1 n1 c1) ∧ W.cell? ⟨w.heap.size, 2, none⟩ = some (.slice a2 n2 c2)) ∧ (convert 22 9 (.slice x1 y1 u1)).run Try.prog W = .ok (.string sn) W) ∧ (convert 22 9 (.slice x2 y2 u2)).run Try.prog W = .ok (.string sn) W) ∧ (convert 22 9 (.slice x3 y3 u3)).run Try.prog W = .ok (.string sr) W) ∧ (convert 22 9 (.slice x4 y4 u4)).run Try.prog W = .ok (.string sr) W)) := Lib.hid (fun W hW => ⟨KS3.out _ (hb.trans (hW.mono hb.size)), g W hW⟩)
    clear hb g
    go_wp2_with fail
    refine hKK.out _ _ (KS3.out _ B4.out) (fun hHeld2 => ?_)
    clear hKK KK hHeld hHeld2
    refine wpAnyH_strong (S' := fun w' => (((((w'.cell? ⟨w.heap.size, 0, none⟩ = some (.bool neg) ∧ w'.cell? ⟨w.heap.size, 1, none⟩ = some (.slice a1 n1 c1) ∧ w'.cell? ⟨w.heap.size, 2, none⟩ = some (.slice a2 n2 c2)) ∧ (convert 22 9 (.slice x1 y1 u1)).run Try.prog w' = .ok (.string sn) w') ∧ (convert 22 9 (.slice x2 y2 u2)).run Try.prog w' = .ok (.string sn) w') ∧ (convert 22 9 (.slice x3 y3 u3)).run Try.prog w' = .ok (.string sr) w') ∧ (convert 22 9 (.slice x4 y4 u4)).run Try.prog w' = .ok (.string sr) w')) (fun W h => h.1) _ _ _ _ ?_
    have hHeld : (((((v4.cell? ⟨w.heap.size, 0, none⟩ = some (.bool neg) ∧ v4.cell? ⟨w.heap.size, 1, none⟩ = some (.slice a1 n1 c1) ∧ v4.cell? ⟨w.heap.size, 2, none⟩ = some (.slice a2 n2 c2)) ∧ (convert 22 9 (.slice x1 y1 u1)).run Try.prog v4 = .ok (.string sn) v4) ∧ (convert 22 9 (.slice x2 y2 u2)).run Try.prog v4 = .ok (.string sn) v4) ∧ (convert 22 9 (.slice x3 y3 u3)).run Try.prog v4 = .ok (.string sr) v4) ∧ (convert 22 9 (.slice x4 y4 u4)).run Try.prog v4 = .ok (.string sr) v4) := KS4.out _ (Below.refl _ _)
    try simp only [Act.put, List.getElem_toArray, List.getElem_cons_succ, List.getElem_cons_zero, List.setIfInBounds_toArray, List.set_cons_zero, List.set_cons_succ]
    refine wpAnyH_take (i := 17) (oi := _) (v := ?vz14) rfl (by kernel_rfl) (by kernel_rfl) (by kernel_rfl) (fun _ _ _ h => h) (Or.inl ⟨by rfl, ?hyz14⟩) (by assumption) ?restz14
    case hyz14 => (intro wq hSw; (try dsimp only at hSw); first | (go_simp; done) | (go_simp; with_reducible rfl))
    try simp only [Act.put, List.getElem_toArray, List.getElem_cons_succ, List.getElem_cons_zero, List.setIfInBounds_toArray, List.set_cons_zero, List.set_cons_succ]
    refine wpAnyH_take (i := 18) (oi := _) (v := ?vz15) rfl (by kernel_rfl) (by kernel_rfl) (by kernel_rfl) (fun _ _ _ h => h) (Or.inl ⟨by rfl, ?hyz15⟩) (by assumption) ?restz15
    case hyz15 => (intro wq hSw; (try dsimp only at hSw); first | (go_simp; done) | (go_simp; with_reducible rfl))
    try simp only [Act.put, List.getElem_toArray, List.getElem_cons_succ, List.getElem_cons_zero, List.setIfInBounds_toArray, List.set_cons_zero, List.set_cons_succ]
    refine wpAnyH_take (i := 19) (oi := _) (v := ?vz16) rfl (by kernel_rfl) (by kernel_rfl) (by kernel_rfl) (fun _ _ _ h => h) (Or.inl ⟨by rfl, ?hyz16⟩) (by assumption) ?restz16
    case hyz16 => (intro wq hSw; (try dsimp only at hSw); first | (go_simp; done) | (go_simp; with_reducible rfl))
    try simp only [Act.put, List.getElem_toArray, List.getElem_cons_succ, List.getElem_cons_zero, List.setIfInBounds_toArray, List.set_cons_zero, List.set_cons_succ]
    refine wpAnyH_take (i := 20) (oi := _) (v := ?vz17) rfl (by kernel_rfl) (by kernel_rfl) (by kernel_rfl) (fun _ _ _ h => h) (Or.inl ⟨by rfl, ?hyz17⟩) (by assumption) ?restz17
    case hyz17 => (intro wq hSw; (try dsimp only at hSw); first | (go_simp; done) | (go_simp; with_reducible rfl))
    try simp only [Act.put, List.getElem_toArray, List.getElem_cons_succ, List.getElem_cons_zero, List.setIfInBounds_toArray, List.set_cons_zero, List.set_cons_succ]
    refine wpAnyH_done (by kernel_rfl) ?_ _
    try go_simp
    clear hHeld
    go_wp2
    refine bodyPost_ret (results_tmp rfl _ _ _) rfl ?_
    exact ⟨rfl, C1.out.trans (C4.out.mono C1.out.size)⟩

end Go.Proofs.Ytbdmljdcipcanaa
