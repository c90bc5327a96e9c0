/- AppendRat. -/
import Derived.Test.YtcdkehghdhcokaaDoorW8
import Derived.Deep.RegionHeld3
import Derived.Deep.Cut
namespace Go.Proofs.YtcdkehghdhcokaaDoor.wr
open Go.RowKit
set_option linter.unusedVariables false

theorem nb_len2 {L : List Int} {n : Nat} (h : L.length = n) (hn : n ≤ 100) : (nb L).length ≤ 410 := by
  unfold nb
  rw [List.length_append, by4_len]
  have := grp_len10 (n := L.length) (by omega)
  omega
set_option linter.unusedSimpArgs false
set_option maxHeartbeats 8000000 in
set_option maxRecDepth 100000 in
theorem appendRat_c (a0 : Option Addr) (n0 c0 : Nat) (A : List Int) (neg : Bool) (a1 : Option Addr) (n1 c1 : Nat) (L1 : List Int) (a2 : Option Addr) (n2 c2 : Nat) (L2 : List Int) (w : World) (h0 : SlB w a0 n0 c0 A) (h1 : SlW w a1 n1 c1 L1) (h2 : SlW w a2 n2 c2 L2) (hn0 : n0 ≤ 3000) (hn1 : n1 ≤ 100) (hn2 : n2 ≤ 100) :
    Calls Tryd.prog 16 #[.slice a0 n0 c0, .agg #[.bool neg, .slice a1 n1 c1, .slice a2 n2 c2]] w fun e w' => Gives w (A ++ ([if neg then 1 else 0] ++ nb L1 ++ nb L2)) e w' := by
  have H0 := Lib.hid h0
  have H1 := Lib.hid h1
  have H2 := Lib.hid h2
  clear h0 h1 h2
  cases neg with
  | false =>
    go_enter Tryd.func16, Tryd.ntmps16
    obtain ⟨wb, hwb⟩ : ∃ wb, w.alloc (.cells #[.bool false, .slice a1 n1 c1, .slice a2 n2 c2] 37) = wb := ⟨_, rfl⟩
    have hsz : wb.heap.size = w.heap.size + 1 := by rw [← hwb]; simp
    have BW : Hid (Below w.heap.size w wb) := Lib.hid (by rw [← hwb]; exact Below.newBlock _)
    have H1b := Lib.hid (H1.out.below BW.out)
    have H2b := Lib.hid (H2.out.below BW.out)
    have nl1 := Lib.hid (nb_len2 (L := L1) H1.out.1 hn1)
    have nl2 := Lib.hid (nb_len2 (L := L2) H2.out.1 hn2)
    have KS : Hid (∀ W, Below wb.heap.size wb W → W.cell? ⟨w.heap.size, 1, none⟩ = some (.slice a1 n1 c1) ∧ W.cell? ⟨w.heap.size, 2, none⟩ = some (.slice a2 n2 c2)) := Lib.hid (fun W hW => ⟨(hW.cell (p := ⟨w.heap.size, 1, none⟩) (by rw [hsz]; exact Nat.lt_succ_self _)).trans (by rw [← hwb, cell_of_row _ w.heap.size 1 _ 37 (0, 0) (heap_alloc_new w _)]; rfl), (hW.cell (p := ⟨w.heap.size, 2, none⟩) (by rw [hsz]; exact Nat.lt_succ_self _)).trans (by rw [← hwb, cell_of_row _ w.heap.size 2 _ 37 (0, 0) (heap_alloc_new w _)]; rfl)⟩)
    have HWB := Lib.hid hwb
    clear hwb
    go_upto_region 4 with (fail)
    have BX : Hid (Below wb.heap.size wb (wb.alloc (.cells #[.int .u8 0] 5)).drew) := Lib.hid (below_drewN (Below.newBlock _) 1)
    have OX : Hid (OwnB (wb.alloc (.cells #[.int .u8 0] 5)).drew wb.heap.size (.slice (some ⟨w.heap.size + 1, 0, none⟩) 1 1) [0]) := Lib.hid (by rw [← hsz]; exact OwnB.made (Nat.le_refl _) [0] (by simp))
    have HL1 := Lib.hid (limbs_c wb _ _ a1 n1 c1 L1 _ OX.out BX.out H1b.out (by simp) (by omega))
    rw [HWB.out]
    refine wp_region_held_drew (S := (fun w' => w'.cell? ⟨w.heap.size, 1, none⟩ = some (.slice a1 n1 c1) ∧ w'.cell? ⟨w.heap.size, 2, none⟩ = some (.slice a2 n2 c2))) (by kernel_rfl) (KS.out _ BX.out) (fun hHeld => ?_)
    refine wpAnyH_take (i := 0) (oi := _) (v := ?vA0) rfl (by kernel_rfl) (by kernel_rfl) (by kernel_rfl) (fun _ _ _ h => h) (Or.inl ⟨by rfl, ?hyA0⟩) (by assumption) ?restA0
    case hyA0 => (intro wq hSw; (try dsimp only at hSw); first | (go_simp; done) | (go_simp; with_reducible rfl))
    try simp only [Act.put, List.getElem_toArray, List.getElem_cons_succ, List.getElem_cons_zero, List.setIfInBounds_toArray, List.set_cons_zero, List.set_cons_succ]
    refine wpAnyH_take (i := 1) (oi := _) (v := ?vA1) rfl (by kernel_rfl) (by kernel_rfl) (by kernel_rfl) (fun _ _ _ h => h) (Or.inl ⟨by rfl, ?hyA1⟩) (by assumption) ?restA1
    case hyA1 => (intro wq hSw; (try dsimp only at hSw); first | (go_simp; done) | (go_simp; with_reducible rfl))
    try simp only [Act.put, List.getElem_toArray, List.getElem_cons_succ, List.getElem_cons_zero, List.setIfInBounds_toArray, List.set_cons_zero, List.set_cons_succ]
    refine wpAnyH_take (i := 2) (oi := _) (v := ?vA2) rfl (by kernel_rfl) (by kernel_rfl) (by kernel_rfl) (fun _ _ _ h => h) (Or.inl ⟨by rfl, ?hyA2⟩) (by assumption) ?restA2
    case hyA2 => (intro wq hSw; (try dsimp only at hSw); first | (go_simp; done) | (go_simp; with_reducible rfl))
    try simp only [Act.put, List.getElem_toArray, List.getElem_cons_succ, List.getElem_cons_zero, List.setIfInBounds_toArray, List.set_cons_zero, List.set_cons_succ]
    refine wpAnyH_take (i := 3) (oi := _) (v := ?vA3) rfl (by kernel_rfl) (by kernel_rfl) (by kernel_rfl) (fun _ _ _ h => h) (Or.inl ⟨by rfl, ?hyA3⟩) (by assumption) ?restA3
    case hyA3 => (intro wq hSw; (try dsimp only at hSw); first | (go_simp; done) | (go_simp; with_reducible rfl))
    try simp only [Act.put, List.getElem_toArray, List.getElem_cons_succ, List.getElem_cons_zero, List.setIfInBounds_toArray, List.set_cons_zero, List.set_cons_succ]
    refine wpAnyH_take (i := 5) (oi := _) (v := ?vA5) rfl (by kernel_rfl) (by kernel_rfl) (by kernel_rfl) (fun _ _ _ h => h) (Or.inl ⟨by rfl, ?hyA5⟩) (by assumption) ?restA5
    case hyA5 => (intro wq hSw; (try dsimp only at hSw); first | (go_simp; done) | (go_simp; with_reducible rfl))
    try simp only [Act.put, List.getElem_toArray, List.getElem_cons_succ, List.getElem_cons_zero, List.setIfInBounds_toArray, List.set_cons_zero, List.set_cons_succ]
    refine wpAnyH_take (i := 6) (oi := _) (v := ?vA6) rfl (by kernel_rfl) (by kernel_rfl) (by kernel_rfl) (fun _ _ _ h => h) (Or.inl ⟨by rfl, ?hyA6⟩) (by assumption) ?restA6
    case hyA6 => (intro wq hSw; (try dsimp only at hSw); first | (go_simp; done) | (go_simp; with_reducible rfl))
    try simp only [Act.put, List.getElem_toArray, List.getElem_cons_succ, List.getElem_cons_zero, List.setIfInBounds_toArray, List.set_cons_zero, List.set_cons_succ]
    refine wpAnyH_ready (rs := [4]) (by kernel_rfl) (by simp) ?_
    refine AllReadyH.cons (o := _) rfl (fun KK hKK => ?_) AllReadyH.nil
    go_simp
    refine Calls.mono (HL1.out) ?_
    rintro e w4 ⟨v4, rfl, hO4, hb4⟩
    have O4 := Lib.hid hO4
    have B4 := Lib.hid hb4
    clear hO4 hb4
    have HL2 := Lib.hid (limbs_c wb v4 _ a2 n2 c2 L2 w4 O4.out B4.out H2b.out (by rw [List.length_append]; have := nl1.out; simp; omega) (by omega))
    go_wp2_with fail
    refine hKK.out _ _ (KS.out _ B4.out) (fun hHeld2 => ?_)
    clear hKK KK hHeld
    have hHeld := hHeld2
    clear hHeld2
    try simp only [Act.put, List.getElem_toArray, List.getElem_cons_succ, List.getElem_cons_zero, List.setIfInBounds_toArray, List.set_cons_zero, List.set_cons_succ]
    refine wpAnyH_ready (rs := [7]) (by kernel_rfl) (by simp) ?_
    refine AllReadyH.cons (o := _) rfl (fun KK hKK => ?_) AllReadyH.nil
    go_simp
    refine Calls.mono (HL2.out) ?_
    rintro e w5 ⟨v5, rfl, hO5, hb5⟩
    have B5 := Lib.hid hb5
    obtain ⟨a5, c5, hv5⟩ := hO5.slice
    obtain ⟨z5, hz5⟩ : ∃ z, ([0] ++ nb L1 ++ nb L2).length = z := ⟨_, rfl⟩
    have Z5 := Lib.hid hz5
    rw [hz5] at hv5
    clear hz5
    subst hv5
    have S5 := Lib.hid (hO5.sl Z5.out)
    clear hO5 hb5
    have HE := Lib.hid (extend_c a0 n0 c0 A a5 z5 c5 _ w5 (H0.out.below (BW.out.trans (B5.out.mono BW.out.size))) S5.out (by rw [← Z5.out, List.length_append, List.length_append]; have := nl1.out; have := nl2.out; simp; omega))
    go_wp2_with fail
    refine hKK.out _ _ (KS.out _ B5.out) (fun hHeld2 => ?_)
    clear hKK KK hHeld
    have hHeld := hHeld2
    clear hHeld2
    try simp only [Act.put, List.getElem_toArray, List.getElem_cons_succ, List.getElem_cons_zero, List.setIfInBounds_toArray, List.set_cons_zero, List.set_cons_succ]
    refine wpAnyH_ready (rs := [8]) (by kernel_rfl) (by simp) ?_
    refine AllReadyH.cons (o := _) rfl (fun KK hKK => ?_) AllReadyH.nil
    go_simp
    refine Calls.mono (HE.out) ?_
    rintro e w6 ⟨v6, rfl, hO6, hb6⟩
    have O6 := Lib.hid (hO6.le (base' := w.heap.size) (by have := BW.out.size; have := B5.out.size; omega))
    have B6 := Lib.hid (B5.out.trans (hb6.mono B5.out.size))
    clear hO6 hb6
    go_wp2_with fail
    refine hKK.out _ _ (KS.out _ B6.out) (fun hHeld2 => ?_)
    clear hKK KK hHeld
    have hHeld := hHeld2
    clear hHeld2
    try simp only [Act.put, List.getElem_toArray, List.getElem_cons_succ, List.getElem_cons_zero, List.setIfInBounds_toArray, List.set_cons_zero, List.set_cons_succ]
    refine wpAnyH_take (i := 9) (oi := _) (v := ?vA9) rfl (by kernel_rfl) (by kernel_rfl) (by kernel_rfl) (fun _ _ _ h => h) (Or.inl ⟨by rfl, ?hyA9⟩) (by assumption) ?restA9
    case hyA9 => (intro wq hSw; (try dsimp only at hSw); first | (go_simp; done) | (go_simp; with_reducible rfl))
    try simp only [Act.put, List.getElem_toArray, List.getElem_cons_succ, List.getElem_cons_zero, List.setIfInBounds_toArray, List.set_cons_zero, List.set_cons_succ]
    refine wpAnyH_done (by kernel_rfl) ?_ _
    try go_simp
    clear hHeld
    go_wp2
    refine bodyPost_ret (results_tmp rfl _ _ _) rfl ?_
    exact ⟨_, rfl, O6.out, BW.out.trans (B6.out.mono BW.out.size)⟩
  | true =>
    go_enter Tryd.func16, Tryd.ntmps16
    obtain ⟨wb, hwb⟩ : ∃ wb, w.alloc (.cells #[.bool true, .slice a1 n1 c1, .slice a2 n2 c2] 37) = wb := ⟨_, rfl⟩
    have hsz : wb.heap.size = w.heap.size + 1 := by rw [← hwb]; simp
    have BW : Hid (Below w.heap.size w wb) := Lib.hid (by rw [← hwb]; exact Below.newBlock _)
    have H1b := Lib.hid (H1.out.below BW.out)
    have H2b := Lib.hid (H2.out.below BW.out)
    have nl1 := Lib.hid (nb_len2 (L := L1) H1.out.1 hn1)
    have nl2 := Lib.hid (nb_len2 (L := L2) H2.out.1 hn2)
    have KS : Hid (∀ W, Below wb.heap.size wb W → W.cell? ⟨w.heap.size, 1, none⟩ = some (.slice a1 n1 c1) ∧ W.cell? ⟨w.heap.size, 2, none⟩ = some (.slice a2 n2 c2)) := Lib.hid (fun W hW => ⟨(hW.cell (p := ⟨w.heap.size, 1, none⟩) (by rw [hsz]; exact Nat.lt_succ_self _)).trans (by rw [← hwb, cell_of_row _ w.heap.size 1 _ 37 (0, 0) (heap_alloc_new w _)]; rfl), (hW.cell (p := ⟨w.heap.size, 2, none⟩) (by rw [hsz]; exact Nat.lt_succ_self _)).trans (by rw [← hwb, cell_of_row _ w.heap.size 2 _ 37 (0, 0) (heap_alloc_new w _)]; rfl)⟩)
    have HWB := Lib.hid hwb
    clear hwb
    go_upto_region 4 with (fail)
    have BX : Hid (Below wb.heap.size wb (wb.alloc (.cells #[.int .u8 1] 5)).drew) := Lib.hid (below_drewN (Below.newBlock _) 1)
    have OX : Hid (OwnB (wb.alloc (.cells #[.int .u8 1] 5)).drew wb.heap.size (.slice (some ⟨w.heap.size + 1, 0, none⟩) 1 1) [1]) := Lib.hid (by rw [← hsz]; exact OwnB.made (Nat.le_refl _) [1] (by simp))
    have HL1 := Lib.hid (limbs_c wb _ _ a1 n1 c1 L1 _ OX.out BX.out H1b.out (by simp) (by omega))
    rw [HWB.out]
    refine wp_region_held_drew (S := (fun w' => w'.cell? ⟨w.heap.size, 1, none⟩ = some (.slice a1 n1 c1) ∧ w'.cell? ⟨w.heap.size, 2, none⟩ = some (.slice a2 n2 c2))) (by kernel_rfl) (KS.out _ BX.out) (fun hHeld => ?_)
    refine wpAnyH_take (i := 0) (oi := _) (v := ?vB0) rfl (by kernel_rfl) (by kernel_rfl) (by kernel_rfl) (fun _ _ _ h => h) (Or.inl ⟨by rfl, ?hyB0⟩) (by assumption) ?restB0
    case hyB0 => (intro wq hSw; (try dsimp only at hSw); first | (go_simp; done) | (go_simp; with_reducible rfl))
    try simp only [Act.put, List.getElem_toArray, List.getElem_cons_succ, List.getElem_cons_zero, List.setIfInBounds_toArray, List.set_cons_zero, List.set_cons_succ]
    refine wpAnyH_take (i := 1) (oi := _) (v := ?vB1) rfl (by kernel_rfl) (by kernel_rfl) (by kernel_rfl) (fun _ _ _ h => h) (Or.inl ⟨by rfl, ?hyB1⟩) (by assumption) ?restB1
    case hyB1 => (intro wq hSw; (try dsimp only at hSw); first | (go_simp; done) | (go_simp; with_reducible rfl))
    try simp only [Act.put, List.getElem_toArray, List.getElem_cons_succ, List.getElem_cons_zero, List.setIfInBounds_toArray, List.set_cons_zero, List.set_cons_succ]
    refine wpAnyH_take (i := 2) (oi := _) (v := ?vB2) rfl (by kernel_rfl) (by kernel_rfl) (by kernel_rfl) (fun _ _ _ h => h) (Or.inl ⟨by rfl, ?hyB2⟩) (by assumption) ?restB2
    case hyB2 => (intro wq hSw; (try dsimp only at hSw); first | (go_simp; done) | (go_simp; with_reducible rfl))
    try simp only [Act.put, List.getElem_toArray, List.getElem_cons_succ, List.getElem_cons_zero, List.setIfInBounds_toArray, List.set_cons_zero, List.set_cons_succ]
    refine wpAnyH_take (i := 3) (oi := _) (v := ?vB3) rfl (by kernel_rfl) (by kernel_rfl) (by kernel_rfl) (fun _ _ _ h => h) (Or.inl ⟨by rfl, ?hyB3⟩) (by assumption) ?restB3
    case hyB3 => (intro wq hSw; (try dsimp only at hSw); first | (go_simp; done) | (go_simp; with_reducible rfl))
    try simp only [Act.put, List.getElem_toArray, List.getElem_cons_succ, List.getElem_cons_zero, List.setIfInBounds_toArray, List.set_cons_zero, List.set_cons_succ]
    refine wpAnyH_take (i := 5) (oi := _) (v := ?vB5) rfl (by kernel_rfl) (by kernel_rfl) (by kernel_rfl) (fun _ _ _ h => h) (Or.inl ⟨by rfl, ?hyB5⟩) (by assumption) ?restB5
    case hyB5 => (intro wq hSw; (try dsimp only at hSw); first | (go_simp; done) | (go_simp; with_reducible rfl))
    try simp only [Act.put, List.getElem_toArray, List.getElem_cons_succ, List.getElem_cons_zero, List.setIfInBounds_toArray, List.set_cons_zero, List.set_cons_succ]
    refine wpAnyH_take (i := 6) (oi := _) (v := ?vB6) rfl (by kernel_rfl) (by kernel_rfl) (by kernel_rfl) (fun _ _ _ h => h) (Or.inl ⟨by rfl, ?hyB6⟩) (by assumption) ?restB6
    case hyB6 => (intro wq hSw; (try dsimp only at hSw); first | (go_simp; done) | (go_simp; with_reducible rfl))
    try simp only [Act.put, List.getElem_toArray, List.getElem_cons_succ, List.getElem_cons_zero, List.setIfInBounds_toArray, List.set_cons_zero, List.set_cons_succ]
    refine wpAnyH_ready (rs := [4]) (by kernel_rfl) (by simp) ?_
    refine AllReadyH.cons (o := _) rfl (fun KK hKK => ?_) AllReadyH.nil
    go_simp
    refine Calls.mono (HL1.out) ?_
    rintro e w4 ⟨v4, rfl, hO4, hb4⟩
    have O4 := Lib.hid hO4
    have B4 := Lib.hid hb4
    clear hO4 hb4
    have HL2 := Lib.hid (limbs_c wb v4 _ a2 n2 c2 L2 w4 O4.out B4.out H2b.out (by rw [List.length_append]; have := nl1.out; simp; omega) (by omega))
    go_wp2_with fail
    refine hKK.out _ _ (KS.out _ B4.out) (fun hHeld2 => ?_)
    clear hKK KK hHeld
    have hHeld := hHeld2
    clear hHeld2
    try simp only [Act.put, List.getElem_toArray, List.getElem_cons_succ, List.getElem_cons_zero, List.setIfInBounds_toArray, List.set_cons_zero, List.set_cons_succ]
    refine wpAnyH_ready (rs := [7]) (by kernel_rfl) (by simp) ?_
    refine AllReadyH.cons (o := _) rfl (fun KK hKK => ?_) AllReadyH.nil
    go_simp
    refine Calls.mono (HL2.out) ?_
    rintro e w5 ⟨v5, rfl, hO5, hb5⟩
    have B5 := Lib.hid hb5
    obtain ⟨a5, c5, hv5⟩ := hO5.slice
    obtain ⟨z5, hz5⟩ : ∃ z, ([1] ++ nb L1 ++ nb L2).length = z := ⟨_, rfl⟩
    have Z5 := Lib.hid hz5
    rw [hz5] at hv5
    clear hz5
    subst hv5
    have S5 := Lib.hid (hO5.sl Z5.out)
    clear hO5 hb5
    have HE := Lib.hid (extend_c a0 n0 c0 A a5 z5 c5 _ w5 (H0.out.below (BW.out.trans (B5.out.mono BW.out.size))) S5.out (by rw [← Z5.out, List.length_append, List.length_append]; have := nl1.out; have := nl2.out; simp; omega))
    go_wp2_with fail
    refine hKK.out _ _ (KS.out _ B5.out) (fun hHeld2 => ?_)
    clear hKK KK hHeld
    have hHeld := hHeld2
    clear hHeld2
    try simp only [Act.put, List.getElem_toArray, List.getElem_cons_succ, List.getElem_cons_zero, List.setIfInBounds_toArray, List.set_cons_zero, List.set_cons_succ]
    refine wpAnyH_ready (rs := [8]) (by kernel_rfl) (by simp) ?_
    refine AllReadyH.cons (o := _) rfl (fun KK hKK => ?_) AllReadyH.nil
    go_simp
    refine Calls.mono (HE.out) ?_
    rintro e w6 ⟨v6, rfl, hO6, hb6⟩
    have O6 := Lib.hid (hO6.le (base' := w.heap.size) (by have := BW.out.size; have := B5.out.size; omega))
    have B6 := Lib.hid (B5.out.trans (hb6.mono B5.out.size))
    clear hO6 hb6
    go_wp2_with fail
    refine hKK.out _ _ (KS.out _ B6.out) (fun hHeld2 => ?_)
    clear hKK KK hHeld
    have hHeld := hHeld2
    clear hHeld2
    try simp only [Act.put, List.getElem_toArray, List.getElem_cons_succ, List.getElem_cons_zero, List.setIfInBounds_toArray, List.set_cons_zero, List.set_cons_succ]
    refine wpAnyH_take (i := 9) (oi := _) (v := ?vB9) rfl (by kernel_rfl) (by kernel_rfl) (by kernel_rfl) (fun _ _ _ h => h) (Or.inl ⟨by rfl, ?hyB9⟩) (by assumption) ?restB9
    case hyB9 => (intro wq hSw; (try dsimp only at hSw); first | (go_simp; done) | (go_simp; with_reducible rfl))
    try simp only [Act.put, List.getElem_toArray, List.getElem_cons_succ, List.getElem_cons_zero, List.setIfInBounds_toArray, List.set_cons_zero, List.set_cons_succ]
    refine wpAnyH_done (by kernel_rfl) ?_ _
    try go_simp
    clear hHeld
    go_wp2
    refine bodyPost_ret (results_tmp rfl _ _ _) rfl ?_
    exact ⟨_, rfl, O6.out, BW.out.trans (B6.out.mono BW.out.size)⟩

end Go.Proofs.YtcdkehghdhcokaaDoor.wr
