/- The reference's AppendRat. -/
import Derived.Test.YtbdmljdcipcanaaV21
import Derived.Test.YtbdmljdcipcanaaV22
import Derived.Deep.RegionHeld3
import Derived.Deep.Cut
namespace Go.Proofs.Ytbdmljdcipcanaa
open Go.RowKit
set_option linter.unusedVariables false

set_option linter.unusedSimpArgs false
theorem slb_grown {w w' : World} {ad : Option Addr} {n cap H : Nat} {l : List Int} (h : SlB w ad n cap l) (hg : w.grownBy w' (some H)) (hne : ∀ b off, ad = some ⟨b, off, none⟩ → b ≠ H) : SlB w' ad n cap l := by
  obtain ⟨h1, h2, h3, h0, h4⟩ := h
  refine ⟨h1, h2, h3, h0, ?_⟩
  rcases h4 with h4 | ⟨b, off, e, hlt, hc⟩
  · exact .inl h4
  · exact .inr ⟨b, off, e, Nat.lt_of_lt_of_le hlt hg.size, fun i hi => hg.cell (hc i hi) (by simpa using hne b off e)⟩
/-- an append of bytes to bytes of one's own, as a run -/
theorem app_bs2 (w : World) (base : Nat) (v : Value) (L : List Int) (u : Value) (n : Nat) (M : List Int) (ho : OwnB w base v L) (hM : Src Try.prog 1 22 u n (vals .u8 M) w) (hn : M.length = n) (hl : L.length + n ≤ 100000) (hb : base ≤ w.heap.size) :
    ∃ v' w', (Builtin.append_ #[22, 22] 22 #[v, u]).run Try.prog w = .ok v' w' ∧ OwnB w' base v' (L ++ M) ∧ w.grownBy w' v.ownBlock ∧ Below base w w' := by
  obtain ⟨i0, hi0, hz0, hz1, hz2⟩ := info_parts info8
  obtain ⟨v', w', hr, hO, hG⟩ := run_append_own_src (P := Try.prog) w base 22 22 22 5 i0 (.int .u8 0) 1 1 Try.underlying22 hi0 hz0 hz1 hz2 rfl (by decide) v L.length (vals .u8 L) ho u n (vals .u8 M) hM (by unfold maxLen; omega) (by omega) hb
  refine ⟨v', w', hr, ?_, hG, (Below.refl base w).grown hG hb (fun j hj => (World.ownsRow.lt ho j hj).1)⟩
  unfold OwnB
  rw [List.length_append, hn, vals_append]
  exact hO
theorem app_bs (w : World) (base : Nat) (v : Value) (L : List Int) (u : Value) (n : Nat) (M : List Int) (ho : OwnB w base v L) (hM : Src Try.prog 1 22 u n (vals .u8 M) w) (hn : M.length = n) (hl : L.length + n ≤ 100000) (hb : base ≤ w.heap.size) :
    ∃ v' w', (Builtin.append_ #[22, 22] 22 #[v, u]).run Try.prog w = .ok v' w' ∧ OwnB w' base v' (L ++ M) ∧ Below base w w' := by
  obtain ⟨v', w', h1, h2, h3, h4⟩ := app_bs2 w base v L u n M ho hM hn hl hb
  exact ⟨v', w', h1, h2, h4⟩
set_option maxHeartbeats 8000000 in
set_option maxRecDepth 100000 in
theorem rappendRat_c (a0 : Option Addr) (n0 c0 : Nat) (A : List Int) (neg : Bool) (a1 : Option Addr) (n1 c1 : Nat) (L1 : List Int) (a2 : Option Addr) (n2 c2 : Nat) (L2 : List Int) (w : World) (h0 : SlB w a0 n0 c0 A) (h1 : SlW w a1 n1 c1 L1) (h2 : SlW w a2 n2 c2 L2) (hn0 : n0 ≤ 3000) (hn1 : n1 ≤ 100) (hn2 : n2 ≤ 100) :
    Calls Try.prog 15 #[.slice a0 n0 c0, .agg #[.bool neg, .slice a1 n1 c1, .slice a2 n2 c2]] w fun e w' => Gives w (A ++ ([if neg then 1 else 0] ++ nb L1 ++ nb L2)) e w' := by
  have H0 := Lib.hid h0
  have H1 := Lib.hid h1
  have H2 := Lib.hid h2
  have HA : Hid (A.length = n0) := Lib.hid h0.1
  clear h0 h1 h2
  cases neg with
  | false =>
    go_enter Try.func15, Try.ntmps15
    obtain ⟨wb, hwb⟩ : ∃ wb, w.alloc (.cells #[.bool false, .slice a1 n1 c1, .slice a2 n2 c2] 31) = wb := ⟨_, rfl⟩
    have hsz : wb.heap.size = w.heap.size + 1 := by rw [← hwb]; simp
    have BW : Hid (Below w.heap.size w wb) := Lib.hid (by rw [← hwb]; exact Below.newBlock _)
    have H0b := Lib.hid (H0.out.below BW.out)
    have H1b := Lib.hid (H1.out.below BW.out)
    have H2b := Lib.hid (H2.out.below BW.out)
    have nl1 := Lib.hid (nb_len2 (L := L1) H1.out.1 hn1)
    have nl2 := Lib.hid (nb_len2 (L := L2) H2.out.1 hn2)
    have KS : Hid (∀ W, Below wb.heap.size wb W → W.cell? ⟨w.heap.size, 1, none⟩ = some (.slice a1 n1 c1) ∧ W.cell? ⟨w.heap.size, 2, none⟩ = some (.slice a2 n2 c2)) := Lib.hid (fun W hW => ⟨(hW.cell (p := ⟨w.heap.size, 1, none⟩) (by rw [hsz]; exact Nat.lt_succ_self _)).trans (by rw [← hwb, cell_of_row _ w.heap.size 1 _ 31 (0, 0) (heap_alloc_new w _)]; rfl), (hW.cell (p := ⟨w.heap.size, 2, none⟩) (by rw [hsz]; exact Nat.lt_succ_self _)).trans (by rw [← hwb, cell_of_row _ w.heap.size 2 _ 31 (0, 0) (heap_alloc_new w _)]; rfl)⟩)
    have HSZ := Lib.hid hsz
    have HWB := Lib.hid hwb
    clear hwb hsz
    go_upto_region 4 with (fail)
    have BD : Hid (Below wb.heap.size wb wb.drew) := Lib.hid (below_drewN (Below.refl _ _) 1)
    rw [HWB.out]
    refine wp_region_held_drew (S := (fun w' => w'.cell? ⟨w.heap.size, 1, none⟩ = some (.slice a1 n1 c1) ∧ w'.cell? ⟨w.heap.size, 2, none⟩ = some (.slice a2 n2 c2))) (by kernel_rfl) (KS.out _ BD.out) (fun hHeld => ?_)
    refine wpAnyH_take (i := 1) (oi := _) (v := ?vz1) rfl (by kernel_rfl) (by kernel_rfl) (by kernel_rfl) (fun _ _ _ h => h) (Or.inl ⟨by rfl, ?hyz1⟩) (by assumption) ?restz1
    case hyz1 => (intro wq hSw; (try dsimp only at hSw); first | (go_simp; done) | (go_simp; with_reducible rfl))
    try simp only [Act.put, List.getElem_toArray, List.getElem_cons_succ, List.getElem_cons_zero, List.setIfInBounds_toArray, List.set_cons_zero, List.set_cons_succ]
    refine wpAnyH_take (i := 3) (oi := _) (v := ?vz2) rfl (by kernel_rfl) (by kernel_rfl) (by kernel_rfl) (fun _ _ _ h => h) (Or.inl ⟨by rfl, ?hyz2⟩) (by assumption) ?restz2
    case hyz2 => (intro wq hSw; (try dsimp only at hSw); first | (go_simp; done) | (go_simp; with_reducible rfl))
    try simp only [Act.put, List.getElem_toArray, List.getElem_cons_succ, List.getElem_cons_zero, List.setIfInBounds_toArray, List.set_cons_zero, List.set_cons_succ]
    refine wpAnyH_take (i := 6) (oi := _) (v := ?vz3) rfl (by kernel_rfl) (by kernel_rfl) (by kernel_rfl) (fun _ _ _ h => h) (Or.inl ⟨by rfl, ?hyz3⟩) (by assumption) ?restz3
    case hyz3 => (intro wq hSw; (try dsimp only at hSw); first | (go_simp; done) | (go_simp; with_reducible rfl))
    try simp only [Act.put, List.getElem_toArray, List.getElem_cons_succ, List.getElem_cons_zero, List.setIfInBounds_toArray, List.set_cons_zero, List.set_cons_succ]
    refine wpAnyH_take (i := 7) (oi := _) (v := ?vz4) rfl (by kernel_rfl) (by kernel_rfl) (by kernel_rfl) (fun _ _ _ h => h) (Or.inl ⟨by rfl, ?hyz4⟩) (by assumption) ?restz4
    case hyz4 => (intro wq hSw; (try dsimp only at hSw); first | (go_simp; done) | (go_simp; with_reducible rfl))
    try simp only [Act.put, List.getElem_toArray, List.getElem_cons_succ, List.getElem_cons_zero, List.setIfInBounds_toArray, List.set_cons_zero, List.set_cons_succ]
    refine wpAnyH_take (i := 9) (oi := _) (v := ?vz5) rfl (by kernel_rfl) (by kernel_rfl) (by kernel_rfl) (fun _ _ _ h => h) (Or.inl ⟨by rfl, ?hyz5⟩) (by assumption) ?restz5
    case hyz5 => (intro wq hSw; (try dsimp only at hSw); first | (go_simp; done) | (go_simp; with_reducible rfl))
    try simp only [Act.put, List.getElem_toArray, List.getElem_cons_succ, List.getElem_cons_zero, List.setIfInBounds_toArray, List.set_cons_zero, List.set_cons_succ]
    refine wpAnyH_take (i := 10) (oi := _) (v := ?vz6) rfl (by kernel_rfl) (by kernel_rfl) (by kernel_rfl) (fun _ _ _ h => h) (Or.inl ⟨by rfl, ?hyz6⟩) (by assumption) ?restz6
    case hyz6 => (intro wq hSw; (try dsimp only at hSw); first | (go_simp; done) | (go_simp; with_reducible rfl))
    try simp only [Act.put, List.getElem_toArray, List.getElem_cons_succ, List.getElem_cons_zero, List.setIfInBounds_toArray, List.set_cons_zero, List.set_cons_succ]
    refine wpAnyH_ready (rs := [0, 4]) (by kernel_rfl) (by simp) ?_
    refine AllReadyH.cons (o := _) rfl (fun KK hKK => ?_) ?_
    · skip
      go_simp
      obtain ⟨w1, hw1⟩ : ∃ q, World.drew (World.alloc wb (.cells #[] 5)) = q := ⟨_, rfl⟩
      rw [hw1]
      have B1 := Lib.hid (show Below wb.heap.size wb w1 by rw [← hw1]; exact BD.out.alloc BD.out.size _)
      have O1 := Lib.hid (show OwnB w1 wb.heap.size (.slice (some ⟨wb.heap.size, 0, none⟩) 0 0) [] by rw [← hw1]; exact OwnB.made (w := wb.drew) (Nat.le_refl _) [] (by simp))
      have hs1 : Hid (w1.heap.size = wb.heap.size + 1) := Lib.hid (by rw [← hw1]; simp)
      clear hw1
      refine hKK.out _ _ (KS.out _ B1.out) (fun hHeld2 => ?_)
      clear hKK KK hHeld
      have hHeld := hHeld2
      clear hHeld2
      try simp only [Act.put, List.getElem_toArray, List.getElem_cons_succ, List.getElem_cons_zero, List.setIfInBounds_toArray, List.set_cons_zero, List.set_cons_succ]
      refine wpAnyH_ready (rs := [2, 4]) (by kernel_rfl) (by simp) ?_
      refine AllReadyH.cons (o := _) rfl (fun KK hKK => ?_) ?_
      · skip
        rw [if_pos (by rfl)]
        obtain ⟨v2, w2, hr, hO, hB⟩ := app_bs _ _ _ _ _ n0 A O1.out ((H0b.out.below B1.out).asSrc Try.underlying22) HA.out (by simp; omega) B1.out.size
        have O2 := Lib.hid hO
        have B2 := Lib.hid (B1.out.trans hB)
        clear hO hB
        refine upon_append (.tmp 8) (.tmp 9) 22 22 rfl _ _ _ _ rfl rfl hr ?_
        clear hr
        refine hKK.out _ _ (KS.out _ B2.out) (fun hHeld2 => ?_)
        clear hKK KK hHeld
        have hHeld := hHeld2
        clear hHeld2
        try simp only [Act.put, List.getElem_toArray, List.getElem_cons_succ, List.getElem_cons_zero, List.setIfInBounds_toArray, List.set_cons_zero, List.set_cons_succ]
        refine wpAnyH_ready (rs := [4]) (by kernel_rfl) (by simp) ?_
        refine AllReadyH.cons (o := _) rfl (fun KK hKK => ?_) AllReadyH.nil
        go_simp
        obtain ⟨w3, hw3⟩ : ∃ q, World.alloc w2 (.cells #[.int .u8 0] 5) = q := ⟨_, rfl⟩
        rw [hw3]
        have B3 := Lib.hid (show Below wb.heap.size wb w3 by rw [← hw3]; exact B2.out.alloc B2.out.size _)
        have SC := Lib.hid (show Src Try.prog 1 22 (.slice (some ⟨w2.heap.size, 0, none⟩) 1 1) 1 (vals .u8 [0]) w3 by rw [← hw3]; exact one_src w2 0)
        have OC := Lib.hid (show OwnB w3 wb.heap.size v2 A by rw [← hw3]; have := O2.out; rw [List.nil_append] at this; exact this.below (Below.newBlock _))
        have BC := B3
        clear hw3
        refine hKK.out _ _ (KS.out _ B3.out) (fun hHeld2 => ?_)
        clear hKK KK hHeld
        have hHeld := hHeld2
        clear hHeld2
        try simp only [Act.put, List.getElem_toArray, List.getElem_cons_succ, List.getElem_cons_zero, List.setIfInBounds_toArray, List.set_cons_zero, List.set_cons_succ]
        refine wpAnyH_ready (rs := [5]) (by kernel_rfl) (by simp) ?_
        refine AllReadyH.cons (o := _) rfl (fun KK hKK => ?_) AllReadyH.nil
        rw [if_pos (by rfl)]
        obtain ⟨v5, w5, hr, hO, hB⟩ := app_bs _ _ _ _ _ 1 [0] OC.out SC.out rfl (by rw [HA.out]; omega) BC.out.size
        have O5 := Lib.hid hO
        have B5 := Lib.hid (BC.out.trans hB)
        clear hO hB
        refine upon_append (.tmp 10) (.tmp 12) 22 22 rfl _ _ _ _ rfl rfl hr ?_
        clear hr
        refine hKK.out _ _ (KS.out _ B5.out) (fun hHeld2 => ?_)
        clear hKK KK hHeld
        have hHeld := hHeld2
        clear hHeld2
        try simp only [Act.put, List.getElem_toArray, List.getElem_cons_succ, List.getElem_cons_zero, List.setIfInBounds_toArray, List.set_cons_zero, List.set_cons_succ]
        obtain ⟨a5, c5, hv5⟩ := O5.out.slice
        obtain ⟨z5, hz5⟩ : ∃ z, (A ++ [0]).length = z := ⟨_, rfl⟩
        have Z5 := Lib.hid hz5
        rw [hz5] at hv5
        clear hz5
        subst hv5
        have S5 := Lib.hid (O5.out.sl Z5.out)
        have HN1 := Lib.hid (rappendNat_c a5 z5 c5 _ a1 n1 c1 L1 w5 S5.out (H1b.out.below B5.out) (by rw [← Z5.out, List.length_append, HA.out]; simp; omega) (by omega))
        refine wpAnyH_ready (rs := [8]) (by kernel_rfl) (by simp) ?_
        refine AllReadyH.cons (o := _) rfl (fun KK hKK => ?_) AllReadyH.nil
        go_simp
        refine Calls.mono HN1.out ?_
        rintro e w6 ⟨v6, rfl, hO6, hb6⟩
        have B6 := Lib.hid (B5.out.trans (hb6.mono B5.out.size))
        obtain ⟨a6, c6, hv6⟩ := hO6.slice
        obtain ⟨z6, hz6⟩ : ∃ z, ((A ++ [0]) ++ nb L1).length = z := ⟨_, rfl⟩
        have Z6 := Lib.hid hz6
        rw [hz6] at hv6
        clear hz6
        subst hv6
        have S6 := Lib.hid (hO6.sl Z6.out)
        clear hO6 hb6
        have HN2 := Lib.hid (rappendNat_c a6 z6 c6 _ a2 n2 c2 L2 w6 S6.out (H2b.out.below B6.out) (by rw [← Z6.out, List.length_append, List.length_append, HA.out]; have := nl1.out; simp; omega) (by omega))
        go_wp2_with fail
        refine hKK.out _ _ (KS.out _ B6.out) (fun hHeld2 => ?_)
        clear hKK KK hHeld
        have hHeld := hHeld2
        clear hHeld2
        try simp only [Act.put, List.getElem_toArray, List.getElem_cons_succ, List.getElem_cons_zero, List.setIfInBounds_toArray, List.set_cons_zero, List.set_cons_succ]
        refine wpAnyH_ready (rs := [11]) (by kernel_rfl) (by simp) ?_
        refine AllReadyH.cons (o := _) rfl (fun KK hKK => ?_) AllReadyH.nil
        go_simp
        refine Calls.mono HN2.out ?_
        rintro e w7 ⟨v7, rfl, hO7, hb7⟩
        have O7 := Lib.hid (hO7.le (base' := w.heap.size) (by have := BW.out.size; have := B6.out.size; omega))
        have B7 := Lib.hid (B6.out.trans (hb7.mono B6.out.size))
        clear hO7 hb7
        go_wp2_with fail
        refine hKK.out _ _ (KS.out _ B7.out) (fun hHeld2 => ?_)
        clear hKK KK hHeld
        have hHeld := hHeld2
        clear hHeld2
        try simp only [Act.put, List.getElem_toArray, List.getElem_cons_succ, List.getElem_cons_zero, List.setIfInBounds_toArray, List.set_cons_zero, List.set_cons_succ]
        refine wpAnyH_take (i := 12) (oi := _) (v := ?vz7) rfl (by kernel_rfl) (by kernel_rfl) (by kernel_rfl) (fun _ _ _ h => h) (Or.inl ⟨by rfl, ?hyz7⟩) (by assumption) ?restz7
        case hyz7 => (intro wq hSw; (try dsimp only at hSw); first | (go_simp; done) | (go_simp; with_reducible rfl))
        try simp only [Act.put, List.getElem_toArray, List.getElem_cons_succ, List.getElem_cons_zero, List.setIfInBounds_toArray, List.set_cons_zero, List.set_cons_succ]
        refine wpAnyH_done (by kernel_rfl) ?_ _
        try go_simp
        clear hHeld
        go_wp2
        refine bodyPost_ret (results_tmp rfl _ _ _) rfl ?_
        have e7 : A ++ ([0] ++ nb L1 ++ nb L2) = A ++ [0] ++ nb L1 ++ nb L2 := by simp only [List.append_assoc]
        have g7 : OwnB w7 w.heap.size v7 (A ++ ([0] ++ nb L1 ++ nb L2)) := by rw [e7]; exact O7.out
        exact ⟨_, rfl, g7, BW.out.trans (B7.out.mono BW.out.size)⟩
      refine AllReadyH.cons (o := _) rfl (fun KK hKK => ?_) AllReadyH.nil
      go_simp
      obtain ⟨w2, hw2⟩ : ∃ q, World.alloc w1 (.cells #[.int .u8 0] 5) = q := ⟨_, rfl⟩
      rw [hw2]
      have B2 := Lib.hid (show Below wb.heap.size wb w2 by rw [← hw2]; exact B1.out.alloc B1.out.size _)
      have S2 := Lib.hid (show Src Try.prog 1 22 (.slice (some ⟨w1.heap.size, 0, none⟩) 1 1) 1 (vals .u8 [0]) w2 by rw [← hw2]; exact one_src w1 0)
      have O2 := Lib.hid (show OwnB w2 wb.heap.size (.slice (some ⟨wb.heap.size, 0, none⟩) 0 0) [] by rw [← hw2]; exact O1.out.below (Below.newBlock _))
      have Z2 := Lib.hid (show SlB w2 (some ⟨w1.heap.size, 0, none⟩) 1 1 [0] ∧ w1.heap.size ≠ wb.heap.size from ⟨by rw [← hw2]; exact SlB.new w1 [0] #[.int .u8 0] 1 rfl rfl (by omega), by rw [hs1.out]; omega⟩)
      clear hw2
      refine hKK.out _ _ (KS.out _ B2.out) (fun hHeld2 => ?_)
      clear hKK KK hHeld
      have hHeld := hHeld2
      clear hHeld2
      try simp only [Act.put, List.getElem_toArray, List.getElem_cons_succ, List.getElem_cons_zero, List.setIfInBounds_toArray, List.set_cons_zero, List.set_cons_succ]
      refine wpAnyH_ready (rs := [2]) (by kernel_rfl) (by simp) ?_
      refine AllReadyH.cons (o := _) rfl (fun KK hKK => ?_) AllReadyH.nil
      rw [if_pos (by rfl)]
      obtain ⟨v3, w3, hr, hO, hG, hB⟩ := app_bs2 _ _ _ _ _ n0 A O2.out ((H0b.out.below B2.out).asSrc Try.underlying22) HA.out (by simp; omega) B2.out.size
      have OC := Lib.hid (show OwnB w3 wb.heap.size v3 A by rw [List.nil_append] at hO; exact hO)
      have BC := Lib.hid (B2.out.trans hB)
      have SC := Lib.hid (show Src Try.prog 1 22 _ 1 (vals .u8 [0]) w3 from (slb_grown Z2.out.1 hG (by intro b off e; injection e with e; injection e with e1 e2; rw [← e1]; exact Z2.out.2)).asSrc Try.underlying22)
      clear hO hB hG
      refine upon_append (.tmp 8) (.tmp 9) 22 22 rfl _ _ _ _ rfl rfl hr ?_
      clear hr
      refine hKK.out _ _ (KS.out _ BC.out) (fun hHeld2 => ?_)
      clear hKK KK hHeld
      have hHeld := hHeld2
      clear hHeld2
      try simp only [Act.put, List.getElem_toArray, List.getElem_cons_succ, List.getElem_cons_zero, List.setIfInBounds_toArray, List.set_cons_zero, List.set_cons_succ]
      refine wpAnyH_ready (rs := [5]) (by kernel_rfl) (by simp) ?_
      refine AllReadyH.cons (o := _) rfl (fun KK hKK => ?_) AllReadyH.nil
      rw [if_pos (by rfl)]
      obtain ⟨v5, w5, hr, hO, hB⟩ := app_bs _ _ _ _ _ 1 [0] OC.out SC.out rfl (by rw [HA.out]; omega) BC.out.size
      have O5 := Lib.hid hO
      have B5 := Lib.hid (BC.out.trans hB)
      clear hO hB
      refine upon_append (.tmp 10) (.tmp 12) 22 22 rfl _ _ _ _ rfl rfl hr ?_
      clear hr
      refine hKK.out _ _ (KS.out _ B5.out) (fun hHeld2 => ?_)
      clear hKK KK hHeld
      have hHeld := hHeld2
      clear hHeld2
      try simp only [Act.put, List.getElem_toArray, List.getElem_cons_succ, List.getElem_cons_zero, List.setIfInBounds_toArray, List.set_cons_zero, List.set_cons_succ]
      obtain ⟨a5, c5, hv5⟩ := O5.out.slice
      obtain ⟨z5, hz5⟩ : ∃ z, (A ++ [0]).length = z := ⟨_, rfl⟩
      have Z5 := Lib.hid hz5
      rw [hz5] at hv5
      clear hz5
      subst hv5
      have S5 := Lib.hid (O5.out.sl Z5.out)
      have HN1 := Lib.hid (rappendNat_c a5 z5 c5 _ a1 n1 c1 L1 w5 S5.out (H1b.out.below B5.out) (by rw [← Z5.out, List.length_append, HA.out]; simp; omega) (by omega))
      refine wpAnyH_ready (rs := [8]) (by kernel_rfl) (by simp) ?_
      refine AllReadyH.cons (o := _) rfl (fun KK hKK => ?_) AllReadyH.nil
      go_simp
      refine Calls.mono HN1.out ?_
      rintro e w6 ⟨v6, rfl, hO6, hb6⟩
      have B6 := Lib.hid (B5.out.trans (hb6.mono B5.out.size))
      obtain ⟨a6, c6, hv6⟩ := hO6.slice
      obtain ⟨z6, hz6⟩ : ∃ z, ((A ++ [0]) ++ nb L1).length = z := ⟨_, rfl⟩
      have Z6 := Lib.hid hz6
      rw [hz6] at hv6
      clear hz6
      subst hv6
      have S6 := Lib.hid (hO6.sl Z6.out)
      clear hO6 hb6
      have HN2 := Lib.hid (rappendNat_c a6 z6 c6 _ a2 n2 c2 L2 w6 S6.out (H2b.out.below B6.out) (by rw [← Z6.out, List.length_append, List.length_append, HA.out]; have := nl1.out; simp; omega) (by omega))
      go_wp2_with fail
      refine hKK.out _ _ (KS.out _ B6.out) (fun hHeld2 => ?_)
      clear hKK KK hHeld
      have hHeld := hHeld2
      clear hHeld2
      try simp only [Act.put, List.getElem_toArray, List.getElem_cons_succ, List.getElem_cons_zero, List.setIfInBounds_toArray, List.set_cons_zero, List.set_cons_succ]
      refine wpAnyH_ready (rs := [11]) (by kernel_rfl) (by simp) ?_
      refine AllReadyH.cons (o := _) rfl (fun KK hKK => ?_) AllReadyH.nil
      go_simp
      refine Calls.mono HN2.out ?_
      rintro e w7 ⟨v7, rfl, hO7, hb7⟩
      have O7 := Lib.hid (hO7.le (base' := w.heap.size) (by have := BW.out.size; have := B6.out.size; omega))
      have B7 := Lib.hid (B6.out.trans (hb7.mono B6.out.size))
      clear hO7 hb7
      go_wp2_with fail
      refine hKK.out _ _ (KS.out _ B7.out) (fun hHeld2 => ?_)
      clear hKK KK hHeld
      have hHeld := hHeld2
      clear hHeld2
      try simp only [Act.put, List.getElem_toArray, List.getElem_cons_succ, List.getElem_cons_zero, List.setIfInBounds_toArray, List.set_cons_zero, List.set_cons_succ]
      refine wpAnyH_take (i := 12) (oi := _) (v := ?vz8) rfl (by kernel_rfl) (by kernel_rfl) (by kernel_rfl) (fun _ _ _ h => h) (Or.inl ⟨by rfl, ?hyz8⟩) (by assumption) ?restz8
      case hyz8 => (intro wq hSw; (try dsimp only at hSw); first | (go_simp; done) | (go_simp; with_reducible rfl))
      try simp only [Act.put, List.getElem_toArray, List.getElem_cons_succ, List.getElem_cons_zero, List.setIfInBounds_toArray, List.set_cons_zero, List.set_cons_succ]
      refine wpAnyH_done (by kernel_rfl) ?_ _
      try go_simp
      clear hHeld
      go_wp2
      refine bodyPost_ret (results_tmp rfl _ _ _) rfl ?_
      have e7 : A ++ ([0] ++ nb L1 ++ nb L2) = A ++ [0] ++ nb L1 ++ nb L2 := by simp only [List.append_assoc]
      have g7 : OwnB w7 w.heap.size v7 (A ++ ([0] ++ nb L1 ++ nb L2)) := by rw [e7]; exact O7.out
      exact ⟨_, rfl, g7, BW.out.trans (B7.out.mono BW.out.size)⟩
    refine AllReadyH.cons (o := _) rfl (fun KK hKK => ?_) AllReadyH.nil
    go_simp
    obtain ⟨w1, hw1⟩ : ∃ q, World.drew (World.alloc wb (.cells #[.int .u8 0] 5)) = q := ⟨_, rfl⟩
    rw [hw1]
    have B1 := Lib.hid (show Below wb.heap.size wb w1 by rw [← hw1]; exact BD.out.alloc BD.out.size _)
    have Z1 := Lib.hid (show SlB w1 (some ⟨wb.heap.size, 0, none⟩) 1 1 [0] by rw [← hw1]; exact SlB.new wb.drew [0] #[.int .u8 0] 1 rfl rfl (by omega))
    have hs1 : Hid (w1.heap.size = wb.heap.size + 1) := Lib.hid (by rw [← hw1]; simp)
    clear hw1
    refine hKK.out _ _ (KS.out _ B1.out) (fun hHeld2 => ?_)
    clear hKK KK hHeld
    have hHeld := hHeld2
    clear hHeld2
    try simp only [Act.put, List.getElem_toArray, List.getElem_cons_succ, List.getElem_cons_zero, List.setIfInBounds_toArray, List.set_cons_zero, List.set_cons_succ]
    refine wpAnyH_ready (rs := [0]) (by kernel_rfl) (by simp) ?_
    refine AllReadyH.cons (o := _) rfl (fun KK hKK => ?_) AllReadyH.nil
    go_simp
    obtain ⟨w2, hw2⟩ : ∃ q, World.alloc w1 (.cells #[] 5) = q := ⟨_, rfl⟩
    rw [hw2]
    have B2 := Lib.hid (show Below wb.heap.size wb w2 by rw [← hw2]; exact B1.out.alloc B1.out.size _)
    have O2 := Lib.hid (show OwnB w2 wb.heap.size (.slice (some ⟨w1.heap.size, 0, none⟩) 0 0) [] by rw [← hw2]; exact OwnB.made (w := w1) B1.out.size [] (by simp))
    have Z2 := Lib.hid (show SlB w2 (some ⟨wb.heap.size, 0, none⟩) 1 1 [0] ∧ wb.heap.size ≠ w1.heap.size from ⟨by rw [← hw2]; exact Z1.out.below (Below.newBlock _), by rw [hs1.out]; omega⟩)
    clear hw2
    refine hKK.out _ _ (KS.out _ B2.out) (fun hHeld2 => ?_)
    clear hKK KK hHeld
    have hHeld := hHeld2
    clear hHeld2
    try simp only [Act.put, List.getElem_toArray, List.getElem_cons_succ, List.getElem_cons_zero, List.setIfInBounds_toArray, List.set_cons_zero, List.set_cons_succ]
    refine wpAnyH_ready (rs := [2]) (by kernel_rfl) (by simp) ?_
    refine AllReadyH.cons (o := _) rfl (fun KK hKK => ?_) AllReadyH.nil
    rw [if_pos (by rfl)]
    obtain ⟨v3, w3, hr, hO, hG, hB⟩ := app_bs2 _ _ _ _ _ n0 A O2.out ((H0b.out.below B2.out).asSrc Try.underlying22) HA.out (by simp; omega) B2.out.size
    have OC := Lib.hid (show OwnB w3 wb.heap.size v3 A by rw [List.nil_append] at hO; exact hO)
    have BC := Lib.hid (B2.out.trans hB)
    have SC := Lib.hid (show Src Try.prog 1 22 _ 1 (vals .u8 [0]) w3 from (slb_grown Z2.out.1 hG (by intro b off e; injection e with e; injection e with e1 e2; rw [← e1]; exact Z2.out.2)).asSrc Try.underlying22)
    clear hO hB hG
    refine upon_append (.tmp 8) (.tmp 9) 22 22 rfl _ _ _ _ rfl rfl hr ?_
    clear hr
    refine hKK.out _ _ (KS.out _ BC.out) (fun hHeld2 => ?_)
    clear hKK KK hHeld
    have hHeld := hHeld2
    clear hHeld2
    try simp only [Act.put, List.getElem_toArray, List.getElem_cons_succ, List.getElem_cons_zero, List.setIfInBounds_toArray, List.set_cons_zero, List.set_cons_succ]
    refine wpAnyH_ready (rs := [5]) (by kernel_rfl) (by simp) ?_
    refine AllReadyH.cons (o := _) rfl (fun KK hKK => ?_) AllReadyH.nil
    rw [if_pos (by rfl)]
    obtain ⟨v5, w5, hr, hO, hB⟩ := app_bs _ _ _ _ _ 1 [0] OC.out SC.out rfl (by rw [HA.out]; omega) BC.out.size
    have O5 := Lib.hid hO
    have B5 := Lib.hid (BC.out.trans hB)
    clear hO hB
    refine upon_append (.tmp 10) (.tmp 12) 22 22 rfl _ _ _ _ rfl rfl hr ?_
    clear hr
    refine hKK.out _ _ (KS.out _ B5.out) (fun hHeld2 => ?_)
    clear hKK KK hHeld
    have hHeld := hHeld2
    clear hHeld2
    try simp only [Act.put, List.getElem_toArray, List.getElem_cons_succ, List.getElem_cons_zero, List.setIfInBounds_toArray, List.set_cons_zero, List.set_cons_succ]
    obtain ⟨a5, c5, hv5⟩ := O5.out.slice
    obtain ⟨z5, hz5⟩ : ∃ z, (A ++ [0]).length = z := ⟨_, rfl⟩
    have Z5 := Lib.hid hz5
    rw [hz5] at hv5
    clear hz5
    subst hv5
    have S5 := Lib.hid (O5.out.sl Z5.out)
    have HN1 := Lib.hid (rappendNat_c a5 z5 c5 _ a1 n1 c1 L1 w5 S5.out (H1b.out.below B5.out) (by rw [← Z5.out, List.length_append, HA.out]; simp; omega) (by omega))
    refine wpAnyH_ready (rs := [8]) (by kernel_rfl) (by simp) ?_
    refine AllReadyH.cons (o := _) rfl (fun KK hKK => ?_) AllReadyH.nil
    go_simp
    refine Calls.mono HN1.out ?_
    rintro e w6 ⟨v6, rfl, hO6, hb6⟩
    have B6 := Lib.hid (B5.out.trans (hb6.mono B5.out.size))
    obtain ⟨a6, c6, hv6⟩ := hO6.slice
    obtain ⟨z6, hz6⟩ : ∃ z, ((A ++ [0]) ++ nb L1).length = z := ⟨_, rfl⟩
    have Z6 := Lib.hid hz6
    rw [hz6] at hv6
    clear hz6
    subst hv6
    have S6 := Lib.hid (hO6.sl Z6.out)
    clear hO6 hb6
    have HN2 := Lib.hid (rappendNat_c a6 z6 c6 _ a2 n2 c2 L2 w6 S6.out (H2b.out.below B6.out) (by rw [← Z6.out, List.length_append, List.length_append, HA.out]; have := nl1.out; simp; omega) (by omega))
    go_wp2_with fail
    refine hKK.out _ _ (KS.out _ B6.out) (fun hHeld2 => ?_)
    clear hKK KK hHeld
    have hHeld := hHeld2
    clear hHeld2
    try simp only [Act.put, List.getElem_toArray, List.getElem_cons_succ, List.getElem_cons_zero, List.setIfInBounds_toArray, List.set_cons_zero, List.set_cons_succ]
    refine wpAnyH_ready (rs := [11]) (by kernel_rfl) (by simp) ?_
    refine AllReadyH.cons (o := _) rfl (fun KK hKK => ?_) AllReadyH.nil
    go_simp
    refine Calls.mono HN2.out ?_
    rintro e w7 ⟨v7, rfl, hO7, hb7⟩
    have O7 := Lib.hid (hO7.le (base' := w.heap.size) (by have := BW.out.size; have := B6.out.size; omega))
    have B7 := Lib.hid (B6.out.trans (hb7.mono B6.out.size))
    clear hO7 hb7
    go_wp2_with fail
    refine hKK.out _ _ (KS.out _ B7.out) (fun hHeld2 => ?_)
    clear hKK KK hHeld
    have hHeld := hHeld2
    clear hHeld2
    try simp only [Act.put, List.getElem_toArray, List.getElem_cons_succ, List.getElem_cons_zero, List.setIfInBounds_toArray, List.set_cons_zero, List.set_cons_succ]
    refine wpAnyH_take (i := 12) (oi := _) (v := ?vz9) rfl (by kernel_rfl) (by kernel_rfl) (by kernel_rfl) (fun _ _ _ h => h) (Or.inl ⟨by rfl, ?hyz9⟩) (by assumption) ?restz9
    case hyz9 => (intro wq hSw; (try dsimp only at hSw); first | (go_simp; done) | (go_simp; with_reducible rfl))
    try simp only [Act.put, List.getElem_toArray, List.getElem_cons_succ, List.getElem_cons_zero, List.setIfInBounds_toArray, List.set_cons_zero, List.set_cons_succ]
    refine wpAnyH_done (by kernel_rfl) ?_ _
    try go_simp
    clear hHeld
    go_wp2
    refine bodyPost_ret (results_tmp rfl _ _ _) rfl ?_
    have e7 : A ++ ([0] ++ nb L1 ++ nb L2) = A ++ [0] ++ nb L1 ++ nb L2 := by simp only [List.append_assoc]
    have g7 : OwnB w7 w.heap.size v7 (A ++ ([0] ++ nb L1 ++ nb L2)) := by rw [e7]; exact O7.out
    exact ⟨_, rfl, g7, BW.out.trans (B7.out.mono BW.out.size)⟩
  | true =>
    go_enter Try.func15, Try.ntmps15
    obtain ⟨wb, hwb⟩ : ∃ wb, w.alloc (.cells #[.bool true, .slice a1 n1 c1, .slice a2 n2 c2] 31) = wb := ⟨_, rfl⟩
    have hsz : wb.heap.size = w.heap.size + 1 := by rw [← hwb]; simp
    have BW : Hid (Below w.heap.size w wb) := Lib.hid (by rw [← hwb]; exact Below.newBlock _)
    have H0b := Lib.hid (H0.out.below BW.out)
    have H1b := Lib.hid (H1.out.below BW.out)
    have H2b := Lib.hid (H2.out.below BW.out)
    have nl1 := Lib.hid (nb_len2 (L := L1) H1.out.1 hn1)
    have nl2 := Lib.hid (nb_len2 (L := L2) H2.out.1 hn2)
    have KS : Hid (∀ W, Below wb.heap.size wb W → W.cell? ⟨w.heap.size, 1, none⟩ = some (.slice a1 n1 c1) ∧ W.cell? ⟨w.heap.size, 2, none⟩ = some (.slice a2 n2 c2)) := Lib.hid (fun W hW => ⟨(hW.cell (p := ⟨w.heap.size, 1, none⟩) (by rw [hsz]; exact Nat.lt_succ_self _)).trans (by rw [← hwb, cell_of_row _ w.heap.size 1 _ 31 (0, 0) (heap_alloc_new w _)]; rfl), (hW.cell (p := ⟨w.heap.size, 2, none⟩) (by rw [hsz]; exact Nat.lt_succ_self _)).trans (by rw [← hwb, cell_of_row _ w.heap.size 2 _ 31 (0, 0) (heap_alloc_new w _)]; rfl)⟩)
    have HSZ := Lib.hid hsz
    have HWB := Lib.hid hwb
    clear hwb hsz
    go_upto_region 4 with (fail)
    have BD : Hid (Below wb.heap.size wb wb.drew) := Lib.hid (below_drewN (Below.refl _ _) 1)
    rw [HWB.out]
    refine wp_region_held_drew (S := (fun w' => w'.cell? ⟨w.heap.size, 1, none⟩ = some (.slice a1 n1 c1) ∧ w'.cell? ⟨w.heap.size, 2, none⟩ = some (.slice a2 n2 c2))) (by kernel_rfl) (KS.out _ BD.out) (fun hHeld => ?_)
    refine wpAnyH_take (i := 1) (oi := _) (v := ?vz10) rfl (by kernel_rfl) (by kernel_rfl) (by kernel_rfl) (fun _ _ _ h => h) (Or.inl ⟨by rfl, ?hyz10⟩) (by assumption) ?restz10
    case hyz10 => (intro wq hSw; (try dsimp only at hSw); first | (go_simp; done) | (go_simp; with_reducible rfl))
    try simp only [Act.put, List.getElem_toArray, List.getElem_cons_succ, List.getElem_cons_zero, List.setIfInBounds_toArray, List.set_cons_zero, List.set_cons_succ]
    refine wpAnyH_take (i := 3) (oi := _) (v := ?vz11) rfl (by kernel_rfl) (by kernel_rfl) (by kernel_rfl) (fun _ _ _ h => h) (Or.inl ⟨by rfl, ?hyz11⟩) (by assumption) ?restz11
    case hyz11 => (intro wq hSw; (try dsimp only at hSw); first | (go_simp; done) | (go_simp; with_reducible rfl))
    try simp only [Act.put, List.getElem_toArray, List.getElem_cons_succ, List.getElem_cons_zero, List.setIfInBounds_toArray, List.set_cons_zero, List.set_cons_succ]
    refine wpAnyH_take (i := 6) (oi := _) (v := ?vz12) rfl (by kernel_rfl) (by kernel_rfl) (by kernel_rfl) (fun _ _ _ h => h) (Or.inl ⟨by rfl, ?hyz12⟩) (by assumption) ?restz12
    case hyz12 => (intro wq hSw; (try dsimp only at hSw); first | (go_simp; done) | (go_simp; with_reducible rfl))
    try simp only [Act.put, List.getElem_toArray, List.getElem_cons_succ, List.getElem_cons_zero, List.setIfInBounds_toArray, List.set_cons_zero, List.set_cons_succ]
    refine wpAnyH_take (i := 7) (oi := _) (v := ?vz13) rfl (by kernel_rfl) (by kernel_rfl) (by kernel_rfl) (fun _ _ _ h => h) (Or.inl ⟨by rfl, ?hyz13⟩) (by assumption) ?restz13
    case hyz13 => (intro wq hSw; (try dsimp only at hSw); first | (go_simp; done) | (go_simp; with_reducible rfl))
    try simp only [Act.put, List.getElem_toArray, List.getElem_cons_succ, List.getElem_cons_zero, List.setIfInBounds_toArray, List.set_cons_zero, List.set_cons_succ]
    refine wpAnyH_take (i := 9) (oi := _) (v := ?vz14) rfl (by kernel_rfl) (by kernel_rfl) (by kernel_rfl) (fun _ _ _ h => h) (Or.inl ⟨by rfl, ?hyz14⟩) (by assumption) ?restz14
    case hyz14 => (intro wq hSw; (try dsimp only at hSw); first | (go_simp; done) | (go_simp; with_reducible rfl))
    try simp only [Act.put, List.getElem_toArray, List.getElem_cons_succ, List.getElem_cons_zero, List.setIfInBounds_toArray, List.set_cons_zero, List.set_cons_succ]
    refine wpAnyH_take (i := 10) (oi := _) (v := ?vz15) rfl (by kernel_rfl) (by kernel_rfl) (by kernel_rfl) (fun _ _ _ h => h) (Or.inl ⟨by rfl, ?hyz15⟩) (by assumption) ?restz15
    case hyz15 => (intro wq hSw; (try dsimp only at hSw); first | (go_simp; done) | (go_simp; with_reducible rfl))
    try simp only [Act.put, List.getElem_toArray, List.getElem_cons_succ, List.getElem_cons_zero, List.setIfInBounds_toArray, List.set_cons_zero, List.set_cons_succ]
    refine wpAnyH_ready (rs := [0, 4]) (by kernel_rfl) (by simp) ?_
    refine AllReadyH.cons (o := _) rfl (fun KK hKK => ?_) ?_
    · skip
      go_simp
      obtain ⟨w1, hw1⟩ : ∃ q, World.drew (World.alloc wb (.cells #[] 5)) = q := ⟨_, rfl⟩
      rw [hw1]
      have B1 := Lib.hid (show Below wb.heap.size wb w1 by rw [← hw1]; exact BD.out.alloc BD.out.size _)
      have O1 := Lib.hid (show OwnB w1 wb.heap.size (.slice (some ⟨wb.heap.size, 0, none⟩) 0 0) [] by rw [← hw1]; exact OwnB.made (w := wb.drew) (Nat.le_refl _) [] (by simp))
      have hs1 : Hid (w1.heap.size = wb.heap.size + 1) := Lib.hid (by rw [← hw1]; simp)
      clear hw1
      refine hKK.out _ _ (KS.out _ B1.out) (fun hHeld2 => ?_)
      clear hKK KK hHeld
      have hHeld := hHeld2
      clear hHeld2
      try simp only [Act.put, List.getElem_toArray, List.getElem_cons_succ, List.getElem_cons_zero, List.setIfInBounds_toArray, List.set_cons_zero, List.set_cons_succ]
      refine wpAnyH_ready (rs := [2, 4]) (by kernel_rfl) (by simp) ?_
      refine AllReadyH.cons (o := _) rfl (fun KK hKK => ?_) ?_
      · skip
        rw [if_pos (by rfl)]
        obtain ⟨v2, w2, hr, hO, hB⟩ := app_bs _ _ _ _ _ n0 A O1.out ((H0b.out.below B1.out).asSrc Try.underlying22) HA.out (by simp; omega) B1.out.size
        have O2 := Lib.hid hO
        have B2 := Lib.hid (B1.out.trans hB)
        clear hO hB
        refine upon_append (.tmp 8) (.tmp 9) 22 22 rfl _ _ _ _ rfl rfl hr ?_
        clear hr
        refine hKK.out _ _ (KS.out _ B2.out) (fun hHeld2 => ?_)
        clear hKK KK hHeld
        have hHeld := hHeld2
        clear hHeld2
        try simp only [Act.put, List.getElem_toArray, List.getElem_cons_succ, List.getElem_cons_zero, List.setIfInBounds_toArray, List.set_cons_zero, List.set_cons_succ]
        refine wpAnyH_ready (rs := [4]) (by kernel_rfl) (by simp) ?_
        refine AllReadyH.cons (o := _) rfl (fun KK hKK => ?_) AllReadyH.nil
        go_simp
        obtain ⟨w3, hw3⟩ : ∃ q, World.alloc w2 (.cells #[.int .u8 1] 5) = q := ⟨_, rfl⟩
        rw [hw3]
        have B3 := Lib.hid (show Below wb.heap.size wb w3 by rw [← hw3]; exact B2.out.alloc B2.out.size _)
        have SC := Lib.hid (show Src Try.prog 1 22 (.slice (some ⟨w2.heap.size, 0, none⟩) 1 1) 1 (vals .u8 [1]) w3 by rw [← hw3]; exact one_src w2 1)
        have OC := Lib.hid (show OwnB w3 wb.heap.size v2 A by rw [← hw3]; have := O2.out; rw [List.nil_append] at this; exact this.below (Below.newBlock _))
        have BC := B3
        clear hw3
        refine hKK.out _ _ (KS.out _ B3.out) (fun hHeld2 => ?_)
        clear hKK KK hHeld
        have hHeld := hHeld2
        clear hHeld2
        try simp only [Act.put, List.getElem_toArray, List.getElem_cons_succ, List.getElem_cons_zero, List.setIfInBounds_toArray, List.set_cons_zero, List.set_cons_succ]
        refine wpAnyH_ready (rs := [5]) (by kernel_rfl) (by simp) ?_
        refine AllReadyH.cons (o := _) rfl (fun KK hKK => ?_) AllReadyH.nil
        rw [if_pos (by rfl)]
        obtain ⟨v5, w5, hr, hO, hB⟩ := app_bs _ _ _ _ _ 1 [1] OC.out SC.out rfl (by rw [HA.out]; omega) BC.out.size
        have O5 := Lib.hid hO
        have B5 := Lib.hid (BC.out.trans hB)
        clear hO hB
        refine upon_append (.tmp 10) (.tmp 12) 22 22 rfl _ _ _ _ rfl rfl hr ?_
        clear hr
        refine hKK.out _ _ (KS.out _ B5.out) (fun hHeld2 => ?_)
        clear hKK KK hHeld
        have hHeld := hHeld2
        clear hHeld2
        try simp only [Act.put, List.getElem_toArray, List.getElem_cons_succ, List.getElem_cons_zero, List.setIfInBounds_toArray, List.set_cons_zero, List.set_cons_succ]
        obtain ⟨a5, c5, hv5⟩ := O5.out.slice
        obtain ⟨z5, hz5⟩ : ∃ z, (A ++ [1]).length = z := ⟨_, rfl⟩
        have Z5 := Lib.hid hz5
        rw [hz5] at hv5
        clear hz5
        subst hv5
        have S5 := Lib.hid (O5.out.sl Z5.out)
        have HN1 := Lib.hid (rappendNat_c a5 z5 c5 _ a1 n1 c1 L1 w5 S5.out (H1b.out.below B5.out) (by rw [← Z5.out, List.length_append, HA.out]; simp; omega) (by omega))
        refine wpAnyH_ready (rs := [8]) (by kernel_rfl) (by simp) ?_
        refine AllReadyH.cons (o := _) rfl (fun KK hKK => ?_) AllReadyH.nil
        go_simp
        refine Calls.mono HN1.out ?_
        rintro e w6 ⟨v6, rfl, hO6, hb6⟩
        have B6 := Lib.hid (B5.out.trans (hb6.mono B5.out.size))
        obtain ⟨a6, c6, hv6⟩ := hO6.slice
        obtain ⟨z6, hz6⟩ : ∃ z, ((A ++ [1]) ++ nb L1).length = z := ⟨_, rfl⟩
        have Z6 := Lib.hid hz6
        rw [hz6] at hv6
        clear hz6
        subst hv6
        have S6 := Lib.hid (hO6.sl Z6.out)
        clear hO6 hb6
        have HN2 := Lib.hid (rappendNat_c a6 z6 c6 _ a2 n2 c2 L2 w6 S6.out (H2b.out.below B6.out) (by rw [← Z6.out, List.length_append, List.length_append, HA.out]; have := nl1.out; simp; omega) (by omega))
        go_wp2_with fail
        refine hKK.out _ _ (KS.out _ B6.out) (fun hHeld2 => ?_)
        clear hKK KK hHeld
        have hHeld := hHeld2
        clear hHeld2
        try simp only [Act.put, List.getElem_toArray, List.getElem_cons_succ, List.getElem_cons_zero, List.setIfInBounds_toArray, List.set_cons_zero, List.set_cons_succ]
        refine wpAnyH_ready (rs := [11]) (by kernel_rfl) (by simp) ?_
        refine AllReadyH.cons (o := _) rfl (fun KK hKK => ?_) AllReadyH.nil
        go_simp
        refine Calls.mono HN2.out ?_
        rintro e w7 ⟨v7, rfl, hO7, hb7⟩
        have O7 := Lib.hid (hO7.le (base' := w.heap.size) (by have := BW.out.size; have := B6.out.size; omega))
        have B7 := Lib.hid (B6.out.trans (hb7.mono B6.out.size))
        clear hO7 hb7
        go_wp2_with fail
        refine hKK.out _ _ (KS.out _ B7.out) (fun hHeld2 => ?_)
        clear hKK KK hHeld
        have hHeld := hHeld2
        clear hHeld2
        try simp only [Act.put, List.getElem_toArray, List.getElem_cons_succ, List.getElem_cons_zero, List.setIfInBounds_toArray, List.set_cons_zero, List.set_cons_succ]
        refine wpAnyH_take (i := 12) (oi := _) (v := ?vz16) rfl (by kernel_rfl) (by kernel_rfl) (by kernel_rfl) (fun _ _ _ h => h) (Or.inl ⟨by rfl, ?hyz16⟩) (by assumption) ?restz16
        case hyz16 => (intro wq hSw; (try dsimp only at hSw); first | (go_simp; done) | (go_simp; with_reducible rfl))
        try simp only [Act.put, List.getElem_toArray, List.getElem_cons_succ, List.getElem_cons_zero, List.setIfInBounds_toArray, List.set_cons_zero, List.set_cons_succ]
        refine wpAnyH_done (by kernel_rfl) ?_ _
        try go_simp
        clear hHeld
        go_wp2
        refine bodyPost_ret (results_tmp rfl _ _ _) rfl ?_
        have e7 : A ++ ([1] ++ nb L1 ++ nb L2) = A ++ [1] ++ nb L1 ++ nb L2 := by simp only [List.append_assoc]
        have g7 : OwnB w7 w.heap.size v7 (A ++ ([1] ++ nb L1 ++ nb L2)) := by rw [e7]; exact O7.out
        exact ⟨_, rfl, g7, BW.out.trans (B7.out.mono BW.out.size)⟩
      refine AllReadyH.cons (o := _) rfl (fun KK hKK => ?_) AllReadyH.nil
      go_simp
      obtain ⟨w2, hw2⟩ : ∃ q, World.alloc w1 (.cells #[.int .u8 1] 5) = q := ⟨_, rfl⟩
      rw [hw2]
      have B2 := Lib.hid (show Below wb.heap.size wb w2 by rw [← hw2]; exact B1.out.alloc B1.out.size _)
      have S2 := Lib.hid (show Src Try.prog 1 22 (.slice (some ⟨w1.heap.size, 0, none⟩) 1 1) 1 (vals .u8 [1]) w2 by rw [← hw2]; exact one_src w1 1)
      have O2 := Lib.hid (show OwnB w2 wb.heap.size (.slice (some ⟨wb.heap.size, 0, none⟩) 0 0) [] by rw [← hw2]; exact O1.out.below (Below.newBlock _))
      have Z2 := Lib.hid (show SlB w2 (some ⟨w1.heap.size, 0, none⟩) 1 1 [1] ∧ w1.heap.size ≠ wb.heap.size from ⟨by rw [← hw2]; exact SlB.new w1 [1] #[.int .u8 1] 1 rfl rfl (by omega), by rw [hs1.out]; omega⟩)
      clear hw2
      refine hKK.out _ _ (KS.out _ B2.out) (fun hHeld2 => ?_)
      clear hKK KK hHeld
      have hHeld := hHeld2
      clear hHeld2
      try simp only [Act.put, List.getElem_toArray, List.getElem_cons_succ, List.getElem_cons_zero, List.setIfInBounds_toArray, List.set_cons_zero, List.set_cons_succ]
      refine wpAnyH_ready (rs := [2]) (by kernel_rfl) (by simp) ?_
      refine AllReadyH.cons (o := _) rfl (fun KK hKK => ?_) AllReadyH.nil
      rw [if_pos (by rfl)]
      obtain ⟨v3, w3, hr, hO, hG, hB⟩ := app_bs2 _ _ _ _ _ n0 A O2.out ((H0b.out.below B2.out).asSrc Try.underlying22) HA.out (by simp; omega) B2.out.size
      have OC := Lib.hid (show OwnB w3 wb.heap.size v3 A by rw [List.nil_append] at hO; exact hO)
      have BC := Lib.hid (B2.out.trans hB)
      have SC := Lib.hid (show Src Try.prog 1 22 _ 1 (vals .u8 [1]) w3 from (slb_grown Z2.out.1 hG (by intro b off e; injection e with e; injection e with e1 e2; rw [← e1]; exact Z2.out.2)).asSrc Try.underlying22)
      clear hO hB hG
      refine upon_append (.tmp 8) (.tmp 9) 22 22 rfl _ _ _ _ rfl rfl hr ?_
      clear hr
      refine hKK.out _ _ (KS.out _ BC.out) (fun hHeld2 => ?_)
      clear hKK KK hHeld
      have hHeld := hHeld2
      clear hHeld2
      try simp only [Act.put, List.getElem_toArray, List.getElem_cons_succ, List.getElem_cons_zero, List.setIfInBounds_toArray, List.set_cons_zero, List.set_cons_succ]
      refine wpAnyH_ready (rs := [5]) (by kernel_rfl) (by simp) ?_
      refine AllReadyH.cons (o := _) rfl (fun KK hKK => ?_) AllReadyH.nil
      rw [if_pos (by rfl)]
      obtain ⟨v5, w5, hr, hO, hB⟩ := app_bs _ _ _ _ _ 1 [1] OC.out SC.out rfl (by rw [HA.out]; omega) BC.out.size
      have O5 := Lib.hid hO
      have B5 := Lib.hid (BC.out.trans hB)
      clear hO hB
      refine upon_append (.tmp 10) (.tmp 12) 22 22 rfl _ _ _ _ rfl rfl hr ?_
      clear hr
      refine hKK.out _ _ (KS.out _ B5.out) (fun hHeld2 => ?_)
      clear hKK KK hHeld
      have hHeld := hHeld2
      clear hHeld2
      try simp only [Act.put, List.getElem_toArray, List.getElem_cons_succ, List.getElem_cons_zero, List.setIfInBounds_toArray, List.set_cons_zero, List.set_cons_succ]
      obtain ⟨a5, c5, hv5⟩ := O5.out.slice
      obtain ⟨z5, hz5⟩ : ∃ z, (A ++ [1]).length = z := ⟨_, rfl⟩
      have Z5 := Lib.hid hz5
      rw [hz5] at hv5
      clear hz5
      subst hv5
      have S5 := Lib.hid (O5.out.sl Z5.out)
      have HN1 := Lib.hid (rappendNat_c a5 z5 c5 _ a1 n1 c1 L1 w5 S5.out (H1b.out.below B5.out) (by rw [← Z5.out, List.length_append, HA.out]; simp; omega) (by omega))
      refine wpAnyH_ready (rs := [8]) (by kernel_rfl) (by simp) ?_
      refine AllReadyH.cons (o := _) rfl (fun KK hKK => ?_) AllReadyH.nil
      go_simp
      refine Calls.mono HN1.out ?_
      rintro e w6 ⟨v6, rfl, hO6, hb6⟩
      have B6 := Lib.hid (B5.out.trans (hb6.mono B5.out.size))
      obtain ⟨a6, c6, hv6⟩ := hO6.slice
      obtain ⟨z6, hz6⟩ : ∃ z, ((A ++ [1]) ++ nb L1).length = z := ⟨_, rfl⟩
      have Z6 := Lib.hid hz6
      rw [hz6] at hv6
      clear hz6
      subst hv6
      have S6 := Lib.hid (hO6.sl Z6.out)
      clear hO6 hb6
      have HN2 := Lib.hid (rappendNat_c a6 z6 c6 _ a2 n2 c2 L2 w6 S6.out (H2b.out.below B6.out) (by rw [← Z6.out, List.length_append, List.length_append, HA.out]; have := nl1.out; simp; omega) (by omega))
      go_wp2_with fail
      refine hKK.out _ _ (KS.out _ B6.out) (fun hHeld2 => ?_)
      clear hKK KK hHeld
      have hHeld := hHeld2
      clear hHeld2
      try simp only [Act.put, List.getElem_toArray, List.getElem_cons_succ, List.getElem_cons_zero, List.setIfInBounds_toArray, List.set_cons_zero, List.set_cons_succ]
      refine wpAnyH_ready (rs := [11]) (by kernel_rfl) (by simp) ?_
      refine AllReadyH.cons (o := _) rfl (fun KK hKK => ?_) AllReadyH.nil
      go_simp
      refine Calls.mono HN2.out ?_
      rintro e w7 ⟨v7, rfl, hO7, hb7⟩
      have O7 := Lib.hid (hO7.le (base' := w.heap.size) (by have := BW.out.size; have := B6.out.size; omega))
      have B7 := Lib.hid (B6.out.trans (hb7.mono B6.out.size))
      clear hO7 hb7
      go_wp2_with fail
      refine hKK.out _ _ (KS.out _ B7.out) (fun hHeld2 => ?_)
      clear hKK KK hHeld
      have hHeld := hHeld2
      clear hHeld2
      try simp only [Act.put, List.getElem_toArray, List.getElem_cons_succ, List.getElem_cons_zero, List.setIfInBounds_toArray, List.set_cons_zero, List.set_cons_succ]
      refine wpAnyH_take (i := 12) (oi := _) (v := ?vz17) rfl (by kernel_rfl) (by kernel_rfl) (by kernel_rfl) (fun _ _ _ h => h) (Or.inl ⟨by rfl, ?hyz17⟩) (by assumption) ?restz17
      case hyz17 => (intro wq hSw; (try dsimp only at hSw); first | (go_simp; done) | (go_simp; with_reducible rfl))
      try simp only [Act.put, List.getElem_toArray, List.getElem_cons_succ, List.getElem_cons_zero, List.setIfInBounds_toArray, List.set_cons_zero, List.set_cons_succ]
      refine wpAnyH_done (by kernel_rfl) ?_ _
      try go_simp
      clear hHeld
      go_wp2
      refine bodyPost_ret (results_tmp rfl _ _ _) rfl ?_
      have e7 : A ++ ([1] ++ nb L1 ++ nb L2) = A ++ [1] ++ nb L1 ++ nb L2 := by simp only [List.append_assoc]
      have g7 : OwnB w7 w.heap.size v7 (A ++ ([1] ++ nb L1 ++ nb L2)) := by rw [e7]; exact O7.out
      exact ⟨_, rfl, g7, BW.out.trans (B7.out.mono BW.out.size)⟩
    refine AllReadyH.cons (o := _) rfl (fun KK hKK => ?_) AllReadyH.nil
    go_simp
    obtain ⟨w1, hw1⟩ : ∃ q, World.drew (World.alloc wb (.cells #[.int .u8 1] 5)) = q := ⟨_, rfl⟩
    rw [hw1]
    have B1 := Lib.hid (show Below wb.heap.size wb w1 by rw [← hw1]; exact BD.out.alloc BD.out.size _)
    have Z1 := Lib.hid (show SlB w1 (some ⟨wb.heap.size, 0, none⟩) 1 1 [1] by rw [← hw1]; exact SlB.new wb.drew [1] #[.int .u8 1] 1 rfl rfl (by omega))
    have hs1 : Hid (w1.heap.size = wb.heap.size + 1) := Lib.hid (by rw [← hw1]; simp)
    clear hw1
    refine hKK.out _ _ (KS.out _ B1.out) (fun hHeld2 => ?_)
    clear hKK KK hHeld
    have hHeld := hHeld2
    clear hHeld2
    try simp only [Act.put, List.getElem_toArray, List.getElem_cons_succ, List.getElem_cons_zero, List.setIfInBounds_toArray, List.set_cons_zero, List.set_cons_succ]
    refine wpAnyH_ready (rs := [0]) (by kernel_rfl) (by simp) ?_
    refine AllReadyH.cons (o := _) rfl (fun KK hKK => ?_) AllReadyH.nil
    go_simp
    obtain ⟨w2, hw2⟩ : ∃ q, World.alloc w1 (.cells #[] 5) = q := ⟨_, rfl⟩
    rw [hw2]
    have B2 := Lib.hid (show Below wb.heap.size wb w2 by rw [← hw2]; exact B1.out.alloc B1.out.size _)
    have O2 := Lib.hid (show OwnB w2 wb.heap.size (.slice (some ⟨w1.heap.size, 0, none⟩) 0 0) [] by rw [← hw2]; exact OwnB.made (w := w1) B1.out.size [] (by simp))
    have Z2 := Lib.hid (show SlB w2 (some ⟨wb.heap.size, 0, none⟩) 1 1 [1] ∧ wb.heap.size ≠ w1.heap.size from ⟨by rw [← hw2]; exact Z1.out.below (Below.newBlock _), by rw [hs1.out]; omega⟩)
    clear hw2
    refine hKK.out _ _ (KS.out _ B2.out) (fun hHeld2 => ?_)
    clear hKK KK hHeld
    have hHeld := hHeld2
    clear hHeld2
    try simp only [Act.put, List.getElem_toArray, List.getElem_cons_succ, List.getElem_cons_zero, List.setIfInBounds_toArray, List.set_cons_zero, List.set_cons_succ]
    refine wpAnyH_ready (rs := [2]) (by kernel_rfl) (by simp) ?_
    refine AllReadyH.cons (o := _) rfl (fun KK hKK => ?_) AllReadyH.nil
    rw [if_pos (by rfl)]
    obtain ⟨v3, w3, hr, hO, hG, hB⟩ := app_bs2 _ _ _ _ _ n0 A O2.out ((H0b.out.below B2.out).asSrc Try.underlying22) HA.out (by simp; omega) B2.out.size
    have OC := Lib.hid (show OwnB w3 wb.heap.size v3 A by rw [List.nil_append] at hO; exact hO)
    have BC := Lib.hid (B2.out.trans hB)
    have SC := Lib.hid (show Src Try.prog 1 22 _ 1 (vals .u8 [1]) w3 from (slb_grown Z2.out.1 hG (by intro b off e; injection e with e; injection e with e1 e2; rw [← e1]; exact Z2.out.2)).asSrc Try.underlying22)
    clear hO hB hG
    refine upon_append (.tmp 8) (.tmp 9) 22 22 rfl _ _ _ _ rfl rfl hr ?_
    clear hr
    refine hKK.out _ _ (KS.out _ BC.out) (fun hHeld2 => ?_)
    clear hKK KK hHeld
    have hHeld := hHeld2
    clear hHeld2
    try simp only [Act.put, List.getElem_toArray, List.getElem_cons_succ, List.getElem_cons_zero, List.setIfInBounds_toArray, List.set_cons_zero, List.set_cons_succ]
    refine wpAnyH_ready (rs := [5]) (by kernel_rfl) (by simp) ?_
    refine AllReadyH.cons (o := _) rfl (fun KK hKK => ?_) AllReadyH.nil
    rw [if_pos (by rfl)]
    obtain ⟨v5, w5, hr, hO, hB⟩ := app_bs _ _ _ _ _ 1 [1] OC.out SC.out rfl (by rw [HA.out]; omega) BC.out.size
    have O5 := Lib.hid hO
    have B5 := Lib.hid (BC.out.trans hB)
    clear hO hB
    refine upon_append (.tmp 10) (.tmp 12) 22 22 rfl _ _ _ _ rfl rfl hr ?_
    clear hr
    refine hKK.out _ _ (KS.out _ B5.out) (fun hHeld2 => ?_)
    clear hKK KK hHeld
    have hHeld := hHeld2
    clear hHeld2
    try simp only [Act.put, List.getElem_toArray, List.getElem_cons_succ, List.getElem_cons_zero, List.setIfInBounds_toArray, List.set_cons_zero, List.set_cons_succ]
    obtain ⟨a5, c5, hv5⟩ := O5.out.slice
    obtain ⟨z5, hz5⟩ : ∃ z, (A ++ [1]).length = z := ⟨_, rfl⟩
    have Z5 := Lib.hid hz5
    rw [hz5] at hv5
    clear hz5
    subst hv5
    have S5 := Lib.hid (O5.out.sl Z5.out)
    have HN1 := Lib.hid (rappendNat_c a5 z5 c5 _ a1 n1 c1 L1 w5 S5.out (H1b.out.below B5.out) (by rw [← Z5.out, List.length_append, HA.out]; simp; omega) (by omega))
    refine wpAnyH_ready (rs := [8]) (by kernel_rfl) (by simp) ?_
    refine AllReadyH.cons (o := _) rfl (fun KK hKK => ?_) AllReadyH.nil
    go_simp
    refine Calls.mono HN1.out ?_
    rintro e w6 ⟨v6, rfl, hO6, hb6⟩
    have B6 := Lib.hid (B5.out.trans (hb6.mono B5.out.size))
    obtain ⟨a6, c6, hv6⟩ := hO6.slice
    obtain ⟨z6, hz6⟩ : ∃ z, ((A ++ [1]) ++ nb L1).length = z := ⟨_, rfl⟩
    have Z6 := Lib.hid hz6
    rw [hz6] at hv6
    clear hz6
    subst hv6
    have S6 := Lib.hid (hO6.sl Z6.out)
    clear hO6 hb6
    have HN2 := Lib.hid (rappendNat_c a6 z6 c6 _ a2 n2 c2 L2 w6 S6.out (H2b.out.below B6.out) (by rw [← Z6.out, List.length_append, List.length_append, HA.out]; have := nl1.out; simp; omega) (by omega))
    go_wp2_with fail
    refine hKK.out _ _ (KS.out _ B6.out) (fun hHeld2 => ?_)
    clear hKK KK hHeld
    have hHeld := hHeld2
    clear hHeld2
    try simp only [Act.put, List.getElem_toArray, List.getElem_cons_succ, List.getElem_cons_zero, List.setIfInBounds_toArray, List.set_cons_zero, List.set_cons_succ]
    refine wpAnyH_ready (rs := [11]) (by kernel_rfl) (by simp) ?_
    refine AllReadyH.cons (o := _) rfl (fun KK hKK => ?_) AllReadyH.nil
    go_simp
    refine Calls.mono HN2.out ?_
    rintro e w7 ⟨v7, rfl, hO7, hb7⟩
    have O7 := Lib.hid (hO7.le (base' := w.heap.size) (by have := BW.out.size; have := B6.out.size; omega))
    have B7 := Lib.hid (B6.out.trans (hb7.mono B6.out.size))
    clear hO7 hb7
    go_wp2_with fail
    refine hKK.out _ _ (KS.out _ B7.out) (fun hHeld2 => ?_)
    clear hKK KK hHeld
    have hHeld := hHeld2
    clear hHeld2
    try simp only [Act.put, List.getElem_toArray, List.getElem_cons_succ, List.getElem_cons_zero, List.setIfInBounds_toArray, List.set_cons_zero, List.set_cons_succ]
    refine wpAnyH_take (i := 12) (oi := _) (v := ?vz18) rfl (by kernel_rfl) (by kernel_rfl) (by kernel_rfl) (fun _ _ _ h => h) (Or.inl ⟨by rfl, ?hyz18⟩) (by assumption) ?restz18
    case hyz18 => (intro wq hSw; (try dsimp only at hSw); first | (go_simp; done) | (go_simp; with_reducible rfl))
    try simp only [Act.put, List.getElem_toArray, List.getElem_cons_succ, List.getElem_cons_zero, List.setIfInBounds_toArray, List.set_cons_zero, List.set_cons_succ]
    refine wpAnyH_done (by kernel_rfl) ?_ _
    try go_simp
    clear hHeld
    go_wp2
    refine bodyPost_ret (results_tmp rfl _ _ _) rfl ?_
    have e7 : A ++ ([1] ++ nb L1 ++ nb L2) = A ++ [1] ++ nb L1 ++ nb L2 := by simp only [List.append_assoc]
    have g7 : OwnB w7 w.heap.size v7 (A ++ ([1] ++ nb L1 ++ nb L2)) := by rw [e7]; exact O7.out
    exact ⟨_, rfl, g7, BW.out.trans (B7.out.mono BW.out.size)⟩

end Go.Proofs.Ytbdmljdcipcanaa
