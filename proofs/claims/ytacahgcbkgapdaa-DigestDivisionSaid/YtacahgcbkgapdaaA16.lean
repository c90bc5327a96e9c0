/- The law of the clone. -/
import Derived.Test.YtacahgcbkgapdaaA15
import Derived.Laws.AppendOwnNone
import Derived.Deep.RegionWith
namespace Go.Proofs.Ytacahgcbkgapdaa
open Go.RowKit
set_option linter.unusedVariables false

theorem SlB.grownH {w w' : World} {ad : Option Addr} {n cap H : Nat} {l : List Int} (h : SlB w ad n cap l) (hg : w.grownBy w' (some H)) (hlt : ∀ b off, ad = some ⟨b, off, none⟩ → 0 < n → b ≠ H) : SlB w' ad n cap l := by
  obtain ⟨h1, h2, h3, h4⟩ := h
  refine ⟨h1, h2, h3, ?_⟩
  rcases h4 with h4 | ⟨b, off, e, hl, hc⟩
  · exact .inl h4
  · by_cases h0 : 0 < n
    · exact .inr ⟨b, off, e, Nat.lt_of_lt_of_le hl hg.size, fun i hi => hg.cell (hc i hi) (by simpa using hlt b off e h0)⟩
    · exact .inl (by omega)
theorem SlB.alloc {w : World} {ad : Option Addr} {n cap : Nat} {l : List Int} (h : SlB w ad n cap l) (o : Obj) : SlB (w.alloc o) ad n cap l := h.below ((Below.refl _ _).alloc (Nat.le_refl _) _)
theorem HMsg.grownO {w w' : World} {H : Nat} {m : List Int} {r : Option Nat} (h : HMsg w H m) (hg : w.grownBy w' r) (hne : some H ≠ r) : HMsg w' H m := by
  obtain ⟨h1, h2, B, h3, h4, h5⟩ := h
  exact ⟨h1, h2, B, h3, h4, h5.grownO hg hne⟩
theorem Row.loadFrom {w : World} {g : Nat} {D : List Int} (h : Row w g 24 (vals .u8 D)) (hn : D.length = 32) : (loadCellsFrom ⟨g, 0, none⟩ 0 32 #[]).run Try.prog w = .ok (vals .u8 D).toArray w := by
  have := run_loadCells_list (P := Try.prog) w ⟨g, 0, none⟩ (vals .u8 D) (fun j v hv => by rw [Addr.add_mid, Nat.zero_add]; exact h.cell j hv)
  have e : (vals .u8 D).length = 32 := by simp [hn]
  rw [e] at this
  exact this
set_option maxHeartbeats 2000000 in
set_option maxRecDepth 100000 in
theorem law_clone (a0 : Option Addr) (n0 c0 : Nat) (l0 : List Int) (a1 : Option Addr) (n1 c1 : Nat) (l1 : List Int) (a2 : Option Addr) (n2 c2 : Nat) (l2 : List Int) (w : World)
    (h0 : SlB w a0 n0 c0 l0) (z0 : a0 = none → n0 = 0 ∧ c0 = 0) (h1 : SlB w a1 n1 c1 l1) (z1 : a1 = none → n1 = 0 ∧ c1 = 0) (h2 : SlB w a2 n2 c2 l2) (z2 : a2 = none → n2 = 0 ∧ c2 = 0)
    (b0 : n0 ≤ 140737488351232) (b1 : n1 ≤ 140737488351232) (b2 : n2 ≤ 140737488351232) :
    Calls Try.prog 6 #[.slice a0 n0 c0, .slice a1 n1 c1, .slice a2 n2 c2] w fun e w' => e = .returned (.bool true) ∧ Below w.heap.size w w' := by
  have H0 := Lib.hid h0; clear h0
  have H1 := Lib.hid h1; clear h1
  have H2 := Lib.hid h2; clear h2
  have Z0 := Lib.hid z0; clear z0
  have Z1 := Lib.hid z1; clear z1
  have Z2 := Lib.hid z2; clear z2
  have L0 := Lib.hid H0.out.1
  have L1 := Lib.hid H1.out.1
  have L2 := Lib.hid H2.out.1
  by_cases hn : (500 : Int) < (n0 : Int) + n1 + n2
  · go_enter Try.func6, Try.ntmps6
    go_wp2_with fail
    refine (awake_c w).mono ?_
    rintro e w1 ⟨rfl, hb1⟩
    have B1 := Lib.hid hb1
    clear hb1
    go_wp2_with fail
    refine (awake_c w1).mono ?_
    rintro e w2 ⟨rfl, hb2⟩
    have B2 := Lib.hid (B1.out.trans (hb2.mono B1.out.size))
    go_wp2
    refine bodyPost_ret (results_tmp rfl _ _ _) rfl ?_
    exact ⟨rfl, B2.out⟩
  · have s0 : n0 ≤ 500 := by omega
    have s1 : n1 ≤ 500 := by omega
    have s2 : n2 ≤ 500 := by omega
    have HR1 := Lib.hid (fun (va : Option Addr) (vc : Nat) (W : World) (h : SlB W va (n0 + n1) vc (l0 ++ l1)) (hz : va = none → n0 + n1 = 0 ∧ vc = 0) => refSum_c va (n0 + n1) vc (l0 ++ l1) W h (by omega) hz)
    have HR2 := Lib.hid (fun (va : Option Addr) (vc : Nat) (W : World) (h : SlB W va (n0 + n2) vc (l0 ++ l2)) (hz : va = none → n0 + n2 = 0 ∧ vc = 0) => refSum_c va (n0 + n2) vc (l0 ++ l2) W h (by omega) hz)
    have HM1 := Lib.hid (fun (H : Nat) (W : World) (h : HMsg W H (l0 ++ l1)) => sum_c H (l0 ++ l1) W (by rw [List.length_append, L0.out, L1.out]; omega) h)
    have HM2 := Lib.hid (fun (H : Nat) (W : World) (h : HMsg W H (l0 ++ l2)) => sum_c H (l0 ++ l2) W (by rw [List.length_append, L0.out, L2.out]; omega) h)
    have lD1 : Hid ((dig (l0 ++ l1)).length = 32) := Lib.hid (dig_len _)
    have lD2 : Hid ((dig (l0 ++ l2)).length = 32) := Lib.hid (dig_len _)
    obtain ⟨D1, hD1⟩ : ∃ D, dig (l0 ++ l1) = D := ⟨_, rfl⟩
    obtain ⟨D2, hD2⟩ : ∃ D, dig (l0 ++ l2) = D := ⟨_, rfl⟩
    rw [hD1] at HR1 HM1 lD1
    rw [hD2] at HR2 HM2 lD2
    clear hD1 hD2
    go_enter Try.func6, Try.ntmps6
    go_wp2_with fail
    refine (awake_c w).mono ?_
    rintro e w1 ⟨rfl, hb1⟩
    have B1 := Lib.hid hb1
    have S0 := Lib.hid (H0.out.below hb1)
    have S1 := Lib.hid (H1.out.below hb1)
    have S2 := Lib.hid (H2.out.below hb1)
    have N0 := Lib.hid S0.out.block
    have N1 := Lib.hid S1.out.block
    have N2 := Lib.hid S2.out.block
    clear hb1 H0 H1 H2
    go_wp2_with fail
    refine (new_c w1).mono ?_
    rintro e w2 ⟨rfl, hw2⟩
    have M2 : Hid (HMsg w2 w1.heap.size []) := Lib.hid (by rw [hw2]; exact hcells_new w1)
    have B12 : Hid (Below w1.heap.size w1 w2) := Lib.hid (by rw [hw2]; exact (Below.refl _ _).alloc (Nat.le_refl _) _)
    have B2 := Lib.hid (B1.out.trans (B12.out.mono B1.out.size))
    have P0 := Lib.hid (S0.out.below B12.out)
    have P1 := Lib.hid (S1.out.below B12.out)
    have P2 := Lib.hid (S2.out.below B12.out)
    clear hw2 B12 S0 S1 S2
    go_wp2_with fail
    refine (write_sl w1.heap.size n0 c0 a0 [] l0 w2 P0.out (by simp; omega) (fun h b off e => by have := N0.out b off e h; omega) M2.out).mono ?_
    rintro e w3 ⟨rfl, h3, g3⟩
    rw [List.nil_append] at h3
    have M3 := Lib.hid h3
    have S0 := Lib.hid (P0.out.grownH g3 (fun b off e h => by have := N0.out b off e h; omega))
    have S1 := Lib.hid (P1.out.grownH g3 (fun b off e h => by have := N1.out b off e h; omega))
    have S2 := Lib.hid (P2.out.grownH g3 (fun b off e h => by have := N2.out b off e h; omega))
    have B3 := Lib.hid (below_grown B2.out g3 B2.out.size B1.out.size)
    clear h3 g3 P0 P1 P2 M2
    go_wp2_with fail
    refine (clone_c w1.heap.size l0 w3 M3.out).mono ?_
    rintro e w4 ⟨rfl, h4, hb4⟩
    have K4 := Lib.hid h4
    have M4 := Lib.hid (M3.out.grownB hb4 M3.out.lt)
    have T0 := Lib.hid (S0.out.below hb4)
    have T1 := Lib.hid (S1.out.below hb4)
    have T2 := Lib.hid (S2.out.below hb4)
    have B4 := Lib.hid (B3.out.trans (hb4.mono B3.out.size))
    have lt3 : Hid (w1.heap.size < w3.heap.size) := Lib.hid M3.out.lt
    clear h4 hb4 S0 S1 S2 M3
    go_wp2_with fail
    refine (write_sl w1.heap.size n1 c1 a1 l0 l1 w4 T1.out (by rw [L0.out]; omega) (fun h b off e => by have := N1.out b off e h; omega) M4.out).mono ?_
    rintro e w5 ⟨rfl, h5, g5⟩
    have M5 := Lib.hid h5
    have K5 := Lib.hid (K4.out.grownO g5 (fun e => by have e' := Option.some.inj e; have := lt3.out; omega))
    have S0 := Lib.hid (T0.out.grownH g5 (fun b off e h => by have := N0.out b off e h; omega))
    have S1 := Lib.hid (T1.out.grownH g5 (fun b off e h => by have := N1.out b off e h; omega))
    have S2 := Lib.hid (T2.out.grownH g5 (fun b off e h => by have := N2.out b off e h; omega))
    have B5 := Lib.hid (below_grown B4.out g5 B4.out.size B1.out.size)
    clear h5 g5 T0 T1 T2 M4 K4
    go_wp2_with fail
    refine (write_sl w3.heap.size n2 c2 a2 l0 l2 w5 S2.out (by rw [L0.out]; omega) (fun h b off e => by have := N2.out b off e h; have := lt3.out; omega) K5.out).mono ?_
    rintro e w6 ⟨rfl, h6, g6⟩
    have K6 := Lib.hid h6
    have M6 := Lib.hid (M5.out.grownO g6 (fun e => by have e' := Option.some.inj e; have := lt3.out; omega))
    have T0 := Lib.hid (S0.out.grownH g6 (fun b off e h => by have := N0.out b off e h; have := lt3.out; omega))
    have T1 := Lib.hid (S1.out.grownH g6 (fun b off e h => by have := N1.out b off e h; have := lt3.out; omega))
    have T2 := Lib.hid (S2.out.grownH g6 (fun b off e h => by have := N2.out b off e h; have := lt3.out; omega))
    have B6 := Lib.hid (below_grown B5.out g6 B5.out.size B3.out.size)
    clear h6 g6 S0 S1 S2 M5 K5

    have OH1 : Hid ((w6.alloc (.cells #[] 5)).ownsRow w6.heap.size 5 1 (.slice (some ⟨w6.heap.size, 0, none⟩) 0 0) 0 []) := Lib.hid (World.ownsRow_made w6 #[] 0 (Nat.le_refl _) (by unfold maxLen; omega) rfl)
    go_wp2_with (first
      | (at_builtin; refine wpList_append_sl rfl (.tmp 39) (.tmp 40) rfl w6.heap.size _ _ _ rfl OH1.out a0 n0 c0 l0 rfl (T0.out.alloc _) Z0.out (by omega) (by rw [World.size_alloc]; omega) ?_
         intro v1 wa O1 G1; rw [Nat.zero_add, List.nil_append] at O1; have OA := Lib.hid O1
         have BA : Hid (Below w6.heap.size w6 wa) := Lib.hid (below_grownO ((Below.refl w6.heap.size w6).alloc (o := .cells #[] 5) (Nat.le_refl _)) G1 (by rw [World.size_alloc]; omega) (fun k hk => by have e' := Option.some.inj (show some w6.heap.size = some k from hk); omega)); clear O1 G1)
      | (at_builtin; refine wpList_append_sl rfl (.tmp 41) (.tmp 42) rfl w6.heap.size _ _ _ rfl OA.out a1 n1 c1 l1 rfl (T1.out.below BA.out) Z1.out (by omega) BA.out.size ?_
         intro v2 wb O2 G2; have OB := Lib.hid O2
         have BB : Hid (Below w6.heap.size w6 wb) := Lib.hid (below_grownO BA.out G2 BA.out.size (fun k hk => (OA.out.lt k hk).1)); clear O2 G2))
    obtain ⟨va, vc, rfl⟩ := own_slice OB.out
    have ho : OwnB wb w6.heap.size (.slice va (n0 + n1) vc) (l0 ++ l1) := by
      have := OB.out
      unfold OwnB; rw [List.length_append, L0.out, L1.out]; simpa [vals] using this
    have C2 := Lib.hid (sl_of_own ho (by rw [List.length_append, L0.out, L1.out]))
    clear ho OA OB BA OH1
    refine (HR1.out va vc wb C2.out.1 C2.out.2).mono ?_
    rintro e wc ⟨rfl, hc⟩
    have BC := Lib.hid (BB.out.trans (hc.mono BB.out.size))
    clear hc BB C2
    go_wp2_with fail
    obtain ⟨wd, hwd⟩ : ∃ wd : World, wd = wc.alloc (.cells (vals .u8 (List.replicate 32 0)).toArray 24) := ⟨_, rfl⟩
    have RD : Hid (Row wd wc.heap.size 24 (vals .u8 (List.replicate 32 0))) := Lib.hid (by rw [hwd]; exact Row.new wc 24 _)
    have BD : Hid (Below w6.heap.size w6 wd) := Lib.hid (by rw [hwd]; exact BC.out.alloc BC.out.size _)
    have gq1 : Hid (w6.heap.size ≤ wc.heap.size) := Lib.hid BC.out.size
    obtain ⟨g1, hg1⟩ : ∃ g, wc.heap.size = g := ⟨_, rfl⟩
    rw [hg1] at RD gq1
    simp only [vals, List.replicate, List.map_cons, List.map_nil] at hwd
    rw [← hwd, hg1]
    clear hwd hg1 BC
    rw [storeRow RD.out (by simp [lD1.out]) vals_one']
    simp only [Result.andThen_ok]
    rw [Oper.upon_skip]
    obtain ⟨w7, hwe⟩ : ∃ we, wd.setRow g1 (vals .u8 D1).toArray = we := ⟨_, rfl⟩
    rw [hwe]
    have R1 : Hid (Row w7 g1 24 (vals .u8 D1)) := Lib.hid (by rw [← hwe]; exact RD.out.setRow _)
    have BE : Hid (Below w6.heap.size w6 w7) := Lib.hid (by rw [← hwe]; exact below_setRow BD.out gq1.out _)
    clear hwe RD BD

    have U0 := Lib.hid (T0.out.below BE.out)
    have U2 := Lib.hid (T2.out.below BE.out)
    have M7 := Lib.hid (M6.out.grownB BE.out M6.out.lt)
    have K7 := Lib.hid (K6.out.grownB BE.out K6.out.lt)
    have B7 := Lib.hid (B6.out.trans (BE.out.mono B6.out.size))
    clear BE T0 T1 T2 M6 K6 B6
    have T0 := Lib.hid U0.out
    have T2 := Lib.hid U2.out
    clear U0 U2

    have OH2 : Hid ((w7.alloc (.cells #[] 5)).ownsRow w7.heap.size 5 1 (.slice (some ⟨w7.heap.size, 0, none⟩) 0 0) 0 []) := Lib.hid (World.ownsRow_made w7 #[] 0 (Nat.le_refl _) (by unfold maxLen; omega) rfl)
    go_wp2_with (first
      | (at_builtin; refine wpList_append_sl rfl (.tmp 45) (.tmp 46) rfl w7.heap.size _ _ _ rfl OH2.out a0 n0 c0 l0 rfl (T0.out.alloc _) Z0.out (by omega) (by rw [World.size_alloc]; omega) ?_
         intro v1 wa O1 G1; rw [Nat.zero_add, List.nil_append] at O1; have OA := Lib.hid O1
         have BA : Hid (Below w7.heap.size w7 wa) := Lib.hid (below_grownO ((Below.refl w7.heap.size w7).alloc (o := .cells #[] 5) (Nat.le_refl _)) G1 (by rw [World.size_alloc]; omega) (fun k hk => by have e' := Option.some.inj (show some w7.heap.size = some k from hk); omega)); clear O1 G1)
      | (at_builtin; refine wpList_append_sl rfl (.tmp 47) (.tmp 48) rfl w7.heap.size _ _ _ rfl OA.out a2 n2 c2 l2 rfl (T2.out.below BA.out) Z2.out (by omega) BA.out.size ?_
         intro v2 wb O2 G2; have OB := Lib.hid O2
         have BB : Hid (Below w7.heap.size w7 wb) := Lib.hid (below_grownO BA.out G2 BA.out.size (fun k hk => (OA.out.lt k hk).1)); clear O2 G2))
    obtain ⟨va, vc, rfl⟩ := own_slice OB.out
    have ho : OwnB wb w7.heap.size (.slice va (n0 + n2) vc) (l0 ++ l2) := by
      have := OB.out
      unfold OwnB; rw [List.length_append, L0.out, L2.out]; simpa [vals] using this
    have C2 := Lib.hid (sl_of_own ho (by rw [List.length_append, L0.out, L2.out]))
    clear ho OA OB BA OH2
    refine (HR2.out va vc wb C2.out.1 C2.out.2).mono ?_
    rintro e wc ⟨rfl, hc⟩
    have BC := Lib.hid (BB.out.trans (hc.mono BB.out.size))
    clear hc BB C2
    go_wp2_with fail
    obtain ⟨wd, hwd⟩ : ∃ wd : World, wd = wc.alloc (.cells (vals .u8 (List.replicate 32 0)).toArray 24) := ⟨_, rfl⟩
    have RD : Hid (Row wd wc.heap.size 24 (vals .u8 (List.replicate 32 0))) := Lib.hid (by rw [hwd]; exact Row.new wc 24 _)
    have BD : Hid (Below w7.heap.size w7 wd) := Lib.hid (by rw [hwd]; exact BC.out.alloc BC.out.size _)
    have gq2 : Hid (w7.heap.size ≤ wc.heap.size) := Lib.hid BC.out.size
    obtain ⟨g2, hg2⟩ : ∃ g, wc.heap.size = g := ⟨_, rfl⟩
    rw [hg2] at RD gq2
    simp only [vals, List.replicate, List.map_cons, List.map_nil] at hwd
    rw [← hwd, hg2]
    clear hwd hg2 BC
    rw [storeRow RD.out (by simp [lD2.out]) vals_one']
    simp only [Result.andThen_ok]
    rw [Oper.upon_skip]
    obtain ⟨w8, hwe⟩ : ∃ we, wd.setRow g2 (vals .u8 D2).toArray = we := ⟨_, rfl⟩
    rw [hwe]
    have R2 : Hid (Row w8 g2 24 (vals .u8 D2)) := Lib.hid (by rw [← hwe]; exact RD.out.setRow _)
    have BE : Hid (Below w7.heap.size w7 w8) := Lib.hid (by rw [← hwe]; exact below_setRow BD.out gq2.out _)
    clear hwe RD BD

    have Q1 := Lib.hid (R1.out.below BE.out R1.out.lt)
    have M8 := Lib.hid (M7.out.grownB BE.out M7.out.lt)
    have K8 := Lib.hid (K7.out.grownB BE.out K7.out.lt)
    have B8 := Lib.hid (B7.out.trans (BE.out.mono B7.out.size))
    clear BE T0 T2 M7 K7 B7 R1
    go_wp2
    have Md : Hid (HMsg w8.drew w1.heap.size (l0 ++ l1)) := Lib.hid (by exact M8.out)
    have Kd : Hid (HMsg w8.drew w3.heap.size (l0 ++ l2)) := Lib.hid (by exact K8.out)
    have Qd1 : Hid (Row w8.drew g1 24 (vals .u8 D1)) := Lib.hid (by exact Q1.out)
    have Qd2 : Hid (Row w8.drew g2 24 (vals .u8 D2)) := Lib.hid (by exact R2.out)
    have Bd : Hid (Below w.heap.size w w8.drew) := Lib.hid (below_drew1 B8.out)
    have hs1 : Hid ((Try.prog.info? 24).map (·.size) = some (vals .u8 D1).toArray.size) := Lib.hid (by rw [info24]; simp [lD1.out])
    have hs2 : Hid ((Try.prog.info? 24).map (·.size) = some (vals .u8 D2).toArray.size) := Lib.hid (by rw [info24]; simp [lD2.out])
    clear M8 K8 Q1 R2 B8 HR1 HR2
    refine wp_region_any (by kernel_rfl) ?_
    change wpAny _ _ _ _ _ _ _ (World.drew _)
    refine wpAny_take (i := 0) (v := ?_) rfl (by kernel_rfl) (by kernel_rfl) (by kernel_rfl) (fun _ _ _ h => h) (Or.inl ⟨by rfl, ?_⟩) ?_
    rotate_left
    · intro w; go_simp; try with_reducible rfl
    refine wpAny_ready (rs := [1, 2]) (by kernel_rfl) (by simp) ?_
    refine AllReady.cons rfl (fun K hK => ?_) (AllReady.cons rfl (fun K hK => ?_) AllReady.nil)
    · go_simp
      go_wp2_with (go_at_call_of 14 (World.heap w1).size; refine (HM1.out _ _ Md.out).mono ?_; rintro e wx ⟨rfl, hx⟩; have Kx := Lib.hid (Kd.out.grownB hx Kd.out.lt); have Qx1 := Lib.hid (Qd1.out.below hx Qd1.out.lt); have Qx2 := Lib.hid (Qd2.out.below hx Qd2.out.lt); have Bx := Lib.hid (Bd.out.trans (hx.mono Bd.out.size)); clear hx; have q1 := eqIn_same wx D1 lD1.out; have q2 := fun x y => grd wx .eql x y (vals .u8 D1).toArray (vals .u8 D1).toArray)
      refine wpAny_ready (rs := [2]) (by kernel_rfl) (by simp) ?_
      refine AllReady.cons rfl (fun K hK => ?_) AllReady.nil
      rw [if_pos (by kernel_rfl)]
      refine wp_load_row 24 _ rfl g1 rfl 24 (vals .u8 D1).toArray (0, 0) _ Qx1.out Try.underlying24 rfl hs1.out ?_
      refine hK _ _ ?_
      clear hK K
      refine wpAny_ready (rs := [3]) (by kernel_rfl) (by simp) ?_
      refine AllReady.cons rfl (fun K hK => ?_) AllReady.nil
      go_simp
      refine hK _ _ ?_
      clear hK K
      refine wpAny_take (i := 4) (v := ?_) rfl (by kernel_rfl) (by kernel_rfl) (by kernel_rfl) (fun _ _ _ h => h) (Or.inl ⟨by rfl, ?_⟩) ?_
      rotate_left
      · intro w; go_simp; try with_reducible rfl
      refine wpAny_take (i := 5) (v := ?_) rfl (by kernel_rfl) (by kernel_rfl) (by kernel_rfl) (fun _ _ _ h => h) (Or.inl ⟨by rfl, ?_⟩) ?_
      rotate_left
      · intro w; go_simp; try with_reducible rfl
      refine wpAny_ready (rs := [6, 7]) (by kernel_rfl) (by simp) ?_
      refine AllReady.cons rfl (fun K hK => ?_) (AllReady.cons rfl (fun K hK => ?_) AllReady.nil)
      · go_simp
        go_wp2_with (go_at_call_of 14 (World.heap w3).size; refine (HM2.out _ _ Kx.out).mono ?_; rintro e wy ⟨rfl, hy⟩; have Qy2 := Lib.hid (Qx2.out.below hy Qx2.out.lt); have By := Lib.hid (Bx.out.trans (hy.mono Bx.out.size)); clear hy; have q3 := eqIn_same wy D2 lD2.out; have q4 := fun x y => grd wy .eql x y (vals .u8 D2).toArray (vals .u8 D2).toArray)
        refine wpAny_ready (rs := [7]) (by kernel_rfl) (by simp) ?_
        refine AllReady.cons rfl (fun K hK => ?_) AllReady.nil
        rw [if_pos (by kernel_rfl)]
        refine wp_load_row 24 _ rfl g2 rfl 24 (vals .u8 D2).toArray (0, 0) _ Qy2.out Try.underlying24 rfl hs2.out ?_
        refine hK _ _ ?_
        clear hK K
        refine wpAny_ready (rs := [8]) (by kernel_rfl) (by simp) ?_
        refine AllReady.cons rfl (fun K hK => ?_) AllReady.nil
        go_simp
        refine hK _ _ ?_
        clear hK K
        refine wpAny_ready (rs := [9]) (by kernel_rfl) (by simp) ?_
        refine AllReady.cons rfl (fun K hK => ?_) AllReady.nil
        go_simp
        refine hK _ _ ?_
        clear hK K
        refine wpAny_ready (rs := [10]) (by kernel_rfl) (by simp) ?_
        refine AllReady.cons rfl (fun K hK => ?_) AllReady.nil
        go_simp
        refine hK _ _ ?_
        clear hK K
        refine wpAny_done (by kernel_rfl) ?_ _
        go_wp2
        refine bodyPost_ret (results_tmp rfl _ _ _) rfl ?_
        exact ⟨rfl, By.out⟩
      · rw [if_pos (by kernel_rfl)]
        refine wp_load_row 24 _ rfl g2 rfl 24 (vals .u8 D2).toArray (0, 0) _ Qx2.out Try.underlying24 rfl hs2.out ?_
        refine hK _ _ ?_
        clear hK K
        refine wpAny_ready (rs := [6]) (by kernel_rfl) (by simp) ?_
        refine AllReady.cons rfl (fun K hK => ?_) AllReady.nil
        go_simp
        go_wp2_with (go_at_call_of 14 (World.heap w3).size; refine (HM2.out _ _ Kx.out).mono ?_; rintro e wy ⟨rfl, hy⟩; have Qy2 := Lib.hid (Qx2.out.below hy Qx2.out.lt); have By := Lib.hid (Bx.out.trans (hy.mono Bx.out.size)); clear hy; have q3 := eqIn_same wy D2 lD2.out; have q4 := fun x y => grd wy .eql x y (vals .u8 D2).toArray (vals .u8 D2).toArray)
        refine wpAny_ready (rs := [8]) (by kernel_rfl) (by simp) ?_
        refine AllReady.cons rfl (fun K hK => ?_) AllReady.nil
        go_simp
        refine hK _ _ ?_
        clear hK K
        refine wpAny_ready (rs := [9]) (by kernel_rfl) (by simp) ?_
        refine AllReady.cons rfl (fun K hK => ?_) AllReady.nil
        go_simp
        refine hK _ _ ?_
        clear hK K
        refine wpAny_ready (rs := [10]) (by kernel_rfl) (by simp) ?_
        refine AllReady.cons rfl (fun K hK => ?_) AllReady.nil
        go_simp
        refine hK _ _ ?_
        clear hK K
        refine wpAny_done (by kernel_rfl) ?_ _
        go_wp2
        refine bodyPost_ret (results_tmp rfl _ _ _) rfl ?_
        exact ⟨rfl, By.out⟩
    · rw [if_pos (by kernel_rfl)]
      refine wp_load_row 24 _ rfl g1 rfl 24 (vals .u8 D1).toArray (0, 0) _ Qd1.out Try.underlying24 rfl hs1.out ?_
      refine hK _ _ ?_
      clear hK K
      refine wpAny_ready (rs := [1]) (by kernel_rfl) (by simp) ?_
      refine AllReady.cons rfl (fun K hK => ?_) AllReady.nil
      go_simp
      go_wp2_with (go_at_call_of 14 (World.heap w1).size; refine (HM1.out _ _ Md.out).mono ?_; rintro e wx ⟨rfl, hx⟩; have Kx := Lib.hid (Kd.out.grownB hx Kd.out.lt); have Qx1 := Lib.hid (Qd1.out.below hx Qd1.out.lt); have Qx2 := Lib.hid (Qd2.out.below hx Qd2.out.lt); have Bx := Lib.hid (Bd.out.trans (hx.mono Bd.out.size)); clear hx; have q1 := eqIn_same wx D1 lD1.out; have q2 := fun x y => grd wx .eql x y (vals .u8 D1).toArray (vals .u8 D1).toArray)
      refine wpAny_ready (rs := [3]) (by kernel_rfl) (by simp) ?_
      refine AllReady.cons rfl (fun K hK => ?_) AllReady.nil
      go_simp
      refine hK _ _ ?_
      clear hK K
      refine wpAny_take (i := 4) (v := ?_) rfl (by kernel_rfl) (by kernel_rfl) (by kernel_rfl) (fun _ _ _ h => h) (Or.inl ⟨by rfl, ?_⟩) ?_
      rotate_left
      · intro w; go_simp; try with_reducible rfl
      refine wpAny_take (i := 5) (v := ?_) rfl (by kernel_rfl) (by kernel_rfl) (by kernel_rfl) (fun _ _ _ h => h) (Or.inl ⟨by rfl, ?_⟩) ?_
      rotate_left
      · intro w; go_simp; try with_reducible rfl
      refine wpAny_ready (rs := [6, 7]) (by kernel_rfl) (by simp) ?_
      refine AllReady.cons rfl (fun K hK => ?_) (AllReady.cons rfl (fun K hK => ?_) AllReady.nil)
      · go_simp
        go_wp2_with (go_at_call_of 14 (World.heap w3).size; refine (HM2.out _ _ Kx.out).mono ?_; rintro e wy ⟨rfl, hy⟩; have Qy2 := Lib.hid (Qx2.out.below hy Qx2.out.lt); have By := Lib.hid (Bx.out.trans (hy.mono Bx.out.size)); clear hy; have q3 := eqIn_same wy D2 lD2.out; have q4 := fun x y => grd wy .eql x y (vals .u8 D2).toArray (vals .u8 D2).toArray)
        refine wpAny_ready (rs := [7]) (by kernel_rfl) (by simp) ?_
        refine AllReady.cons rfl (fun K hK => ?_) AllReady.nil
        rw [if_pos (by kernel_rfl)]
        refine wp_load_row 24 _ rfl g2 rfl 24 (vals .u8 D2).toArray (0, 0) _ Qy2.out Try.underlying24 rfl hs2.out ?_
        refine hK _ _ ?_
        clear hK K
        refine wpAny_ready (rs := [8]) (by kernel_rfl) (by simp) ?_
        refine AllReady.cons rfl (fun K hK => ?_) AllReady.nil
        go_simp
        refine hK _ _ ?_
        clear hK K
        refine wpAny_ready (rs := [9]) (by kernel_rfl) (by simp) ?_
        refine AllReady.cons rfl (fun K hK => ?_) AllReady.nil
        go_simp
        refine hK _ _ ?_
        clear hK K
        refine wpAny_ready (rs := [10]) (by kernel_rfl) (by simp) ?_
        refine AllReady.cons rfl (fun K hK => ?_) AllReady.nil
        go_simp
        refine hK _ _ ?_
        clear hK K
        refine wpAny_done (by kernel_rfl) ?_ _
        go_wp2
        refine bodyPost_ret (results_tmp rfl _ _ _) rfl ?_
        exact ⟨rfl, By.out⟩
      · rw [if_pos (by kernel_rfl)]
        refine wp_load_row 24 _ rfl g2 rfl 24 (vals .u8 D2).toArray (0, 0) _ Qx2.out Try.underlying24 rfl hs2.out ?_
        refine hK _ _ ?_
        clear hK K
        refine wpAny_ready (rs := [6]) (by kernel_rfl) (by simp) ?_
        refine AllReady.cons rfl (fun K hK => ?_) AllReady.nil
        go_simp
        go_wp2_with (go_at_call_of 14 (World.heap w3).size; refine (HM2.out _ _ Kx.out).mono ?_; rintro e wy ⟨rfl, hy⟩; have Qy2 := Lib.hid (Qx2.out.below hy Qx2.out.lt); have By := Lib.hid (Bx.out.trans (hy.mono Bx.out.size)); clear hy; have q3 := eqIn_same wy D2 lD2.out; have q4 := fun x y => grd wy .eql x y (vals .u8 D2).toArray (vals .u8 D2).toArray)
        refine wpAny_ready (rs := [8]) (by kernel_rfl) (by simp) ?_
        refine AllReady.cons rfl (fun K hK => ?_) AllReady.nil
        go_simp
        refine hK _ _ ?_
        clear hK K
        refine wpAny_ready (rs := [9]) (by kernel_rfl) (by simp) ?_
        refine AllReady.cons rfl (fun K hK => ?_) AllReady.nil
        go_simp
        refine hK _ _ ?_
        clear hK K
        refine wpAny_ready (rs := [10]) (by kernel_rfl) (by simp) ?_
        refine AllReady.cons rfl (fun K hK => ?_) AllReady.nil
        go_simp
        refine hK _ _ ?_
        clear hK K
        refine wpAny_done (by kernel_rfl) ?_ _
        go_wp2
        refine bodyPost_ret (results_tmp rfl _ _ _) rfl ?_
        exact ⟨rfl, By.out⟩

end Go.Proofs.Ytacahgcbkgapdaa
