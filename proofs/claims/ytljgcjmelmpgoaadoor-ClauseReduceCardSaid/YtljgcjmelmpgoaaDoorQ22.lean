/- Compact. -/
import Derived.Test.YtljgcjmelmpgoaaDoorQ21
namespace Go.Proofs.YtljgcjmelmpgoaaDoor
open Go.RowKit
set_option linter.unusedVariables false

/-- what slices.Compact leaves -/
def CompSays (w : World) (base g off cap : Nat) (L : List Lt) (e : Ending) (w' : World) : Prop :=
  ∃ m, e = .returned (.slice (some ⟨g, off, none⟩) m cap) ∧ (compact L).length = m ∧ OwnL w' base (.slice (some ⟨g, 0, none⟩) m cap) (compact L) ∧ Below base w w'
set_option maxHeartbeats 4000000 in
set_option maxRecDepth 100000 in
theorem compact_off (base g off n cap : Nat) (ho : off = 0) (L : List Lt) (w : World) (hO : OwnL w base (.slice (some ⟨g, 0, none⟩) n cap) L) (hL : L.length = n) (hn : n ≤ 4000) (hb : base ≤ w.heap.size) :
    Calls Tryd.prog 36 #[.slice (some ⟨g, off, none⟩) n cap] w fun e w' => CompSays w base g off cap L e w' := by
  have HO := Lib.hid hO
  have HL := Lib.hid hL
  have HOFF := Lib.hid ho
  have HBS := Lib.hid hb
  obtain ⟨hbg, hnc, hcm, hgs⟩ := hO.base
  have HBG := Lib.hid hbg
  have HGS := Lib.hid hgs
  clear hO hL ho hb hbg hgs
  by_cases h2 : n < 2
  · have hc : Hid (compact L = L) := Lib.hid (by
      have := compact_same (L := L) (k := n) (by rw [HL.out]; exact Nat.le_refl _) (fun i hi => by omega)
      rwa [List.take_of_length_le (by rw [HL.out]; exact Nat.le_refl _)] at this)
    go_enter Tryd.func36, Tryd.ntmps36
    go_wp2
    refine bodyPost_ret (results_tmp rfl _ _ _) rfl ?_
    exact ⟨n, rfl, by rw [hc.out, HL.out], by rw [hc.out]; exact HO.out, Below.refl _ _⟩
  · have h2' : ¬ (n : Int) < 2 := by omega
    go_enter Tryd.func36, Tryd.ntmps36
    go_wp2
    go_loopw [3] (fun s wr => ∃ (k : Nat), 1 ≤ k ∧ k ≤ n ∧ s = .int .i64 (k : Nat) ∧ Hid (∀ i, i + 1 < k → L.getD i d0 ≠ L.getD (i + 1) d0) ∧ Hid (Below w.heap.size w wr)) (fun s _ => n - (intOf s).toNat)
    case atStart => exact ⟨1, by omega, by omega, rfl, Lib.hid (fun i hi => by omega), Lib.hid (Below.refl _ _)⟩
    case round =>
      obtain ⟨k, hk1, hk, rfl, HN, HB⟩ := hrel
      have OR := Lib.hid (HO.out.below HB.out)
      have BR := Lib.hid (HB.out.mono HBS.out)
      by_cases hlt : k < n
      · obtain ⟨y0, y1, _, _⟩ := OR.out.cell HL.out HOFF.out hlt
        obtain ⟨x0, x1, _, _⟩ := OR.out.cell HL.out HOFF.out (i := k - 1) (by omega)
        obtain ⟨xu, hxu⟩ : ∃ u, (L.getD (k - 1) d0).1 = u := ⟨_, rfl⟩
        obtain ⟨xo, hxo⟩ : ∃ u, (L.getD (k - 1) d0).2 = u := ⟨_, rfl⟩
        obtain ⟨yu, hyu⟩ : ∃ u, (L.getD k d0).1 = u := ⟨_, rfl⟩
        obtain ⟨yo, hyo⟩ : ∃ u, (L.getD k d0).2 = u := ⟨_, rfl⟩
        rw [hxu] at x0
        rw [hxo] at x1
        rw [hyu] at y0
        rw [hyo] at y1
        have HX : Hid (L.getD (k - 1) d0 = (xu, xo)) := Lib.hid (by rw [← hxu, ← hxo])
        have HY : Hid (L.getD k d0 = (yu, yo)) := Lib.hid (by rw [← hyu, ← hyo])
        clear hxu hxo hyu hyo
        have i0 : (0 : Int) ≤ (k : Int) := by omega
        have i1 : (k : Int) < (n : Int) := by omega
        have i2 : (0 : Int) ≤ (k : Int) - 1 := by omega
        have i3 : (k : Int) - 1 < (n : Int) := by omega
        have i4 : ((k : Int) - 1).toNat = k - 1 := by omega
        have hg := eqg30
        have w1 : IntKind.i64.wrap ((k : Int) - 1) = (k : Int) - 1 := by apply IntWalk.i64_in _ <;> omega
        by_cases he : ((yu, yo) : Int × Bool) = (xu, xo)
        · have hq := lit_eq_yes he
          have HE := Lib.hid he
          clear he
          go_wp2
          go_quiet (fail)
          clear w1
          go_wp2
          clear x0 x1 y0 y1 hq i0 i1 i2 i3 i4
          go_loopw [3, 5] (fun s3 s5 wq => ∃ (m j : Nat) (X : List Lt), s3 = .int .i64 (m : Nat) ∧ s5 = .int .i64 (j : Nat) ∧ 1 ≤ j ∧ k + j ≤ n ∧ m < k + j ∧ Hid (X.length = n) ∧ Hid (OwnL wq base (.slice (some ⟨g, 0, none⟩) n cap) X) ∧ Hid (X.take m = compact (L.take (k + j))) ∧ Hid (∀ i, k + j ≤ i + 1 → X.getD i d0 = L.getD i d0) ∧ Hid (Below base w wq)) (fun _ s5 _ => n - (intOf s5).toNat)
          case atStart => exact ⟨k, 1, L, rfl, rfl, by omega, by omega, by omega, HL, Lib.hid (OR.out.below (below_drewN (Below.refl _ _) _)), Lib.hid (by
            obtain ⟨p, rfl⟩ : ∃ p, k = p + 1 := ⟨k - 1, by omega⟩
            rw [compact_snoc (x := (xu, xo)) (y := (yu, yo)) (by rw [HL.out]; exact hlt) (by have h := HX.out; rwa [Nat.add_sub_cancel] at h) HY.out, if_pos HE.out.symm, compact_same (by rw [HL.out]; omega) HN.out]), Lib.hid (fun i _ => rfl), Lib.hid (below_drewN BR.out _)⟩
          case round =>
            obtain ⟨m, j, X, rfl, rfl, hj1, hkj, hm, HXL, HOX, HTK, HSM, HBX⟩ := hrel
            by_cases hlt2 : k + j < n
            · obtain ⟨y0, y1, _, _⟩ := HOX.out.cell HXL.out HOFF.out hlt2
              obtain ⟨x0, x1, _, _⟩ := HOX.out.cell HXL.out HOFF.out (i := k + (j - 1)) (by omega)
              obtain ⟨z0, z1, f0, f1⟩ := HOX.out.cell HXL.out HOFF.out (i := m) (by omega)
              rw [HSM.out (k + j) (by omega)] at y0 y1
              rw [HSM.out (k + (j - 1)) (by omega)] at x0 x1
              obtain ⟨pu, hpu⟩ : ∃ u, (L.getD (k + (j - 1)) d0).1 = u := ⟨_, rfl⟩
              obtain ⟨po, hpo⟩ : ∃ u, (L.getD (k + (j - 1)) d0).2 = u := ⟨_, rfl⟩
              obtain ⟨qu, hqu⟩ : ∃ u, (L.getD (k + j) d0).1 = u := ⟨_, rfl⟩
              obtain ⟨qo, hqo⟩ : ∃ u, (L.getD (k + j) d0).2 = u := ⟨_, rfl⟩
              obtain ⟨zu, hzu⟩ : ∃ u, (X.getD m d0).1 = u := ⟨_, rfl⟩
              obtain ⟨zo, hzo⟩ : ∃ u, (X.getD m d0).2 = u := ⟨_, rfl⟩
              rw [hpu] at x0
              rw [hpo] at x1
              rw [hqu] at y0
              rw [hqo] at y1
              rw [hzu] at z0
              rw [hzo] at z1
              rw [show off + (k + j) * 2 = off + k * 2 + j * 2 by omega] at y0 y1
              rw [show off + (k + (j - 1)) * 2 = off + k * 2 + (j - 1) * 2 by omega] at x0 x1
              have HP : Hid (L.getD (k + (j - 1)) d0 = (pu, po)) := Lib.hid (by rw [← hpu, ← hpo])
              have HQ : Hid (L.getD (k + j) d0 = (qu, qo)) := Lib.hid (by rw [← hqu, ← hqo])
              clear hpu hpo hqu hqo hzu hzo
              have i0 : (0 : Int) ≤ (j : Int) := by omega
              have i2 : (0 : Int) ≤ (j : Int) - 1 := by omega
              have i1 : j < n - k := by omega
              have i3 : j - 1 < n - k := by omega
              have i4 : ((j : Int) - 1).toNat = j - 1 := by omega
              have i5 : (j : Int) < ((n - k : Nat) : Int) := by omega
              have i6 : (j : Int) - 1 < ((n - k : Nat) : Int) := by omega
              have i7 : m < n := by omega
              have i8 : (0 : Int) ≤ (m : Int) := by omega
              have i9 : (m : Int) < (n : Int) := by omega
              have CS : Hid (compact (L.take (k + (j + 1))) = if (pu, po) = (qu, qo) then compact (L.take (k + j)) else compact (L.take (k + j)) ++ [(qu, qo)]) := Lib.hid (by
                obtain ⟨r, hr⟩ : ∃ r, k + j = r + 1 := ⟨k + j - 1, by omega⟩
                rw [show k + (j + 1) = r + 1 + 1 by omega, hr]
                exact compact_snoc (by rw [HL.out]; omega) (by rw [← HP.out]; congr 1; omega) (by rw [← HQ.out, hr]))
              have w1 : IntKind.i64.wrap ((j : Int) - 1) = (j : Int) - 1 := by apply IntWalk.i64_in _ <;> omega
              by_cases he : ((qu, qo) : Int × Bool) = (pu, po)
              · have hq := lit_ne_yes he
                have HE := Lib.hid he
                clear he z0 z1 f0 f1 i7 i8 i9
                go_wp2
                go_quiet (fail)
                clear w1
                go_wp2
                go_roundw
                case rel => exact ⟨m, j + 1, X, rfl, by go_num, by omega, by omega, by omega, HXL, Lib.hid (HOX.out.below (below_drewN (Below.refl _ _) _)), Lib.hid (by rw [CS.out, if_pos HE.out.symm]; exact HTK.out), Lib.hid (fun i hi => HSM.out i (by omega)), Lib.hid (below_drewN HBX.out _)⟩
                case measure => simp [intOf]; omega
              · have hq := lit_ne_no he
                have HE := Lib.hid he
                clear he
                go_wp2
                go_quiet (fail)
                clear w1
                go_wp2
                go_roundw
                case rel => exact ⟨m + 1, j + 1, X.set m (qu, qo), by go_num, by go_num, by omega, by omega, by omega, Lib.hid (by rw [List.length_set]; exact HXL.out), Lib.hid (OwnL.set (HOX.out.below (below_drewN (Below.refl _ _) _)) HXL.out HOFF.out m qu qo), Lib.hid (by rw [CS.out, if_neg (fun h => HE.out h.symm)]; exact take_set_len HTK.out (by rw [HXL.out]; omega)), Lib.hid (fun i hi => by
                  rw [List.getD_eq_getElem?_getD, List.getElem?_set_ne (by omega), ← List.getD_eq_getElem?_getD]
                  exact HSM.out i (by omega)), Lib.hid (((below_drewN HBX.out _).setCell (p := ⟨g, off + m * 2, none⟩) HBG.out _).setCell (p := ⟨g, off + m * 2 + 1, none⟩) HBG.out _)⟩
                case measure => simp [intOf]; omega
            · have hend : k + j = n := by omega
              have hcl := fun ty => run_clear_lts wr ty g (off + m * 2) (n - m) (cap - m) (by omega) (fun t ht => by
                rw [show off + m * 2 + t = off + (m * 2 + t) by omega]
                have h := HOX.out
                unfold OwnL at h
                rw [HXL.out] at h
                rw [HOFF.out, Nat.zero_add, World.ownsRow.cellAt h _ (by omega), List.getElem?_eq_getElem (by rw [lvals_len, HXL.out]; omega)]; rfl) (fun t ht => by
                rw [show off + m * 2 + t = off + (m * 2 + t) by omega]
                have h := HOX.out
                unfold OwnL at h
                rw [HXL.out] at h
                rw [HOFF.out, Nat.zero_add]
                exact World.ownsRow.frozenAt h _)
              have HD := Lib.hid (HOX.out.cleared HXL.out HOFF.out (m := m) (by omega) HTK.out (zlist (n - m)))
              have i7 : m < n := by omega
              have i8 : m ≤ cap := by omega
              have HM : Hid ((compact (L.take (k + j))).length = m) := Lib.hid (by rw [← HTK.out, List.length_take, HXL.out]; omega)
              have HEND := Lib.hid hend
              clear hend
              have i9 : ¬ (j : Int) < ((n - k : Nat) : Int) := by have := HEND.out; omega
              go_wp2
              refine bodyPost_ret (results_tmp rfl _ _ _) rfl ?_
              have e := HM.out
              have HD1 := HD.out.1
              rw [HEND.out, List.take_of_length_le (by rw [HL.out]; exact Nat.le_refl _)] at e HD1
              exact ⟨m, rfl, e, HD1, HBX.out.grown HD.out.2 (Nat.le_trans HBS.out HBX.out.size) (fun t ht => by have := Option.some.inj ht; have := HBG.out; omega)⟩
        · have hq := lit_eq_no he
          have HE := Lib.hid he
          clear he
          go_wp2
          go_quiet (fail)
          clear w1
          go_wp2
          go_roundw
          case rel => exact ⟨k + 1, by omega, by omega, by go_num, Lib.hid (fun i hi => by
            by_cases hik : i + 1 = k
            · rw [hik, show i = k - 1 by omega, HX.out, HY.out]; exact fun h => HE.out h.symm
            · exact HN.out i (by omega)), Lib.hid (below_drewN HB.out _)⟩
          case measure => simp [intOf]; omega
      · have hkn : k = n := by omega
        have hc : Hid (compact L = L) := Lib.hid (by
          have := compact_same (L := L) (k := n) (by rw [HL.out]; exact Nat.le_refl _) (fun i hi => HN.out i (by omega))
          rwa [List.take_of_length_le (by rw [HL.out]; exact Nat.le_refl _)] at this)
        clear hkn
        have hne : ¬ (k : Int) < (n : Int) := by omega
        go_wp2
        refine bodyPost_ret (results_tmp rfl _ _ _) rfl ?_
        exact ⟨n, rfl, by rw [hc.out, HL.out], by rw [hc.out]; exact OR.out, BR.out⟩

end Go.Proofs.YtljgcjmelmpgoaaDoor
