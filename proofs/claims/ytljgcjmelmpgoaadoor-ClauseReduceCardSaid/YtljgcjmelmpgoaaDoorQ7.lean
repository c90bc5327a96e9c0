/- The program: comparing units; a search by halves. -/
import Derived.Test.YtljgcjmelmpgoaaDoorQ6
namespace Go.Proofs.YtljgcjmelmpgoaaDoor
open Go.RowKit
set_option linter.unusedVariables false

theorem isnan_c (x : Int) (w : World) : Calls Tryd.prog 53 #[.int .i64 x] w fun e w' => e = .returned (.bool false) ∧ w = w' := by
  go_enter Tryd.func53, Tryd.ntmps53
  go_wp2
  refine bodyPost_ret (results_tmp rfl _ _ _) rfl ?_
  exact ⟨rfl, rfl⟩
def cmpI (x y : Int) : Int := if x < y then -1 else if y < x then 1 else 0
set_option maxRecDepth 100000 in
theorem cmp_c (x y : Int) (w : World) : Calls Tryd.prog 35 #[.int .i64 x, .int .i64 y] w fun e w' => e = .returned (.int .i64 (cmpI x y)) ∧ w = w' := by
  by_cases h : x < y
  · have HE : Hid (cmpI x y = -1) := Lib.hid (by unfold cmpI; rw [if_pos h])
    go_enter Tryd.func35, Tryd.ntmps35
    go_wp2_with (go_at_call 53; refine (isnan_c _ _).mono ?_; rintro e w' ⟨rfl, rfl⟩)
    refine bodyPost_ret (results_tmp rfl _ _ _) rfl ?_
    exact ⟨by rw [HE.out]; rfl, rfl⟩
  · by_cases h2 : y < x
    · have HE : Hid (cmpI x y = 1) := Lib.hid (by unfold cmpI; rw [if_neg h, if_pos h2])
      go_enter Tryd.func35, Tryd.ntmps35
      go_wp2_with (go_at_call 53; refine (isnan_c _ _).mono ?_; rintro e w' ⟨rfl, rfl⟩)
      refine bodyPost_ret (results_tmp rfl _ _ _) rfl ?_
      exact ⟨by rw [HE.out]; rfl, rfl⟩
    · have HE : Hid (cmpI x y = 0) := Lib.hid (by unfold cmpI; rw [if_neg h, if_neg h2])
      go_enter Tryd.func35, Tryd.ntmps35
      go_wp2_with (go_at_call 53; refine (isnan_c _ _).mono ?_; rintro e w' ⟨rfl, rfl⟩)
      refine bodyPost_ret (results_tmp rfl _ _ _) rfl ?_
      exact ⟨by rw [HE.out]; rfl, rfl⟩
set_option maxRecDepth 100000 in
theorem findcmp_c (u : Int) (o : Bool) (x : Int) (w : World) : Calls Tryd.prog 55 #[.agg #[.int .i64 u, .bool o], .int .i64 x] w fun e w' => e = .returned (.int .i64 (cmpI u x)) ∧ Below w.heap.size w w' := by
  have BX : Hid (Below w.heap.size w (w.alloc (.cells #[.int .i64 u, .bool o] 30))) := Lib.hid ((Below.refl _ _).alloc (Nat.le_refl _) _)
  go_enter Tryd.func55, Tryd.ntmps55
  go_wp2_with fail
  refine (cmp_c u x _).mono ?_
  rintro e w' ⟨rfl, rfl⟩
  go_wp2
  refine bodyPost_ret (results_tmp rfl _ _ _) rfl ?_
  exact ⟨rfl, BX.out⟩
theorem vldFrom_mono : ∀ {L : List Lt} {last : Int}, vldFrom last L = true → ∀ (i k : Nat), i < k → k < L.length → (L.getD i d0).1 < (L.getD k d0).1
  | [], _, _, _, _, _, hk => by cases hk
  | (u, o) :: r, last, h, i, k, hik, hk => by
    have h' : (decide (last < u) && decide (u < 1024) && vldFrom u r) = true := h
    simp only [Bool.and_eq_true, decide_eq_true_eq] at h'
    cases k with
    | zero => omega
    | succ k =>
      have hk' : k < r.length := by simpa using hk
      cases i with
      | zero =>
        have := vldFrom_gt h'.2 _ (mem_at (x := r.getD k d0) hk' rfl)
        simpa using this.1
      | succ i => simpa using vldFrom_mono h'.2 i k (by omega) hk'
/-- where BinarySearchFunc ends -/
def SrchSays (L : List Lt) (x : Int) (e : Ending) : Prop := ∃ (i : Nat) (ok : Bool), e = .returned (.tuple #[.int .i64 (i : Nat), .bool ok]) ∧ i ≤ L.length ∧ (ok = true → i < L.length ∧ (L.getD i d0).1 = x) ∧ (ok = false → ∀ k, k < L.length → (L.getD k d0).1 ≠ x)
set_option maxHeartbeats 2000000 in
set_option maxRecDepth 100000 in
theorem search_c (ad : Option Addr) (n cap : Nat) (L : List Lt) (x : Int) (w : World) (hs : SlL w ad n cap L) (hv : vld L = true) (hn : n ≤ 1099511627776) :
    Calls Tryd.prog 54 #[.slice ad n cap, .int .i64 x, .func (.func 55) #[] #[]] w fun e w' => SrchSays L x e ∧ Below w.heap.size w w' := by
  have HS := Lib.hid hs
  have HVL := Lib.hid hv
  clear hs hv
  go_enter Tryd.func54, Tryd.ntmps54
  go_wp2
  go_loopw [9, 10] (fun s9 s10 wr => ∃ i j : Nat, i ≤ j ∧ j ≤ n ∧ s9 = .int .i64 (i : Nat) ∧ s10 = .int .i64 (j : Nat) ∧ Hid (∀ k, k < i → (L.getD k d0).1 < x) ∧ Hid (∀ k, j ≤ k → k < n → x ≤ (L.getD k d0).1) ∧ Hid (Below w.heap.size w wr)) (fun s9 s10 _ => (intOf s10).toNat - (intOf s9).toNat)
  case atStart => exact ⟨0, n, by omega, by omega, rfl, rfl, Lib.hid (fun k hk => absurd hk (Nat.not_lt_zero k)), Lib.hid (fun k h1 h2 => by omega), Lib.hid (Below.refl _ _)⟩
  case round =>
    obtain ⟨i, j, hij, hjn, rfl, rfl, HI, HJ, HB⟩ := hrel
    by_cases hlt : i < j
    · obtain ⟨b, off, rfl, hb, hc⟩ := (HS.out.below HB.out).at (by omega)
      obtain ⟨h, hh⟩ : ∃ h, (i + j) / 2 = h := ⟨_, rfl⟩
      have hih : i ≤ h := by omega
      have hhj : h < j := by omega
      obtain ⟨k0, k1⟩ := hc h (by omega)
      clear hc
      go_upto_region 5 with fail
      have hhI : ((i : Int) + (j : Int)) / 2 = (h : Int) := by omega
      rw [hhI]
      have h0 : (0 : Int) ≤ (h : Int) := by omega
      have h1 : (h : Int) < (n : Int) := by omega
      obtain ⟨u, hu⟩ : ∃ u, (L.getD h d0).1 = u := ⟨_, rfl⟩
      obtain ⟨o, ho⟩ : ∃ o, (L.getD h d0).2 = o := ⟨_, rfl⟩
      rw [hu] at k0
      rw [ho] at k1
      have HU := Lib.hid hu
      clear hh hhI hu ho
      go_wp2_with fail
      refine (findcmp_c u o x wr).mono ?_
      rintro e w2 ⟨rfl, hb2⟩
      have B2 := Lib.hid (HB.out.trans (hb2.mono HB.out.size))
      clear hb2 k0 k1 hb
      by_cases hux : u < x
      · have hc : cmpI u x = -1 := by unfold cmpI; rw [if_pos hux]
        rw [hc]
        have HI2 : Hid (∀ k, k < h + 1 → (L.getD k d0).1 < x) := Lib.hid (fun k hk => by
          rcases Nat.lt_or_ge k h with h3 | h3
          · have := vldFrom_mono HVL.out k h h3 (by rw [HS.out.1]; omega)
            rw [HU.out] at this; omega
          · obtain rfl : k = h := by omega
            rw [HU.out]; exact hux)
        clear hc hux
        go_wp2
        go_roundw
        case rel => exact ⟨h + 1, j, by omega, by omega, by go_num, rfl, HI2, HJ, B2⟩
        case measure => simp [intOf]; omega
      · have hge : 0 ≤ cmpI u x := by unfold cmpI; rw [if_neg hux]; split <;> omega
        have HJ2 : Hid (∀ k, h ≤ k → k < n → x ≤ (L.getD k d0).1) := Lib.hid (fun k hk1 hk2 => by
          rcases Nat.lt_or_ge h k with h3 | h3
          · have := vldFrom_mono HVL.out h k h3 (by rw [HS.out.1]; omega)
            rw [HU.out] at this; omega
          · obtain rfl : k = h := by omega
            rw [HU.out]; omega)
        obtain ⟨z, hz⟩ : ∃ z, cmpI u x = z := ⟨_, rfl⟩
        rw [hz] at hge ⊢
        have hz0 : ¬ z < 0 := by omega
        clear hz hux
        go_wp2
        go_roundw
        case rel => exact ⟨i, h, by omega, by omega, rfl, rfl, HI, HJ2, B2⟩
        case measure => simp [intOf]; omega
    · have hij2 : i = j := by omega
      subst hij2
      by_cases hin : i < n
      · obtain ⟨b, off, rfl, hb, hc⟩ := (HS.out.below HB.out).at (by omega)
        obtain ⟨k0, k1⟩ := hc i hin
        clear hc
        have h0 : (0 : Int) ≤ (i : Int) := by omega
        have h1 : (i : Int) < (n : Int) := by omega
        obtain ⟨u, hu⟩ : ∃ u, (L.getD i d0).1 = u := ⟨_, rfl⟩
        obtain ⟨o, ho⟩ : ∃ o, (L.getD i d0).2 = o := ⟨_, rfl⟩
        rw [hu] at k0
        rw [ho] at k1
        have HU := Lib.hid hu
        have hux : x ≤ u := by rw [← hu]; exact HJ.out i (by omega) hin
        clear hu ho
        go_wp2_with fail
        refine (findcmp_c u o x wr).mono ?_
        rintro e w2 ⟨rfl, hb2⟩
        have B2 := Lib.hid (HB.out.trans (hb2.mono HB.out.size))
        clear hb2 k0 k1 hb
        by_cases he : u = x
        · have hc : cmpI u x = 0 := by unfold cmpI; rw [if_neg (by omega), if_neg (by omega)]
          rw [hc]
          have HSR : Hid (SrchSays L x (.returned (.tuple #[.int .i64 (i : Nat), .bool true]))) := Lib.hid ⟨i, true, rfl, by rw [HS.out.1]; omega, fun _ => ⟨by rw [HS.out.1]; exact hin, HU.out.trans he⟩, (fun h => by cases h)⟩
          clear hc he
          go_wp2
          refine bodyPost_ret (results_tmp2 rfl _ _ _) rfl ?_
          exact ⟨HSR.out, B2.out⟩
        · have hc : cmpI u x = 1 := by unfold cmpI; rw [if_neg (by omega), if_pos (by omega)]
          rw [hc]
          have HSR : Hid (SrchSays L x (.returned (.tuple #[.int .i64 (i : Nat), .bool false]))) := Lib.hid ⟨i, false, rfl, by rw [HS.out.1]; omega, (fun h => by cases h), fun _ k hk => by
            rw [HS.out.1] at hk
            rcases Nat.lt_or_ge k i with h3 | h3
            · have := HI.out k h3; omega
            · rcases Nat.lt_or_ge i k with h4 | h4
              · have := vldFrom_mono HVL.out i k h4 (by rw [HS.out.1]; exact hk)
                rw [HU.out] at this; omega
              · obtain rfl : k = i := by omega
                rw [HU.out]; exact he⟩
          clear hc he
          go_wp2
          refine bodyPost_ret (results_tmp2 rfl _ _ _) rfl ?_
          exact ⟨HSR.out, B2.out⟩
      · have HSR : Hid (SrchSays L x (.returned (.tuple #[.int .i64 (i : Nat), .bool false]))) := Lib.hid ⟨i, false, rfl, by rw [HS.out.1]; omega, (fun h => by cases h), fun _ k hk => by
          rw [HS.out.1] at hk
          have := HI.out k (by omega)
          omega⟩
        go_wp2
        refine bodyPost_ret (results_tmp2 rfl _ _ _) rfl ?_
        exact ⟨HSR.out, HB.out⟩

end Go.Proofs.YtljgcjmelmpgoaaDoor
