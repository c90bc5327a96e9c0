/- Make. -/
import Derived.Test.YtljgcjmelmpgoaaDoorQ20
import Derived.Test.YtljgcjmelmpgoaaDoorQ22
import Derived.Shelf.SlSortCmp.NoneTotal
namespace Go.Proofs.YtljgcjmelmpgoaaDoor
open Go.RowKit
set_option linter.unusedVariables false

set_option maxHeartbeats 1000000 in
set_option maxRecDepth 100000 in
theorem compact_nil (w : World) : Calls Tryd.prog 36 #[.slice none 0 0] w fun e w' => e = .returned (.slice none 0 0) ∧ w = w' := by
  go_enter Tryd.func36, Tryd.ntmps36
  go_wp2
  refine bodyPost_ret (results_tmp rfl _ _ _) rfl ?_
  exact ⟨rfl, rfl⟩
theorem sort_nil (w : World) : Calls Tryd.prog 33 #[.slice none 0 0, .func (.func 34) #[] #[]] w fun e w' => e = .returned (.tuple #[]) ∧ w' = w :=
  AnyF.slices_SortFunc_none sortLt none 0 _ w
set_option maxHeartbeats 4000000 in
set_option maxRecDepth 100000 in
theorem make_c (a : Option Addr) (n c : Nat) (L : List Lt) (w : World) (hs : SlL w a n c L) (hn : n ≤ 4000) :
    Calls Tryd.prog 12 #[.slice a n c] w fun e w' => MakeSays w L e w' := by
  have HS := Lib.hid hs
  have HLN := Lib.hid hs.1
  clear hs
  go_enter Tryd.func12, Tryd.ntmps12
  go_wp2_with fail
  refine (clone_c a n c L w HS.out hn).mono ?_
  rintro e w1 ⟨v, rfl, hO1, hb1⟩
  have B1 := Lib.hid hb1
  have O1 := Lib.hid hO1
  clear hb1 hO1
  rcases id O1.out.2 with ⟨hv, h0⟩ | ⟨g, cap, cur, hv, _⟩
  · subst hv
    obtain rfl : L = [] := List.eq_nil_of_length_eq_zero h0
    clear h0
    go_wp2_with fail
    refine (sort_nil w1).mono ?_
    rintro e w2 ⟨rfl, rfl⟩
    go_wp2_with fail
    refine (compact_nil _).mono ?_
    rintro e w3 ⟨rfl, rfl⟩
    go_wp2_with fail
    refine (valid_c none 0 0 [] _ (SlL.nil _ _ _ (by omega))).mono ?_
    rintro e w3 ⟨rfl, hb3⟩
    have B3 := Lib.hid (B1.out.trans (hb3.mono B1.out.size))
    clear hb3
    rw [show vld [] = true from rfl]
    go_wp2
    refine bodyPost_ret (results_tmp2 rfl _ _ _) rfl ?_
    exact ⟨_, rfl, ⟨rfl, .inl ⟨rfl, rfl⟩⟩, B3.out⟩
  · subst hv
    have hl := HLN.out
    rw [hl]
    have O2 : Hid (OwnL w1 w.heap.size (.slice (some ⟨g, 0, none⟩) n cap) L) := Lib.hid (by rw [← hl]; exact O1.out)
    clear hl
    go_wp2_with fail
    refine (sortOwn_c w.heap.size g n cap L w1 O2.out HLN.out hn B1.out.size).mono ?_
    rintro e w2 ⟨rfl, S, hS, hP, hM, hO2, hb2⟩
    have B2 := Lib.hid (B1.out.trans hb2)
    have HM := Lib.hid (make_alike hP hM)
    have HSL := Lib.hid hS
    have O3 := Lib.hid hO2
    clear hS hP hM hO2 hb2
    go_wp2_with fail
    refine (compact_off w.heap.size g 0 n cap rfl S w2 O3.out HSL.out hn B2.out.size).mono ?_
    rintro e w3 ⟨m, rfl, hm, hO3, hb3⟩
    have B3 := Lib.hid (B2.out.trans hb3)
    have O4 := Lib.hid hO3
    have HM4 := Lib.hid hm
    clear hm hO3 hb3
    go_wp2_with fail
    refine (valid_c (some ⟨g, 0, none⟩) m cap (compact S) w3 (O4.out.sl HM4.out)).mono ?_
    rintro e w4 ⟨rfl, hb4⟩
    have B4 := Lib.hid (B3.out.trans (hb4.mono B3.out.size))
    have O5 := Lib.hid (O4.out.below hb4)
    clear hb4
    rw [HM.out.1]
    obtain ⟨t, ht⟩ : ∃ t, vld (made L) = t := ⟨_, rfl⟩
    have HT := Lib.hid ht
    rw [ht]
    clear ht
    cases t with
    | true =>
      go_wp2
      refine bodyPost_ret (results_tmp2 rfl _ _ _) rfl ?_
      exact ⟨_, by rw [HT.out]; rfl, by rw [if_pos HT.out, ← HM.out.2 HT.out]; exact O5.out, B4.out⟩
    | false =>
      go_wp2
      refine bodyPost_ret (results_tmp2 rfl _ _ _) rfl ?_
      exact ⟨_, by rw [HT.out]; rfl, by rw [if_neg (by rw [HT.out]; decide)]; exact ⟨rfl, .inl ⟨rfl, rfl⟩⟩, B4.out⟩

end Go.Proofs.YtljgcjmelmpgoaaDoor
