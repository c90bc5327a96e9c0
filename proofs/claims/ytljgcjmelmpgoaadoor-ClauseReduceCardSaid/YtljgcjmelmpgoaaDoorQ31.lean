/- The document's examples. -/
import Derived.Test.YtljgcjmelmpgoaaDoorQ30
import Derived.Test.YtljgcjmelmpgoaaDoorQ28
import Derived.Test.YtljgcjmelmpgoaaDoorQ10
import Derived.Test.YtljgcjmelmpgoaaDoorQ6
namespace Go.Proofs.YtljgcjmelmpgoaaDoor
open Go.RowKit
set_option linter.unusedVariables false

open Go.Shelf Go.Lib
theorem made_ex : made [(3, true), (1, false), (3, true)] = [(1, false), (3, true)] := by decide
theorem vld_ex : vld [(1, false), (3, true)] = true := by decide
theorem rcode_ex : rcode [(1, false), (3, true)] [(1, true), (4, false)] 1 = 0 := by decide
theorem rlist_ex : rlist [(1, false), (3, true)] [(1, true), (4, false)] 1 = [(3, true), (4, false)] := by decide
theorem status_ex : status [0, 1] [(1, false), (3, true)] = (3, 1) := by decide
theorem subs_ex : subs [(1, false)] [(1, false), (3, true)] = true := by decide
theorem dig_ex (k : Nat) (h : k < 10) : Lib.itoa (k : Int) = [UInt8.ofNat (48 + k)] := by
  unfold Lib.itoa
  rw [if_neg (by omega), Int.toNat_natCast, Lib.decDigits, dif_pos h]
theorem text_ex1 : textL [(1, false), (3, true)] = [117, 49, 32, 111, 102, 102, 32, 124, 32, 117, 51, 32, 111, 110] := by
  have h1 := dig_ex 1 (by omega)
  have h3 := dig_ex 3 (by omega)
  unfold textL
  rw [if_neg (by simp)]
  show Lib.join [litText (1, false), litText (3, true)] _ = _
  unfold litText
  rw [show Lib.itoa ((1, false) : Lt).1 = _ from h1, show Lib.itoa ((3, true) : Lt).1 = _ from h3]
  decide
theorem text_ex2 : textL [(3, true), (4, false)] = [117, 51, 32, 111, 110, 32, 124, 32, 117, 52, 32, 111, 102, 102] := by
  have h1 := dig_ex 3 (by omega)
  have h3 := dig_ex 4 (by omega)
  unfold textL
  rw [if_neg (by simp)]
  show Lib.join [litText (3, true), litText (4, false)] _ = _
  unfold litText
  rw [show Lib.itoa ((3, true) : Lt).1 = _ from h1, show Lib.itoa ((4, false) : Lt).1 = _ from h3]
  decide
theorem SlL.new (w : World) (L : List Lt) (cs : Array Value) (n : Nat) (hc : cs.toList = lvals L) (hn : L.length = n) (hb : n ≤ 100000) : SlL (w.alloc (.cells cs 30)) (some ⟨w.heap.size, 0, none⟩) n n L := by
  refine ⟨hn, Nat.le_refl _, by omega, .inr ⟨w.heap.size, 0, rfl, by simp, fun i hi => ?_⟩⟩
  have hv := lvals_at (L := L) (i := i) (by omega)
  rw [← hc, Array.getElem?_toList, Array.getElem?_toList] at hv
  exact ⟨by rw [cell_of_row _ w.heap.size _ _ 30 (0, 0) (heap_alloc_new w _), Nat.zero_add]; exact hv.1, by rw [cell_of_row _ w.heap.size _ _ 30 (0, 0) (heap_alloc_new w _), Nat.zero_add]; exact hv.2⟩
theorem SlI.new2 (w : World) (x y : Int) : SlI (w.alloc (.cells #[.int .i64 x, .int .i64 y] 3)) (some ⟨w.heap.size, 0, none⟩) 2 2 [x, y] := by
  refine ⟨rfl, Nat.le_refl _, by omega, .inr ⟨w.heap.size, 0, rfl, by simp, fun i hi => ?_⟩⟩
  rw [cell_of_row _ w.heap.size _ _ 3 (0, 0) (heap_alloc_new w _), Nat.zero_add]
  match i, hi with
  | 0, _ => rfl
  | 1, _ => rfl
set_option maxHeartbeats 4000000 in
set_option maxRecDepth 100000 in
theorem awake_c (w : World) : Calls Tryd.prog 11 #[] w fun e w' => e = .returned (.bool true) ∧ Below w.heap.size w w' := by
  have b1 : Below w.heap.size w (w.alloc (.cells #[.int .i64 3, .bool true, .int .i64 1, .bool false, .int .i64 3, .bool true] 30)) := (Below.refl _ _).alloc (Nat.le_refl _) _
  have B1 := Lib.hid b1
  have S1 := Lib.hid (SlL.new w [(3, true), (1, false), (3, true)] #[.int .i64 3, .bool true, .int .i64 1, .bool false, .int .i64 3, .bool true] 3 rfl rfl (by omega))
  clear b1
  go_enter Tryd.func11, Tryd.ntmps11
  go_wp2_with fail
  refine Calls.mono (make_c _ 3 3 _ _ S1.out (by omega)) ?_
  rintro e w2 ⟨v, rfl, hO2, hb2⟩
  rw [made_ex, vld_ex] at hO2
  rw [made_ex, vld_ex]
  rw [if_pos rfl] at hO2
  have B2 := Lib.hid (B1.out.trans (hb2.mono B1.out.size))
  obtain ⟨a2, c2, hv2⟩ := hO2.slice
  change v = .slice a2 2 c2 at hv2
  subst hv2
  have S2 := Lib.hid (hO2.sl (n := 2) rfl)
  clear hO2 hb2 S1 B1
  have B3 := Lib.hid (B2.out.alloc B2.out.size (.cells #[.int .i64 1, .bool true, .int .i64 4, .bool false] 30))
  have S3 := Lib.hid (SlL.new w2 [(1, true), (4, false)] #[.int .i64 1, .bool true, .int .i64 4, .bool false] 2 rfl rfl (by omega))
  have S2a := Lib.hid (S2.out.below ((Below.refl _ _).alloc (Nat.le_refl _) (.cells #[.int .i64 1, .bool true, .int .i64 4, .bool false] 30)))
  go_wp2_with fail
  refine Calls.mono (resolve_c _ 2 _ _ _ 2 _ _ 1 _ S2a.out S3.out) ?_
  rintro e w4 ⟨v4, rfl, hO4, hb4⟩
  rw [rlist_ex] at hO4
  rw [rcode_ex]
  have B4 := Lib.hid (B3.out.trans (hb4.mono B3.out.size))
  have S4a := Lib.hid (S2a.out.below hb4)
  obtain ⟨a4, c4, hv4⟩ := hO4.slice
  change v4 = .slice a4 2 c4 at hv4
  subst hv4
  have S4 := Lib.hid (hO4.sl (n := 2) rfl)
  clear hO4 hb4 S2a S3 B3 B2 S2
  have B5 := Lib.hid (B4.out.alloc B4.out.size (.cells #[.int .i64 0, .int .i64 1] 3))
  have S5 := Lib.hid (SlI.new2 w4 0 1)
  have S5a := Lib.hid (S4a.out.below ((Below.refl _ _).alloc (Nat.le_refl _) (.cells #[.int .i64 0, .int .i64 1] 3)))
  have S5b := Lib.hid (S4.out.below ((Below.refl _ _).alloc (Nat.le_refl _) (.cells #[.int .i64 0, .int .i64 1] 3)))
  go_wp2_with fail
  refine Calls.mono (status_c _ 2 _ _ _ 2 _ [0, 1] _ S5a.out S5.out) ?_
  rintro e w6 ⟨rfl, hb6⟩
  rw [status_ex]
  have B6 := Lib.hid (B5.out.trans (hb6.mono B5.out.size))
  have S6a := Lib.hid (S5a.out.below hb6)
  have S6b := Lib.hid (S5b.out.below hb6)
  clear hb6 S5 S5a S5b B5 B4 S4a S4
  go_wp2_with fail
  refine Calls.mono (text_c _ 2 _ _ w6 S6a.out (by omega) (by decide) (by intro x hx; simp at hx; rcases hx with rfl | rfl <;> exact itoa_small _ _ (by decide))) ?_
  rintro e w7 ⟨rfl, hb7⟩
  rw [text_ex1]
  have B7 := Lib.hid (B6.out.trans (hb7.mono B6.out.size))
  have S7a := Lib.hid (S6a.out.below hb7)
  have S7b := Lib.hid (S6b.out.below hb7)
  clear hb7 B6 S6a S6b
  have B8 := Lib.hid (B7.out.alloc B7.out.size (.cells #[.int .i64 1, .bool false] 30))
  have S8 := Lib.hid (SlL.new w7 [(1, false)] #[.int .i64 1, .bool false] 1 rfl rfl (by omega))
  have S8a := Lib.hid (S7a.out.below ((Below.refl _ _).alloc (Nat.le_refl _) (.cells #[.int .i64 1, .bool false] 30)))
  have S8b := Lib.hid (S7b.out.below ((Below.refl _ _).alloc (Nat.le_refl _) (.cells #[.int .i64 1, .bool false] 30)))
  go_wp2_with fail
  refine Calls.mono (subsumes_c _ 1 _ _ _ 2 _ _ _ S8.out S8a.out (by omega)) ?_
  rintro e w9 ⟨rfl, hb9⟩
  rw [subs_ex]
  have B9 := Lib.hid (B8.out.trans (hb9.mono B8.out.size))
  have S9b := Lib.hid (S8b.out.below hb9)
  clear hb9 S7a S7b B7 S8 S8a S8b B8
  go_wp2_with fail
  refine Calls.mono (text_c _ 2 _ _ w9 S9b.out (by omega) (by decide) (by intro x hx; simp at hx; rcases hx with rfl | rfl <;> exact itoa_small _ _ (by decide))) ?_
  rintro e w10 ⟨rfl, hb10⟩
  rw [text_ex2]
  have B10 := Lib.hid (B9.out.trans (hb10.mono B9.out.size))
  clear hb10
  go_wp2
  refine bodyPost_ret (results_tmp rfl _ _ _) rfl ?_
  exact ⟨rfl, B10.out⟩

end Go.Proofs.YtljgcjmelmpgoaaDoor
