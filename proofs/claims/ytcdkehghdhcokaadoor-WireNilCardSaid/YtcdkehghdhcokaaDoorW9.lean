/- The document's examples. -/
import Derived.Test.YtcdkehghdhcokaaDoorW5
import Derived.Test.YtcdkehghdhcokaaDoorXB
import Derived.Test.YtcdkehghdhcokaaDoorW8
namespace Go.Proofs.YtcdkehghdhcokaaDoor.wr
open Go.RowKit
set_option linter.unusedVariables false

theorem ex300 : grp 300 = [172, 2] := by rw [grp_big (by omega), grp_small (by omega)]; rfl
theorem exm1 : grp (zz (-1)) = [1] := by rw [show zz (-1) = 1 by decide, grp_small (by omega)]; rfl
theorem ex258 : nb [258] = [1, 2, 1, 0, 0] := by
  unfold nb
  rw [show ([258] : List Int).length = 1 from rfl, grp_small (by omega)]
  decide
theorem st300 : strOfNums [172, 2] = ⟨#[172, 2]⟩ := by decide
theorem stm1 : strOfNums [1] = ⟨#[1]⟩ := by decide
theorem st258 : strOfNums [1, 2, 1, 0, 0] = ⟨#[1, 2, 1, 0, 0]⟩ := by decide
theorem SlW.one (w : World) (x : Int) (h0 : 0 ≤ x) (h1 : x < 4294967296) : SlW (w.alloc (.cells #[.int .u32 x] 60)) (some ⟨w.heap.size, 0, none⟩) 1 1 [x] := by
  refine ⟨rfl, Nat.le_refl _, by omega, fun y hy => by simp at hy; subst hy; exact ⟨h0, h1⟩, .inr ⟨w.heap.size, 0, rfl, by simp, fun i hi => ?_⟩⟩
  rw [cell_of_row _ w.heap.size _ _ 60 (0, 0) (heap_alloc_new w _), Nat.zero_add]
  match i, hi with
  | 0, _ => rfl
/-- nothing below a number is touched -/
theorem below_grownR {B R : Nat} {w0 w w' : World} (hb : Below B w0 w) (hg : w.grownBy w' (some R)) (hs : B ≤ w.heap.size) (hH : B ≤ R) : Below B w0 w' := hb.grown hg hs (fun k hk => by injection hk with hk; omega)
set_option maxHeartbeats 4000000 in
set_option maxRecDepth 100000 in
theorem awake_c (w : World) : Calls Tryd.prog 7 #[] w fun e w' => e = .returned (.bool true) ∧ Below w.heap.size w w' := by
  have BS := Lib.hid (SlB.new w [128, 0] #[.int .u8 128, .int .u8 0] 2 rfl rfl (by omega))
  have qP : ∀ (w : World) (R : Nat), (binOp .eql 24 (.pointer (some ⟨R, 0, none⟩)) (.pointer none)).run Tryd.prog w = .ok (.bool false) w := fun w R => by rfl
  go_enter Tryd.func7, Tryd.ntmps7
  go_wp2_with fail
  refine (new_c _ 2 2 [128, 0] _ BS.out (by omega)).mono ?_
  rintro e w1 ⟨R, rfl, hR, hR2, hrd, hb⟩
  have B1 := Lib.hid ((Below.newBlock (w := w) (.cells #[.int .u8 128, .int .u8 0] 5)).trans (hb.mono (by simp)))
  have RD := Lib.hid hrd
  have LR := Lib.hid (show w.heap.size ≤ R by simp at hR; omega)
  clear hb hrd hR hR2
  go_wp2_with fail
  have UU := uint_g R (some [128, 0]) w1 RD.out (fun L e => by injection e with e; subst e; intro x hx; simp at hx; omega)
  rw [show uR (some [128, 0]) = (0, 5, none) from by decide] at UU
  refine UU.mono ?_
  rintro e w2 ⟨rfl, _, hg⟩
  have B2 := Lib.hid (below_grownR B1.out hg B1.out.size LR.out)
  clear hg
  go_wp2_with fail
  refine (appendUint_c none 0 0 [] 300 w2 (SlB.nil _) (by omega) (by omega)).mono ?_
  rintro e w3 ⟨v, rfl, hO, hb⟩
  rw [List.nil_append, ex300] at hO
  obtain ⟨a3, c3, rfl⟩ := hO.slice
  have C3a : (convert 22 9 (.slice a3 2 c3)).run Tryd.prog w3 = .ok (.string ⟨#[172, 2]⟩) w3 := by rw [← st300]; exact conv_sl (hO.sl rfl)
  have B3 := Lib.hid (B2.out.trans (hb.mono B2.out.size))
  clear hO hb
  go_wp2_with fail
  refine (appendInt_c none 0 0 [] (-1) w3 (SlB.nil _) (by omega) (by omega) (by omega)).mono ?_
  rintro e w4 ⟨v, rfl, hO, hb⟩
  rw [List.nil_append, exm1] at hO
  obtain ⟨a4, c4, rfl⟩ := hO.slice
  have C4a : (convert 22 9 (.slice a4 1 c4)).run Tryd.prog w4 = .ok (.string ⟨#[1]⟩) w4 := by rw [← stm1]; exact conv_sl (hO.sl rfl)
  have B4 := Lib.hid (B3.out.trans (hb.mono B3.out.size))
  clear hO hb C3a
  go_wp2_with fail
  refine (appendNat_c none 0 0 [] _ 1 1 [258] _ (SlB.nil _) (SlW.one w4 258 (by omega) (by omega)) (by omega) (by omega)).mono ?_
  rintro e w5 ⟨v, rfl, hO, hb⟩
  rw [List.nil_append, ex258] at hO
  obtain ⟨a5, c5, rfl⟩ := hO.slice
  have C5a : (convert 22 9 (.slice a5 5 c5)).run Tryd.prog w5 = .ok (.string ⟨#[1, 2, 1, 0, 0]⟩) w5 := by rw [← st258]; exact conv_sl (hO.sl rfl)
  have B5 := Lib.hid ((B4.out.alloc B4.out.size _).trans (hb.mono (by have := B4.out.size; simp; omega)))
  clear hO hb C4a
  go_wp2
  refine bodyPost_ret (results_tmp rfl _ _ _) rfl ?_
  exact ⟨rfl, B5.out⟩

end Go.Proofs.YtcdkehghdhcokaaDoor.wr
