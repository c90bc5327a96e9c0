/- Saturate. -/
import Derived.Test.YtnalmjbgkedcoaaDoorChecked
import Derived.WalkKit
import Derived.ProofKit
import Derived.BigQuiet
import Derived.BigRegion
import Derived.Deep.QuietTactic
import Derived.Outline
import Derived.Lib.Hide
namespace Go.Proofs.YtnalmjbgkedcoaaDoor.fx
open Go.RowKit
set_option linter.unusedVariables false

set_option linter.unusedSimpArgs false
/-- the nearest number of some bits -/
def sat (a b : Int) : Int := if b < 1 ∨ 64 < b then a else min (max a (-(2 ^ (b - 1).toNat))) (2 ^ (b - 1).toNat - 1)
theorem ret_i {k : IntKind} {a b : Int} (h : a = b) : Ending.returned (.int k a) = .returned (.int k b) := by rw [h]
set_option maxRecDepth 100000 in
theorem sat_out (a b : Int) (w : World) (h : b < 1 ∨ 64 < b) : Calls Tryd.prog 14 #[.int .i64 a, .int .i64 b] w fun e w' => e = .returned (.int .i64 a) ∧ w' = w := by
  by_cases h1 : b < 1
  · clear h
    go_enter Tryd.func14, Tryd.ntmps14
    go_wp2
    refine bodyPost_ret (results_tmp rfl _ _ _) rfl ?_
    exact ⟨rfl, rfl⟩
  · have h2 : 64 < b := by omega
    clear h
    go_enter Tryd.func14, Tryd.ntmps14
    go_wp2
    refine bodyPost_ret (results_tmp rfl _ _ _) rfl ?_
    exact ⟨rfl, rfl⟩
set_option maxRecDepth 100000 in
theorem sat_1 (a : Int) (w : World) (h1 : -9223372036854775808 ≤ a) (h2 : a ≤ 9223372036854775807) : Calls Tryd.prog 14 #[.int .i64 a, .int .i64 1] w fun e w' => e = .returned (.int .i64 (min (max a (-1)) 0)) ∧ w' = w := by
  have hx : bits .xor .i64 (-1) (-1) = 0 := by decide
  have hs : IntKind.i64.signed = true := rfl
  go_enter Tryd.func14, Tryd.ntmps14
  go_wp2
  all_goals (refine bodyPost_ret (results_tmp rfl _ _ _) rfl ?_; refine ⟨ret_i ?_, rfl⟩; omega)
set_option maxRecDepth 100000 in
theorem sat_2 (a : Int) (w : World) (h1 : -9223372036854775808 ≤ a) (h2 : a ≤ 9223372036854775807) : Calls Tryd.prog 14 #[.int .i64 a, .int .i64 2] w fun e w' => e = .returned (.int .i64 (min (max a (-2)) 1)) ∧ w' = w := by
  have hx : bits .xor .i64 (-1) (-2) = 1 := by decide
  have hs : IntKind.i64.signed = true := rfl
  go_enter Tryd.func14, Tryd.ntmps14
  go_wp2
  all_goals (refine bodyPost_ret (results_tmp rfl _ _ _) rfl ?_; refine ⟨ret_i ?_, rfl⟩; omega)
set_option maxRecDepth 100000 in
theorem sat_3 (a : Int) (w : World) (h1 : -9223372036854775808 ≤ a) (h2 : a ≤ 9223372036854775807) : Calls Tryd.prog 14 #[.int .i64 a, .int .i64 3] w fun e w' => e = .returned (.int .i64 (min (max a (-4)) 3)) ∧ w' = w := by
  have hx : bits .xor .i64 (-1) (-4) = 3 := by decide
  have hs : IntKind.i64.signed = true := rfl
  go_enter Tryd.func14, Tryd.ntmps14
  go_wp2
  all_goals (refine bodyPost_ret (results_tmp rfl _ _ _) rfl ?_; refine ⟨ret_i ?_, rfl⟩; omega)
set_option maxRecDepth 100000 in
theorem sat_4 (a : Int) (w : World) (h1 : -9223372036854775808 ≤ a) (h2 : a ≤ 9223372036854775807) : Calls Tryd.prog 14 #[.int .i64 a, .int .i64 4] w fun e w' => e = .returned (.int .i64 (min (max a (-8)) 7)) ∧ w' = w := by
  have hx : bits .xor .i64 (-1) (-8) = 7 := by decide
  have hs : IntKind.i64.signed = true := rfl
  go_enter Tryd.func14, Tryd.ntmps14
  go_wp2
  all_goals (refine bodyPost_ret (results_tmp rfl _ _ _) rfl ?_; refine ⟨ret_i ?_, rfl⟩; omega)
set_option maxRecDepth 100000 in
theorem sat_5 (a : Int) (w : World) (h1 : -9223372036854775808 ≤ a) (h2 : a ≤ 9223372036854775807) : Calls Tryd.prog 14 #[.int .i64 a, .int .i64 5] w fun e w' => e = .returned (.int .i64 (min (max a (-16)) 15)) ∧ w' = w := by
  have hx : bits .xor .i64 (-1) (-16) = 15 := by decide
  have hs : IntKind.i64.signed = true := rfl
  go_enter Tryd.func14, Tryd.ntmps14
  go_wp2
  all_goals (refine bodyPost_ret (results_tmp rfl _ _ _) rfl ?_; refine ⟨ret_i ?_, rfl⟩; omega)
set_option maxRecDepth 100000 in
theorem sat_6 (a : Int) (w : World) (h1 : -9223372036854775808 ≤ a) (h2 : a ≤ 9223372036854775807) : Calls Tryd.prog 14 #[.int .i64 a, .int .i64 6] w fun e w' => e = .returned (.int .i64 (min (max a (-32)) 31)) ∧ w' = w := by
  have hx : bits .xor .i64 (-1) (-32) = 31 := by decide
  have hs : IntKind.i64.signed = true := rfl
  go_enter Tryd.func14, Tryd.ntmps14
  go_wp2
  all_goals (refine bodyPost_ret (results_tmp rfl _ _ _) rfl ?_; refine ⟨ret_i ?_, rfl⟩; omega)
set_option maxRecDepth 100000 in
theorem sat_7 (a : Int) (w : World) (h1 : -9223372036854775808 ≤ a) (h2 : a ≤ 9223372036854775807) : Calls Tryd.prog 14 #[.int .i64 a, .int .i64 7] w fun e w' => e = .returned (.int .i64 (min (max a (-64)) 63)) ∧ w' = w := by
  have hx : bits .xor .i64 (-1) (-64) = 63 := by decide
  have hs : IntKind.i64.signed = true := rfl
  go_enter Tryd.func14, Tryd.ntmps14
  go_wp2
  all_goals (refine bodyPost_ret (results_tmp rfl _ _ _) rfl ?_; refine ⟨ret_i ?_, rfl⟩; omega)
set_option maxRecDepth 100000 in
theorem sat_8 (a : Int) (w : World) (h1 : -9223372036854775808 ≤ a) (h2 : a ≤ 9223372036854775807) : Calls Tryd.prog 14 #[.int .i64 a, .int .i64 8] w fun e w' => e = .returned (.int .i64 (min (max a (-128)) 127)) ∧ w' = w := by
  have hx : bits .xor .i64 (-1) (-128) = 127 := by decide
  have hs : IntKind.i64.signed = true := rfl
  go_enter Tryd.func14, Tryd.ntmps14
  go_wp2
  all_goals (refine bodyPost_ret (results_tmp rfl _ _ _) rfl ?_; refine ⟨ret_i ?_, rfl⟩; omega)
set_option maxRecDepth 100000 in
theorem sat_9 (a : Int) (w : World) (h1 : -9223372036854775808 ≤ a) (h2 : a ≤ 9223372036854775807) : Calls Tryd.prog 14 #[.int .i64 a, .int .i64 9] w fun e w' => e = .returned (.int .i64 (min (max a (-256)) 255)) ∧ w' = w := by
  have hx : bits .xor .i64 (-1) (-256) = 255 := by decide
  have hs : IntKind.i64.signed = true := rfl
  go_enter Tryd.func14, Tryd.ntmps14
  go_wp2
  all_goals (refine bodyPost_ret (results_tmp rfl _ _ _) rfl ?_; refine ⟨ret_i ?_, rfl⟩; omega)
set_option maxRecDepth 100000 in
theorem sat_10 (a : Int) (w : World) (h1 : -9223372036854775808 ≤ a) (h2 : a ≤ 9223372036854775807) : Calls Tryd.prog 14 #[.int .i64 a, .int .i64 10] w fun e w' => e = .returned (.int .i64 (min (max a (-512)) 511)) ∧ w' = w := by
  have hx : bits .xor .i64 (-1) (-512) = 511 := by decide
  have hs : IntKind.i64.signed = true := rfl
  go_enter Tryd.func14, Tryd.ntmps14
  go_wp2
  all_goals (refine bodyPost_ret (results_tmp rfl _ _ _) rfl ?_; refine ⟨ret_i ?_, rfl⟩; omega)
set_option maxRecDepth 100000 in
theorem sat_11 (a : Int) (w : World) (h1 : -9223372036854775808 ≤ a) (h2 : a ≤ 9223372036854775807) : Calls Tryd.prog 14 #[.int .i64 a, .int .i64 11] w fun e w' => e = .returned (.int .i64 (min (max a (-1024)) 1023)) ∧ w' = w := by
  have hx : bits .xor .i64 (-1) (-1024) = 1023 := by decide
  have hs : IntKind.i64.signed = true := rfl
  go_enter Tryd.func14, Tryd.ntmps14
  go_wp2
  all_goals (refine bodyPost_ret (results_tmp rfl _ _ _) rfl ?_; refine ⟨ret_i ?_, rfl⟩; omega)
set_option maxRecDepth 100000 in
theorem sat_12 (a : Int) (w : World) (h1 : -9223372036854775808 ≤ a) (h2 : a ≤ 9223372036854775807) : Calls Tryd.prog 14 #[.int .i64 a, .int .i64 12] w fun e w' => e = .returned (.int .i64 (min (max a (-2048)) 2047)) ∧ w' = w := by
  have hx : bits .xor .i64 (-1) (-2048) = 2047 := by decide
  have hs : IntKind.i64.signed = true := rfl
  go_enter Tryd.func14, Tryd.ntmps14
  go_wp2
  all_goals (refine bodyPost_ret (results_tmp rfl _ _ _) rfl ?_; refine ⟨ret_i ?_, rfl⟩; omega)
set_option maxRecDepth 100000 in
theorem sat_13 (a : Int) (w : World) (h1 : -9223372036854775808 ≤ a) (h2 : a ≤ 9223372036854775807) : Calls Tryd.prog 14 #[.int .i64 a, .int .i64 13] w fun e w' => e = .returned (.int .i64 (min (max a (-4096)) 4095)) ∧ w' = w := by
  have hx : bits .xor .i64 (-1) (-4096) = 4095 := by decide
  have hs : IntKind.i64.signed = true := rfl
  go_enter Tryd.func14, Tryd.ntmps14
  go_wp2
  all_goals (refine bodyPost_ret (results_tmp rfl _ _ _) rfl ?_; refine ⟨ret_i ?_, rfl⟩; omega)
set_option maxRecDepth 100000 in
theorem sat_14 (a : Int) (w : World) (h1 : -9223372036854775808 ≤ a) (h2 : a ≤ 9223372036854775807) : Calls Tryd.prog 14 #[.int .i64 a, .int .i64 14] w fun e w' => e = .returned (.int .i64 (min (max a (-8192)) 8191)) ∧ w' = w := by
  have hx : bits .xor .i64 (-1) (-8192) = 8191 := by decide
  have hs : IntKind.i64.signed = true := rfl
  go_enter Tryd.func14, Tryd.ntmps14
  go_wp2
  all_goals (refine bodyPost_ret (results_tmp rfl _ _ _) rfl ?_; refine ⟨ret_i ?_, rfl⟩; omega)
set_option maxRecDepth 100000 in
theorem sat_15 (a : Int) (w : World) (h1 : -9223372036854775808 ≤ a) (h2 : a ≤ 9223372036854775807) : Calls Tryd.prog 14 #[.int .i64 a, .int .i64 15] w fun e w' => e = .returned (.int .i64 (min (max a (-16384)) 16383)) ∧ w' = w := by
  have hx : bits .xor .i64 (-1) (-16384) = 16383 := by decide
  have hs : IntKind.i64.signed = true := rfl
  go_enter Tryd.func14, Tryd.ntmps14
  go_wp2
  all_goals (refine bodyPost_ret (results_tmp rfl _ _ _) rfl ?_; refine ⟨ret_i ?_, rfl⟩; omega)
set_option maxRecDepth 100000 in
theorem sat_16 (a : Int) (w : World) (h1 : -9223372036854775808 ≤ a) (h2 : a ≤ 9223372036854775807) : Calls Tryd.prog 14 #[.int .i64 a, .int .i64 16] w fun e w' => e = .returned (.int .i64 (min (max a (-32768)) 32767)) ∧ w' = w := by
  have hx : bits .xor .i64 (-1) (-32768) = 32767 := by decide
  have hs : IntKind.i64.signed = true := rfl
  go_enter Tryd.func14, Tryd.ntmps14
  go_wp2
  all_goals (refine bodyPost_ret (results_tmp rfl _ _ _) rfl ?_; refine ⟨ret_i ?_, rfl⟩; omega)
set_option maxRecDepth 100000 in
theorem sat_17 (a : Int) (w : World) (h1 : -9223372036854775808 ≤ a) (h2 : a ≤ 9223372036854775807) : Calls Tryd.prog 14 #[.int .i64 a, .int .i64 17] w fun e w' => e = .returned (.int .i64 (min (max a (-65536)) 65535)) ∧ w' = w := by
  have hx : bits .xor .i64 (-1) (-65536) = 65535 := by decide
  have hs : IntKind.i64.signed = true := rfl
  go_enter Tryd.func14, Tryd.ntmps14
  go_wp2
  all_goals (refine bodyPost_ret (results_tmp rfl _ _ _) rfl ?_; refine ⟨ret_i ?_, rfl⟩; omega)
set_option maxRecDepth 100000 in
theorem sat_18 (a : Int) (w : World) (h1 : -9223372036854775808 ≤ a) (h2 : a ≤ 9223372036854775807) : Calls Tryd.prog 14 #[.int .i64 a, .int .i64 18] w fun e w' => e = .returned (.int .i64 (min (max a (-131072)) 131071)) ∧ w' = w := by
  have hx : bits .xor .i64 (-1) (-131072) = 131071 := by decide
  have hs : IntKind.i64.signed = true := rfl
  go_enter Tryd.func14, Tryd.ntmps14
  go_wp2
  all_goals (refine bodyPost_ret (results_tmp rfl _ _ _) rfl ?_; refine ⟨ret_i ?_, rfl⟩; omega)
set_option maxRecDepth 100000 in
theorem sat_19 (a : Int) (w : World) (h1 : -9223372036854775808 ≤ a) (h2 : a ≤ 9223372036854775807) : Calls Tryd.prog 14 #[.int .i64 a, .int .i64 19] w fun e w' => e = .returned (.int .i64 (min (max a (-262144)) 262143)) ∧ w' = w := by
  have hx : bits .xor .i64 (-1) (-262144) = 262143 := by decide
  have hs : IntKind.i64.signed = true := rfl
  go_enter Tryd.func14, Tryd.ntmps14
  go_wp2
  all_goals (refine bodyPost_ret (results_tmp rfl _ _ _) rfl ?_; refine ⟨ret_i ?_, rfl⟩; omega)
set_option maxRecDepth 100000 in
theorem sat_20 (a : Int) (w : World) (h1 : -9223372036854775808 ≤ a) (h2 : a ≤ 9223372036854775807) : Calls Tryd.prog 14 #[.int .i64 a, .int .i64 20] w fun e w' => e = .returned (.int .i64 (min (max a (-524288)) 524287)) ∧ w' = w := by
  have hx : bits .xor .i64 (-1) (-524288) = 524287 := by decide
  have hs : IntKind.i64.signed = true := rfl
  go_enter Tryd.func14, Tryd.ntmps14
  go_wp2
  all_goals (refine bodyPost_ret (results_tmp rfl _ _ _) rfl ?_; refine ⟨ret_i ?_, rfl⟩; omega)
set_option maxRecDepth 100000 in
theorem sat_21 (a : Int) (w : World) (h1 : -9223372036854775808 ≤ a) (h2 : a ≤ 9223372036854775807) : Calls Tryd.prog 14 #[.int .i64 a, .int .i64 21] w fun e w' => e = .returned (.int .i64 (min (max a (-1048576)) 1048575)) ∧ w' = w := by
  have hx : bits .xor .i64 (-1) (-1048576) = 1048575 := by decide
  have hs : IntKind.i64.signed = true := rfl
  go_enter Tryd.func14, Tryd.ntmps14
  go_wp2
  all_goals (refine bodyPost_ret (results_tmp rfl _ _ _) rfl ?_; refine ⟨ret_i ?_, rfl⟩; omega)
set_option maxRecDepth 100000 in
theorem sat_22 (a : Int) (w : World) (h1 : -9223372036854775808 ≤ a) (h2 : a ≤ 9223372036854775807) : Calls Tryd.prog 14 #[.int .i64 a, .int .i64 22] w fun e w' => e = .returned (.int .i64 (min (max a (-2097152)) 2097151)) ∧ w' = w := by
  have hx : bits .xor .i64 (-1) (-2097152) = 2097151 := by decide
  have hs : IntKind.i64.signed = true := rfl
  go_enter Tryd.func14, Tryd.ntmps14
  go_wp2
  all_goals (refine bodyPost_ret (results_tmp rfl _ _ _) rfl ?_; refine ⟨ret_i ?_, rfl⟩; omega)
set_option maxRecDepth 100000 in
theorem sat_23 (a : Int) (w : World) (h1 : -9223372036854775808 ≤ a) (h2 : a ≤ 9223372036854775807) : Calls Tryd.prog 14 #[.int .i64 a, .int .i64 23] w fun e w' => e = .returned (.int .i64 (min (max a (-4194304)) 4194303)) ∧ w' = w := by
  have hx : bits .xor .i64 (-1) (-4194304) = 4194303 := by decide
  have hs : IntKind.i64.signed = true := rfl
  go_enter Tryd.func14, Tryd.ntmps14
  go_wp2
  all_goals (refine bodyPost_ret (results_tmp rfl _ _ _) rfl ?_; refine ⟨ret_i ?_, rfl⟩; omega)
set_option maxRecDepth 100000 in
theorem sat_24 (a : Int) (w : World) (h1 : -9223372036854775808 ≤ a) (h2 : a ≤ 9223372036854775807) : Calls Tryd.prog 14 #[.int .i64 a, .int .i64 24] w fun e w' => e = .returned (.int .i64 (min (max a (-8388608)) 8388607)) ∧ w' = w := by
  have hx : bits .xor .i64 (-1) (-8388608) = 8388607 := by decide
  have hs : IntKind.i64.signed = true := rfl
  go_enter Tryd.func14, Tryd.ntmps14
  go_wp2
  all_goals (refine bodyPost_ret (results_tmp rfl _ _ _) rfl ?_; refine ⟨ret_i ?_, rfl⟩; omega)
set_option maxRecDepth 100000 in
theorem sat_25 (a : Int) (w : World) (h1 : -9223372036854775808 ≤ a) (h2 : a ≤ 9223372036854775807) : Calls Tryd.prog 14 #[.int .i64 a, .int .i64 25] w fun e w' => e = .returned (.int .i64 (min (max a (-16777216)) 16777215)) ∧ w' = w := by
  have hx : bits .xor .i64 (-1) (-16777216) = 16777215 := by decide
  have hs : IntKind.i64.signed = true := rfl
  go_enter Tryd.func14, Tryd.ntmps14
  go_wp2
  all_goals (refine bodyPost_ret (results_tmp rfl _ _ _) rfl ?_; refine ⟨ret_i ?_, rfl⟩; omega)
set_option maxRecDepth 100000 in
theorem sat_26 (a : Int) (w : World) (h1 : -9223372036854775808 ≤ a) (h2 : a ≤ 9223372036854775807) : Calls Tryd.prog 14 #[.int .i64 a, .int .i64 26] w fun e w' => e = .returned (.int .i64 (min (max a (-33554432)) 33554431)) ∧ w' = w := by
  have hx : bits .xor .i64 (-1) (-33554432) = 33554431 := by decide
  have hs : IntKind.i64.signed = true := rfl
  go_enter Tryd.func14, Tryd.ntmps14
  go_wp2
  all_goals (refine bodyPost_ret (results_tmp rfl _ _ _) rfl ?_; refine ⟨ret_i ?_, rfl⟩; omega)
set_option maxRecDepth 100000 in
theorem sat_27 (a : Int) (w : World) (h1 : -9223372036854775808 ≤ a) (h2 : a ≤ 9223372036854775807) : Calls Tryd.prog 14 #[.int .i64 a, .int .i64 27] w fun e w' => e = .returned (.int .i64 (min (max a (-67108864)) 67108863)) ∧ w' = w := by
  have hx : bits .xor .i64 (-1) (-67108864) = 67108863 := by decide
  have hs : IntKind.i64.signed = true := rfl
  go_enter Tryd.func14, Tryd.ntmps14
  go_wp2
  all_goals (refine bodyPost_ret (results_tmp rfl _ _ _) rfl ?_; refine ⟨ret_i ?_, rfl⟩; omega)
set_option maxRecDepth 100000 in
theorem sat_28 (a : Int) (w : World) (h1 : -9223372036854775808 ≤ a) (h2 : a ≤ 9223372036854775807) : Calls Tryd.prog 14 #[.int .i64 a, .int .i64 28] w fun e w' => e = .returned (.int .i64 (min (max a (-134217728)) 134217727)) ∧ w' = w := by
  have hx : bits .xor .i64 (-1) (-134217728) = 134217727 := by decide
  have hs : IntKind.i64.signed = true := rfl
  go_enter Tryd.func14, Tryd.ntmps14
  go_wp2
  all_goals (refine bodyPost_ret (results_tmp rfl _ _ _) rfl ?_; refine ⟨ret_i ?_, rfl⟩; omega)
set_option maxRecDepth 100000 in
theorem sat_29 (a : Int) (w : World) (h1 : -9223372036854775808 ≤ a) (h2 : a ≤ 9223372036854775807) : Calls Tryd.prog 14 #[.int .i64 a, .int .i64 29] w fun e w' => e = .returned (.int .i64 (min (max a (-268435456)) 268435455)) ∧ w' = w := by
  have hx : bits .xor .i64 (-1) (-268435456) = 268435455 := by decide
  have hs : IntKind.i64.signed = true := rfl
  go_enter Tryd.func14, Tryd.ntmps14
  go_wp2
  all_goals (refine bodyPost_ret (results_tmp rfl _ _ _) rfl ?_; refine ⟨ret_i ?_, rfl⟩; omega)
set_option maxRecDepth 100000 in
theorem sat_30 (a : Int) (w : World) (h1 : -9223372036854775808 ≤ a) (h2 : a ≤ 9223372036854775807) : Calls Tryd.prog 14 #[.int .i64 a, .int .i64 30] w fun e w' => e = .returned (.int .i64 (min (max a (-536870912)) 536870911)) ∧ w' = w := by
  have hx : bits .xor .i64 (-1) (-536870912) = 536870911 := by decide
  have hs : IntKind.i64.signed = true := rfl
  go_enter Tryd.func14, Tryd.ntmps14
  go_wp2
  all_goals (refine bodyPost_ret (results_tmp rfl _ _ _) rfl ?_; refine ⟨ret_i ?_, rfl⟩; omega)
set_option maxRecDepth 100000 in
theorem sat_31 (a : Int) (w : World) (h1 : -9223372036854775808 ≤ a) (h2 : a ≤ 9223372036854775807) : Calls Tryd.prog 14 #[.int .i64 a, .int .i64 31] w fun e w' => e = .returned (.int .i64 (min (max a (-1073741824)) 1073741823)) ∧ w' = w := by
  have hx : bits .xor .i64 (-1) (-1073741824) = 1073741823 := by decide
  have hs : IntKind.i64.signed = true := rfl
  go_enter Tryd.func14, Tryd.ntmps14
  go_wp2
  all_goals (refine bodyPost_ret (results_tmp rfl _ _ _) rfl ?_; refine ⟨ret_i ?_, rfl⟩; omega)
set_option maxRecDepth 100000 in
theorem sat_32 (a : Int) (w : World) (h1 : -9223372036854775808 ≤ a) (h2 : a ≤ 9223372036854775807) : Calls Tryd.prog 14 #[.int .i64 a, .int .i64 32] w fun e w' => e = .returned (.int .i64 (min (max a (-2147483648)) 2147483647)) ∧ w' = w := by
  have hx : bits .xor .i64 (-1) (-2147483648) = 2147483647 := by decide
  have hs : IntKind.i64.signed = true := rfl
  go_enter Tryd.func14, Tryd.ntmps14
  go_wp2
  all_goals (refine bodyPost_ret (results_tmp rfl _ _ _) rfl ?_; refine ⟨ret_i ?_, rfl⟩; omega)
set_option maxRecDepth 100000 in
theorem sat_33 (a : Int) (w : World) (h1 : -9223372036854775808 ≤ a) (h2 : a ≤ 9223372036854775807) : Calls Tryd.prog 14 #[.int .i64 a, .int .i64 33] w fun e w' => e = .returned (.int .i64 (min (max a (-4294967296)) 4294967295)) ∧ w' = w := by
  have hx : bits .xor .i64 (-1) (-4294967296) = 4294967295 := by decide
  have hs : IntKind.i64.signed = true := rfl
  go_enter Tryd.func14, Tryd.ntmps14
  go_wp2
  all_goals (refine bodyPost_ret (results_tmp rfl _ _ _) rfl ?_; refine ⟨ret_i ?_, rfl⟩; omega)
set_option maxRecDepth 100000 in
theorem sat_34 (a : Int) (w : World) (h1 : -9223372036854775808 ≤ a) (h2 : a ≤ 9223372036854775807) : Calls Tryd.prog 14 #[.int .i64 a, .int .i64 34] w fun e w' => e = .returned (.int .i64 (min (max a (-8589934592)) 8589934591)) ∧ w' = w := by
  have hx : bits .xor .i64 (-1) (-8589934592) = 8589934591 := by decide
  have hs : IntKind.i64.signed = true := rfl
  go_enter Tryd.func14, Tryd.ntmps14
  go_wp2
  all_goals (refine bodyPost_ret (results_tmp rfl _ _ _) rfl ?_; refine ⟨ret_i ?_, rfl⟩; omega)
set_option maxRecDepth 100000 in
theorem sat_35 (a : Int) (w : World) (h1 : -9223372036854775808 ≤ a) (h2 : a ≤ 9223372036854775807) : Calls Tryd.prog 14 #[.int .i64 a, .int .i64 35] w fun e w' => e = .returned (.int .i64 (min (max a (-17179869184)) 17179869183)) ∧ w' = w := by
  have hx : bits .xor .i64 (-1) (-17179869184) = 17179869183 := by decide
  have hs : IntKind.i64.signed = true := rfl
  go_enter Tryd.func14, Tryd.ntmps14
  go_wp2
  all_goals (refine bodyPost_ret (results_tmp rfl _ _ _) rfl ?_; refine ⟨ret_i ?_, rfl⟩; omega)
set_option maxRecDepth 100000 in
theorem sat_36 (a : Int) (w : World) (h1 : -9223372036854775808 ≤ a) (h2 : a ≤ 9223372036854775807) : Calls Tryd.prog 14 #[.int .i64 a, .int .i64 36] w fun e w' => e = .returned (.int .i64 (min (max a (-34359738368)) 34359738367)) ∧ w' = w := by
  have hx : bits .xor .i64 (-1) (-34359738368) = 34359738367 := by decide
  have hs : IntKind.i64.signed = true := rfl
  go_enter Tryd.func14, Tryd.ntmps14
  go_wp2
  all_goals (refine bodyPost_ret (results_tmp rfl _ _ _) rfl ?_; refine ⟨ret_i ?_, rfl⟩; omega)
set_option maxRecDepth 100000 in
theorem sat_37 (a : Int) (w : World) (h1 : -9223372036854775808 ≤ a) (h2 : a ≤ 9223372036854775807) : Calls Tryd.prog 14 #[.int .i64 a, .int .i64 37] w fun e w' => e = .returned (.int .i64 (min (max a (-68719476736)) 68719476735)) ∧ w' = w := by
  have hx : bits .xor .i64 (-1) (-68719476736) = 68719476735 := by decide
  have hs : IntKind.i64.signed = true := rfl
  go_enter Tryd.func14, Tryd.ntmps14
  go_wp2
  all_goals (refine bodyPost_ret (results_tmp rfl _ _ _) rfl ?_; refine ⟨ret_i ?_, rfl⟩; omega)
set_option maxRecDepth 100000 in
theorem sat_38 (a : Int) (w : World) (h1 : -9223372036854775808 ≤ a) (h2 : a ≤ 9223372036854775807) : Calls Tryd.prog 14 #[.int .i64 a, .int .i64 38] w fun e w' => e = .returned (.int .i64 (min (max a (-137438953472)) 137438953471)) ∧ w' = w := by
  have hx : bits .xor .i64 (-1) (-137438953472) = 137438953471 := by decide
  have hs : IntKind.i64.signed = true := rfl
  go_enter Tryd.func14, Tryd.ntmps14
  go_wp2
  all_goals (refine bodyPost_ret (results_tmp rfl _ _ _) rfl ?_; refine ⟨ret_i ?_, rfl⟩; omega)
set_option maxRecDepth 100000 in
theorem sat_39 (a : Int) (w : World) (h1 : -9223372036854775808 ≤ a) (h2 : a ≤ 9223372036854775807) : Calls Tryd.prog 14 #[.int .i64 a, .int .i64 39] w fun e w' => e = .returned (.int .i64 (min (max a (-274877906944)) 274877906943)) ∧ w' = w := by
  have hx : bits .xor .i64 (-1) (-274877906944) = 274877906943 := by decide
  have hs : IntKind.i64.signed = true := rfl
  go_enter Tryd.func14, Tryd.ntmps14
  go_wp2
  all_goals (refine bodyPost_ret (results_tmp rfl _ _ _) rfl ?_; refine ⟨ret_i ?_, rfl⟩; omega)
set_option maxRecDepth 100000 in
theorem sat_40 (a : Int) (w : World) (h1 : -9223372036854775808 ≤ a) (h2 : a ≤ 9223372036854775807) : Calls Tryd.prog 14 #[.int .i64 a, .int .i64 40] w fun e w' => e = .returned (.int .i64 (min (max a (-549755813888)) 549755813887)) ∧ w' = w := by
  have hx : bits .xor .i64 (-1) (-549755813888) = 549755813887 := by decide
  have hs : IntKind.i64.signed = true := rfl
  go_enter Tryd.func14, Tryd.ntmps14
  go_wp2
  all_goals (refine bodyPost_ret (results_tmp rfl _ _ _) rfl ?_; refine ⟨ret_i ?_, rfl⟩; omega)
set_option maxRecDepth 100000 in
theorem sat_41 (a : Int) (w : World) (h1 : -9223372036854775808 ≤ a) (h2 : a ≤ 9223372036854775807) : Calls Tryd.prog 14 #[.int .i64 a, .int .i64 41] w fun e w' => e = .returned (.int .i64 (min (max a (-1099511627776)) 1099511627775)) ∧ w' = w := by
  have hx : bits .xor .i64 (-1) (-1099511627776) = 1099511627775 := by decide
  have hs : IntKind.i64.signed = true := rfl
  go_enter Tryd.func14, Tryd.ntmps14
  go_wp2
  all_goals (refine bodyPost_ret (results_tmp rfl _ _ _) rfl ?_; refine ⟨ret_i ?_, rfl⟩; omega)
set_option maxRecDepth 100000 in
theorem sat_42 (a : Int) (w : World) (h1 : -9223372036854775808 ≤ a) (h2 : a ≤ 9223372036854775807) : Calls Tryd.prog 14 #[.int .i64 a, .int .i64 42] w fun e w' => e = .returned (.int .i64 (min (max a (-2199023255552)) 2199023255551)) ∧ w' = w := by
  have hx : bits .xor .i64 (-1) (-2199023255552) = 2199023255551 := by decide
  have hs : IntKind.i64.signed = true := rfl
  go_enter Tryd.func14, Tryd.ntmps14
  go_wp2
  all_goals (refine bodyPost_ret (results_tmp rfl _ _ _) rfl ?_; refine ⟨ret_i ?_, rfl⟩; omega)
set_option maxRecDepth 100000 in
theorem sat_43 (a : Int) (w : World) (h1 : -9223372036854775808 ≤ a) (h2 : a ≤ 9223372036854775807) : Calls Tryd.prog 14 #[.int .i64 a, .int .i64 43] w fun e w' => e = .returned (.int .i64 (min (max a (-4398046511104)) 4398046511103)) ∧ w' = w := by
  have hx : bits .xor .i64 (-1) (-4398046511104) = 4398046511103 := by decide
  have hs : IntKind.i64.signed = true := rfl
  go_enter Tryd.func14, Tryd.ntmps14
  go_wp2
  all_goals (refine bodyPost_ret (results_tmp rfl _ _ _) rfl ?_; refine ⟨ret_i ?_, rfl⟩; omega)
set_option maxRecDepth 100000 in
theorem sat_44 (a : Int) (w : World) (h1 : -9223372036854775808 ≤ a) (h2 : a ≤ 9223372036854775807) : Calls Tryd.prog 14 #[.int .i64 a, .int .i64 44] w fun e w' => e = .returned (.int .i64 (min (max a (-8796093022208)) 8796093022207)) ∧ w' = w := by
  have hx : bits .xor .i64 (-1) (-8796093022208) = 8796093022207 := by decide
  have hs : IntKind.i64.signed = true := rfl
  go_enter Tryd.func14, Tryd.ntmps14
  go_wp2
  all_goals (refine bodyPost_ret (results_tmp rfl _ _ _) rfl ?_; refine ⟨ret_i ?_, rfl⟩; omega)
set_option maxRecDepth 100000 in
theorem sat_45 (a : Int) (w : World) (h1 : -9223372036854775808 ≤ a) (h2 : a ≤ 9223372036854775807) : Calls Tryd.prog 14 #[.int .i64 a, .int .i64 45] w fun e w' => e = .returned (.int .i64 (min (max a (-17592186044416)) 17592186044415)) ∧ w' = w := by
  have hx : bits .xor .i64 (-1) (-17592186044416) = 17592186044415 := by decide
  have hs : IntKind.i64.signed = true := rfl
  go_enter Tryd.func14, Tryd.ntmps14
  go_wp2
  all_goals (refine bodyPost_ret (results_tmp rfl _ _ _) rfl ?_; refine ⟨ret_i ?_, rfl⟩; omega)
set_option maxRecDepth 100000 in
theorem sat_46 (a : Int) (w : World) (h1 : -9223372036854775808 ≤ a) (h2 : a ≤ 9223372036854775807) : Calls Tryd.prog 14 #[.int .i64 a, .int .i64 46] w fun e w' => e = .returned (.int .i64 (min (max a (-35184372088832)) 35184372088831)) ∧ w' = w := by
  have hx : bits .xor .i64 (-1) (-35184372088832) = 35184372088831 := by decide
  have hs : IntKind.i64.signed = true := rfl
  go_enter Tryd.func14, Tryd.ntmps14
  go_wp2
  all_goals (refine bodyPost_ret (results_tmp rfl _ _ _) rfl ?_; refine ⟨ret_i ?_, rfl⟩; omega)
set_option maxRecDepth 100000 in
theorem sat_47 (a : Int) (w : World) (h1 : -9223372036854775808 ≤ a) (h2 : a ≤ 9223372036854775807) : Calls Tryd.prog 14 #[.int .i64 a, .int .i64 47] w fun e w' => e = .returned (.int .i64 (min (max a (-70368744177664)) 70368744177663)) ∧ w' = w := by
  have hx : bits .xor .i64 (-1) (-70368744177664) = 70368744177663 := by decide
  have hs : IntKind.i64.signed = true := rfl
  go_enter Tryd.func14, Tryd.ntmps14
  go_wp2
  all_goals (refine bodyPost_ret (results_tmp rfl _ _ _) rfl ?_; refine ⟨ret_i ?_, rfl⟩; omega)
set_option maxRecDepth 100000 in
theorem sat_48 (a : Int) (w : World) (h1 : -9223372036854775808 ≤ a) (h2 : a ≤ 9223372036854775807) : Calls Tryd.prog 14 #[.int .i64 a, .int .i64 48] w fun e w' => e = .returned (.int .i64 (min (max a (-140737488355328)) 140737488355327)) ∧ w' = w := by
  have hx : bits .xor .i64 (-1) (-140737488355328) = 140737488355327 := by decide
  have hs : IntKind.i64.signed = true := rfl
  go_enter Tryd.func14, Tryd.ntmps14
  go_wp2
  all_goals (refine bodyPost_ret (results_tmp rfl _ _ _) rfl ?_; refine ⟨ret_i ?_, rfl⟩; omega)
set_option maxRecDepth 100000 in
theorem sat_49 (a : Int) (w : World) (h1 : -9223372036854775808 ≤ a) (h2 : a ≤ 9223372036854775807) : Calls Tryd.prog 14 #[.int .i64 a, .int .i64 49] w fun e w' => e = .returned (.int .i64 (min (max a (-281474976710656)) 281474976710655)) ∧ w' = w := by
  have hx : bits .xor .i64 (-1) (-281474976710656) = 281474976710655 := by decide
  have hs : IntKind.i64.signed = true := rfl
  go_enter Tryd.func14, Tryd.ntmps14
  go_wp2
  all_goals (refine bodyPost_ret (results_tmp rfl _ _ _) rfl ?_; refine ⟨ret_i ?_, rfl⟩; omega)
set_option maxRecDepth 100000 in
theorem sat_50 (a : Int) (w : World) (h1 : -9223372036854775808 ≤ a) (h2 : a ≤ 9223372036854775807) : Calls Tryd.prog 14 #[.int .i64 a, .int .i64 50] w fun e w' => e = .returned (.int .i64 (min (max a (-562949953421312)) 562949953421311)) ∧ w' = w := by
  have hx : bits .xor .i64 (-1) (-562949953421312) = 562949953421311 := by decide
  have hs : IntKind.i64.signed = true := rfl
  go_enter Tryd.func14, Tryd.ntmps14
  go_wp2
  all_goals (refine bodyPost_ret (results_tmp rfl _ _ _) rfl ?_; refine ⟨ret_i ?_, rfl⟩; omega)
set_option maxRecDepth 100000 in
theorem sat_51 (a : Int) (w : World) (h1 : -9223372036854775808 ≤ a) (h2 : a ≤ 9223372036854775807) : Calls Tryd.prog 14 #[.int .i64 a, .int .i64 51] w fun e w' => e = .returned (.int .i64 (min (max a (-1125899906842624)) 1125899906842623)) ∧ w' = w := by
  have hx : bits .xor .i64 (-1) (-1125899906842624) = 1125899906842623 := by decide
  have hs : IntKind.i64.signed = true := rfl
  go_enter Tryd.func14, Tryd.ntmps14
  go_wp2
  all_goals (refine bodyPost_ret (results_tmp rfl _ _ _) rfl ?_; refine ⟨ret_i ?_, rfl⟩; omega)
set_option maxRecDepth 100000 in
theorem sat_52 (a : Int) (w : World) (h1 : -9223372036854775808 ≤ a) (h2 : a ≤ 9223372036854775807) : Calls Tryd.prog 14 #[.int .i64 a, .int .i64 52] w fun e w' => e = .returned (.int .i64 (min (max a (-2251799813685248)) 2251799813685247)) ∧ w' = w := by
  have hx : bits .xor .i64 (-1) (-2251799813685248) = 2251799813685247 := by decide
  have hs : IntKind.i64.signed = true := rfl
  go_enter Tryd.func14, Tryd.ntmps14
  go_wp2
  all_goals (refine bodyPost_ret (results_tmp rfl _ _ _) rfl ?_; refine ⟨ret_i ?_, rfl⟩; omega)
set_option maxRecDepth 100000 in
theorem sat_53 (a : Int) (w : World) (h1 : -9223372036854775808 ≤ a) (h2 : a ≤ 9223372036854775807) : Calls Tryd.prog 14 #[.int .i64 a, .int .i64 53] w fun e w' => e = .returned (.int .i64 (min (max a (-4503599627370496)) 4503599627370495)) ∧ w' = w := by
  have hx : bits .xor .i64 (-1) (-4503599627370496) = 4503599627370495 := by decide
  have hs : IntKind.i64.signed = true := rfl
  go_enter Tryd.func14, Tryd.ntmps14
  go_wp2
  all_goals (refine bodyPost_ret (results_tmp rfl _ _ _) rfl ?_; refine ⟨ret_i ?_, rfl⟩; omega)
set_option maxRecDepth 100000 in
theorem sat_54 (a : Int) (w : World) (h1 : -9223372036854775808 ≤ a) (h2 : a ≤ 9223372036854775807) : Calls Tryd.prog 14 #[.int .i64 a, .int .i64 54] w fun e w' => e = .returned (.int .i64 (min (max a (-9007199254740992)) 9007199254740991)) ∧ w' = w := by
  have hx : bits .xor .i64 (-1) (-9007199254740992) = 9007199254740991 := by decide
  have hs : IntKind.i64.signed = true := rfl
  go_enter Tryd.func14, Tryd.ntmps14
  go_wp2
  all_goals (refine bodyPost_ret (results_tmp rfl _ _ _) rfl ?_; refine ⟨ret_i ?_, rfl⟩; omega)
set_option maxRecDepth 100000 in
theorem sat_55 (a : Int) (w : World) (h1 : -9223372036854775808 ≤ a) (h2 : a ≤ 9223372036854775807) : Calls Tryd.prog 14 #[.int .i64 a, .int .i64 55] w fun e w' => e = .returned (.int .i64 (min (max a (-18014398509481984)) 18014398509481983)) ∧ w' = w := by
  have hx : bits .xor .i64 (-1) (-18014398509481984) = 18014398509481983 := by decide
  have hs : IntKind.i64.signed = true := rfl
  go_enter Tryd.func14, Tryd.ntmps14
  go_wp2
  all_goals (refine bodyPost_ret (results_tmp rfl _ _ _) rfl ?_; refine ⟨ret_i ?_, rfl⟩; omega)
set_option maxRecDepth 100000 in
theorem sat_56 (a : Int) (w : World) (h1 : -9223372036854775808 ≤ a) (h2 : a ≤ 9223372036854775807) : Calls Tryd.prog 14 #[.int .i64 a, .int .i64 56] w fun e w' => e = .returned (.int .i64 (min (max a (-36028797018963968)) 36028797018963967)) ∧ w' = w := by
  have hx : bits .xor .i64 (-1) (-36028797018963968) = 36028797018963967 := by decide
  have hs : IntKind.i64.signed = true := rfl
  go_enter Tryd.func14, Tryd.ntmps14
  go_wp2
  all_goals (refine bodyPost_ret (results_tmp rfl _ _ _) rfl ?_; refine ⟨ret_i ?_, rfl⟩; omega)
set_option maxRecDepth 100000 in
theorem sat_57 (a : Int) (w : World) (h1 : -9223372036854775808 ≤ a) (h2 : a ≤ 9223372036854775807) : Calls Tryd.prog 14 #[.int .i64 a, .int .i64 57] w fun e w' => e = .returned (.int .i64 (min (max a (-72057594037927936)) 72057594037927935)) ∧ w' = w := by
  have hx : bits .xor .i64 (-1) (-72057594037927936) = 72057594037927935 := by decide
  have hs : IntKind.i64.signed = true := rfl
  go_enter Tryd.func14, Tryd.ntmps14
  go_wp2
  all_goals (refine bodyPost_ret (results_tmp rfl _ _ _) rfl ?_; refine ⟨ret_i ?_, rfl⟩; omega)
set_option maxRecDepth 100000 in
theorem sat_58 (a : Int) (w : World) (h1 : -9223372036854775808 ≤ a) (h2 : a ≤ 9223372036854775807) : Calls Tryd.prog 14 #[.int .i64 a, .int .i64 58] w fun e w' => e = .returned (.int .i64 (min (max a (-144115188075855872)) 144115188075855871)) ∧ w' = w := by
  have hx : bits .xor .i64 (-1) (-144115188075855872) = 144115188075855871 := by decide
  have hs : IntKind.i64.signed = true := rfl
  go_enter Tryd.func14, Tryd.ntmps14
  go_wp2
  all_goals (refine bodyPost_ret (results_tmp rfl _ _ _) rfl ?_; refine ⟨ret_i ?_, rfl⟩; omega)
set_option maxRecDepth 100000 in
theorem sat_59 (a : Int) (w : World) (h1 : -9223372036854775808 ≤ a) (h2 : a ≤ 9223372036854775807) : Calls Tryd.prog 14 #[.int .i64 a, .int .i64 59] w fun e w' => e = .returned (.int .i64 (min (max a (-288230376151711744)) 288230376151711743)) ∧ w' = w := by
  have hx : bits .xor .i64 (-1) (-288230376151711744) = 288230376151711743 := by decide
  have hs : IntKind.i64.signed = true := rfl
  go_enter Tryd.func14, Tryd.ntmps14
  go_wp2
  all_goals (refine bodyPost_ret (results_tmp rfl _ _ _) rfl ?_; refine ⟨ret_i ?_, rfl⟩; omega)
set_option maxRecDepth 100000 in
theorem sat_60 (a : Int) (w : World) (h1 : -9223372036854775808 ≤ a) (h2 : a ≤ 9223372036854775807) : Calls Tryd.prog 14 #[.int .i64 a, .int .i64 60] w fun e w' => e = .returned (.int .i64 (min (max a (-576460752303423488)) 576460752303423487)) ∧ w' = w := by
  have hx : bits .xor .i64 (-1) (-576460752303423488) = 576460752303423487 := by decide
  have hs : IntKind.i64.signed = true := rfl
  go_enter Tryd.func14, Tryd.ntmps14
  go_wp2
  all_goals (refine bodyPost_ret (results_tmp rfl _ _ _) rfl ?_; refine ⟨ret_i ?_, rfl⟩; omega)
set_option maxRecDepth 100000 in
theorem sat_61 (a : Int) (w : World) (h1 : -9223372036854775808 ≤ a) (h2 : a ≤ 9223372036854775807) : Calls Tryd.prog 14 #[.int .i64 a, .int .i64 61] w fun e w' => e = .returned (.int .i64 (min (max a (-1152921504606846976)) 1152921504606846975)) ∧ w' = w := by
  have hx : bits .xor .i64 (-1) (-1152921504606846976) = 1152921504606846975 := by decide
  have hs : IntKind.i64.signed = true := rfl
  go_enter Tryd.func14, Tryd.ntmps14
  go_wp2
  all_goals (refine bodyPost_ret (results_tmp rfl _ _ _) rfl ?_; refine ⟨ret_i ?_, rfl⟩; omega)
set_option maxRecDepth 100000 in
theorem sat_62 (a : Int) (w : World) (h1 : -9223372036854775808 ≤ a) (h2 : a ≤ 9223372036854775807) : Calls Tryd.prog 14 #[.int .i64 a, .int .i64 62] w fun e w' => e = .returned (.int .i64 (min (max a (-2305843009213693952)) 2305843009213693951)) ∧ w' = w := by
  have hx : bits .xor .i64 (-1) (-2305843009213693952) = 2305843009213693951 := by decide
  have hs : IntKind.i64.signed = true := rfl
  go_enter Tryd.func14, Tryd.ntmps14
  go_wp2
  all_goals (refine bodyPost_ret (results_tmp rfl _ _ _) rfl ?_; refine ⟨ret_i ?_, rfl⟩; omega)
set_option maxRecDepth 100000 in
theorem sat_63 (a : Int) (w : World) (h1 : -9223372036854775808 ≤ a) (h2 : a ≤ 9223372036854775807) : Calls Tryd.prog 14 #[.int .i64 a, .int .i64 63] w fun e w' => e = .returned (.int .i64 (min (max a (-4611686018427387904)) 4611686018427387903)) ∧ w' = w := by
  have hx : bits .xor .i64 (-1) (-4611686018427387904) = 4611686018427387903 := by decide
  have hs : IntKind.i64.signed = true := rfl
  go_enter Tryd.func14, Tryd.ntmps14
  go_wp2
  all_goals (refine bodyPost_ret (results_tmp rfl _ _ _) rfl ?_; refine ⟨ret_i ?_, rfl⟩; omega)
set_option maxRecDepth 100000 in
theorem sat_64 (a : Int) (w : World) (h1 : -9223372036854775808 ≤ a) (h2 : a ≤ 9223372036854775807) : Calls Tryd.prog 14 #[.int .i64 a, .int .i64 64] w fun e w' => e = .returned (.int .i64 (min (max a (-9223372036854775808)) 9223372036854775807)) ∧ w' = w := by
  have hx : bits .xor .i64 (-1) (-9223372036854775808) = 9223372036854775807 := by decide
  have hs : IntKind.i64.signed = true := rfl
  go_enter Tryd.func14, Tryd.ntmps14
  go_wp2
  all_goals (refine bodyPost_ret (results_tmp rfl _ _ _) rfl ?_; refine ⟨ret_i ?_, rfl⟩; omega)
theorem saturate_c (a b : Int) (w : World) (h1 : -9223372036854775808 ≤ a) (h2 : a ≤ 9223372036854775807) : Calls Tryd.prog 14 #[.int .i64 a, .int .i64 b] w fun e w' => e = .returned (.int .i64 (sat a b)) ∧ w' = w := by
  by_cases h : b < 1 ∨ 64 < b
  · unfold sat; rw [if_pos h]; exact sat_out a b w h
  · have hb : b = 1 ∨ b = 2 ∨ b = 3 ∨ b = 4 ∨ b = 5 ∨ b = 6 ∨ b = 7 ∨ b = 8 ∨ b = 9 ∨ b = 10 ∨ b = 11 ∨ b = 12 ∨ b = 13 ∨ b = 14 ∨ b = 15 ∨ b = 16 ∨ b = 17 ∨ b = 18 ∨ b = 19 ∨ b = 20 ∨ b = 21 ∨ b = 22 ∨ b = 23 ∨ b = 24 ∨ b = 25 ∨ b = 26 ∨ b = 27 ∨ b = 28 ∨ b = 29 ∨ b = 30 ∨ b = 31 ∨ b = 32 ∨ b = 33 ∨ b = 34 ∨ b = 35 ∨ b = 36 ∨ b = 37 ∨ b = 38 ∨ b = 39 ∨ b = 40 ∨ b = 41 ∨ b = 42 ∨ b = 43 ∨ b = 44 ∨ b = 45 ∨ b = 46 ∨ b = 47 ∨ b = 48 ∨ b = 49 ∨ b = 50 ∨ b = 51 ∨ b = 52 ∨ b = 53 ∨ b = 54 ∨ b = 55 ∨ b = 56 ∨ b = 57 ∨ b = 58 ∨ b = 59 ∨ b = 60 ∨ b = 61 ∨ b = 62 ∨ b = 63 ∨ b = 64 := by omega
    unfold sat
    rw [if_neg h]
    clear h
    rcases hb with rfl | rfl | rfl | rfl | rfl | rfl | rfl | rfl | rfl | rfl | rfl | rfl | rfl | rfl | rfl | rfl | rfl | rfl | rfl | rfl | rfl | rfl | rfl | rfl | rfl | rfl | rfl | rfl | rfl | rfl | rfl | rfl | rfl | rfl | rfl | rfl | rfl | rfl | rfl | rfl | rfl | rfl | rfl | rfl | rfl | rfl | rfl | rfl | rfl | rfl | rfl | rfl | rfl | rfl | rfl | rfl | rfl | rfl | rfl | rfl | rfl | rfl | rfl | rfl
    · exact sat_1 a w h1 h2
    · exact sat_2 a w h1 h2
    · exact sat_3 a w h1 h2
    · exact sat_4 a w h1 h2
    · exact sat_5 a w h1 h2
    · exact sat_6 a w h1 h2
    · exact sat_7 a w h1 h2
    · exact sat_8 a w h1 h2
    · exact sat_9 a w h1 h2
    · exact sat_10 a w h1 h2
    · exact sat_11 a w h1 h2
    · exact sat_12 a w h1 h2
    · exact sat_13 a w h1 h2
    · exact sat_14 a w h1 h2
    · exact sat_15 a w h1 h2
    · exact sat_16 a w h1 h2
    · exact sat_17 a w h1 h2
    · exact sat_18 a w h1 h2
    · exact sat_19 a w h1 h2
    · exact sat_20 a w h1 h2
    · exact sat_21 a w h1 h2
    · exact sat_22 a w h1 h2
    · exact sat_23 a w h1 h2
    · exact sat_24 a w h1 h2
    · exact sat_25 a w h1 h2
    · exact sat_26 a w h1 h2
    · exact sat_27 a w h1 h2
    · exact sat_28 a w h1 h2
    · exact sat_29 a w h1 h2
    · exact sat_30 a w h1 h2
    · exact sat_31 a w h1 h2
    · exact sat_32 a w h1 h2
    · exact sat_33 a w h1 h2
    · exact sat_34 a w h1 h2
    · exact sat_35 a w h1 h2
    · exact sat_36 a w h1 h2
    · exact sat_37 a w h1 h2
    · exact sat_38 a w h1 h2
    · exact sat_39 a w h1 h2
    · exact sat_40 a w h1 h2
    · exact sat_41 a w h1 h2
    · exact sat_42 a w h1 h2
    · exact sat_43 a w h1 h2
    · exact sat_44 a w h1 h2
    · exact sat_45 a w h1 h2
    · exact sat_46 a w h1 h2
    · exact sat_47 a w h1 h2
    · exact sat_48 a w h1 h2
    · exact sat_49 a w h1 h2
    · exact sat_50 a w h1 h2
    · exact sat_51 a w h1 h2
    · exact sat_52 a w h1 h2
    · exact sat_53 a w h1 h2
    · exact sat_54 a w h1 h2
    · exact sat_55 a w h1 h2
    · exact sat_56 a w h1 h2
    · exact sat_57 a w h1 h2
    · exact sat_58 a w h1 h2
    · exact sat_59 a w h1 h2
    · exact sat_60 a w h1 h2
    · exact sat_61 a w h1 h2
    · exact sat_62 a w h1 h2
    · exact sat_63 a w h1 h2
    · exact sat_64 a w h1 h2

set_option maxHeartbeats 4000000 in
set_option maxRecDepth 100000 in
theorem rsat_in (a b : Int) (w : World) (h1 : -9223372036854775808 ≤ a) (h2 : a ≤ 9223372036854775807) (hb : 1 ≤ b) (hb2 : b ≤ 63) : Calls Tryd.prog 15 #[.int .i64 a, .int .i64 b] w fun e w' => e = .returned (.int .i64 (max (-(2 ^ (b - 1).toNat)) (min (2 ^ (b - 1).toNat - 1) a))) ∧ w' = w := by
  obtain ⟨n, rfl⟩ : ∃ n : Nat, b = n := ⟨b.toNat, by omega⟩
  obtain ⟨r, hr⟩ : ∃ r : Int, max (-(2 ^ ((n : Int) - 1).toNat)) (min (2 ^ ((n : Int) - 1).toNat - 1) a) = r := ⟨_, rfl⟩
  rw [hr]
  have HR := Lib.hid hr
  clear hr
  go_enter Tryd.func15, Tryd.ntmps15
  go_wp2
  go_loopw [5, 6] (fun s5 s6 wr => ∃ i : Nat, 1 ≤ i ∧ i ≤ n ∧ s6 = .int .i64 (i : Nat) ∧ s5 = .int .i64 ((2 ^ (i - 1) : Nat) : Int) ∧ wr = w) (fun _ s _ => n - (intOf s).toNat)
  case atStart => exact ⟨1, by omega, by omega, rfl, rfl, rfl⟩
  case round =>
    obtain ⟨i, hi1, hi2, rfl, rfl, rfl⟩ := hrel
    by_cases hlt : i < n
    · have hp : 2 ^ (i - 1) * 2 = 2 ^ i := by rw [← Nat.pow_succ]; congr 1; omega
      have hq : 2 ^ i ≤ 2 ^ 62 := Nat.pow_le_pow_right (by omega) (by omega)
      obtain ⟨t, ht⟩ : ∃ t, 2 ^ (i - 1) = t := ⟨_, rfl⟩
      rw [ht] at hp ⊢
      have HP := Lib.hid hp
      have ht2 : (2 : Int) * (t : Int) ≤ 9223372036854775807 := by omega
      have ht0 : (0 : Int) ≤ (t : Int) := by omega
      clear hp hq ht
      go_wp2
      go_roundw
      case rel => exact ⟨i + 1, by omega, by omega, by go_num, by rw [Nat.add_sub_cancel, ← HP.out]; go_num, (by first | rfl | trivial)⟩
      case measure => simp [intOf]; omega
    · obtain rfl : i = n := by omega
      have hq : 2 ^ (i - 1) ≤ 2 ^ 62 := Nat.pow_le_pow_right (by omega) (by omega)
      have e : (2 : Int) ^ ((i : Int) - 1).toNat = ((2 ^ (i - 1) : Nat) : Int) := by rw [show ((i : Int) - 1).toNat = i - 1 by omega]; simp
      have HR2 := HR.out
      rw [e] at HR2
      have hp1 : 1 ≤ 2 ^ (i - 1) := Nat.one_le_two_pow
      obtain ⟨t, ht⟩ : ∃ t, 2 ^ (i - 1) = t := ⟨_, rfl⟩
      rw [ht] at HR2 hq hp1 ⊢
      have ht2 : (t : Int) ≤ 4611686018427387904 := by omega
      have ht0 : (1 : Int) ≤ (t : Int) := by omega
      have HR3 := Lib.hid HR2
      clear hq ht e HR2 hp1
      go_wp2
      all_goals (refine bodyPost_ret (results_tmp rfl _ _ _) rfl ?_; refine ⟨ret_i ?_, rfl⟩; have := HR3.out; omega)
set_option maxRecDepth 100000 in
theorem rsat_out (a b : Int) (w : World) (h : b < 1 ∨ 63 < b) : Calls Tryd.prog 15 #[.int .i64 a, .int .i64 b] w fun e w' => e = .returned (.int .i64 a) ∧ w' = w := by
  by_cases h1 : b < 1
  · clear h
    go_enter Tryd.func15, Tryd.ntmps15
    go_wp2
    refine bodyPost_ret (results_tmp rfl _ _ _) rfl ?_
    exact ⟨rfl, rfl⟩
  · have h2 : 63 < b := by omega
    clear h
    go_enter Tryd.func15, Tryd.ntmps15
    go_wp2
    refine bodyPost_ret (results_tmp rfl _ _ _) rfl ?_
    exact ⟨rfl, rfl⟩
theorem rsaturate_c (a b : Int) (w : World) (h1 : -9223372036854775808 ≤ a) (h2 : a ≤ 9223372036854775807) : Calls Tryd.prog 15 #[.int .i64 a, .int .i64 b] w fun e w' => e = .returned (.int .i64 (sat a b)) ∧ w' = w := by
  by_cases h : b < 1 ∨ 63 < b
  · have e : sat a b = a := by
      unfold sat
      by_cases h64 : b < 1 ∨ 64 < b
      · rw [if_pos h64]
      · obtain rfl : b = 64 := by omega
        rw [if_neg h64, show ((64 : Int) - 1).toNat = 63 from rfl, show (2 : Int) ^ 63 = 9223372036854775808 by decide]
        omega
    rw [e]
    exact rsat_out a b w h
  · have e : max (-(2 ^ (b - 1).toNat)) (min (2 ^ (b - 1).toNat - 1) a) = sat a b := by
      unfold sat
      rw [if_neg (by omega)]
      have hp : (1 : Int) ≤ 2 ^ (b - 1).toNat := by
        have := Nat.one_le_two_pow (n := (b - 1).toNat)
        have e : (2 : Int) ^ (b - 1).toNat = ((2 ^ (b - 1).toNat : Nat) : Int) := by simp
        rw [e]; omega
      generalize (2 : Int) ^ (b - 1).toNat = t at hp ⊢
      omega
    rw [← e]
    exact rsat_in a b w h1 h2 (by omega) (by omega)

end Go.Proofs.YtnalmjbgkedcoaaDoor.fx
