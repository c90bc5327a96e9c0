/- Carried over from another seat by program (portn.py). -/
import Derived.Test.YtnalmjbgkedcoaaDoorChecked
import Derived.Test.YtnalmjbgkedcoaaDoorNpk
import Derived.Lib.Strings
import Derived.Lib.Slices
import Derived.Lib.Small
import Derived.Lib.Walk
import Derived.Lib.BitFns
namespace Go.Proofs.YtnalmjbgkedcoaaDoor
set_option linter.unusedVariables false
/-- a byte of x, looked up, and the bits below it -/
theorem len_part {z : Int} {n m k : Nat} (hz : z.toNat = m) (h0 : 0 ≤ z) (h1 : z ≤ 255) (hs : Lib.bitLen n = k + Lib.bitLen m) :
    Lib.len8 z = (Lib.bitLen n : Int) - k ∧ (Lib.bitLen n : Int) - k ≤ 8 ∧ 0 ≤ (Lib.bitLen n : Int) - k := by
  have a := Lib.len8_of z h0 h1
  have b := Lib.bitLen_le8' z h0 h1
  rw [hz] at a b
  rw [a]; omega
set_option maxHeartbeats 4000000 in
set_option maxRecDepth 100000 in
theorem len32_i (x : Int) (w : World) (h0 : 0 ≤ x) (h1 : x ≤ 4294967295) :
    Calls Tryd.prog 82 #[.int .u32 x] w fun e w' => e = .returned (.int .i64 (Lib.bitLen x.toNat)) ∧ w = w' := by
  go_enter Tryd.func82, Tryd.ntmps82
  go_wp2
  · go_ret
    obtain ⟨a, b, c⟩ := len_part (z := x / 65536 / 256 % 256) (n := x.toNat) (k := 24) (m := x.toNat / 16777216) (by omega) (by omega) (by omega) (Lib.bitLen_shift24 _ (by omega) (by omega))
    refine ⟨congrArg (fun z => Ending.returned (Value.int IntKind.i64 z)) ?_, rfl⟩
    rw [a]; omega
  · go_ret
    obtain ⟨a, b, c⟩ := len_part (z := x / 65536 % 256) (n := x.toNat) (k := 16) (m := x.toNat / 65536) (by omega) (by omega) (by omega) (Lib.bitLen_shift16 _ (by omega) (by omega))
    refine ⟨congrArg (fun z => Ending.returned (Value.int IntKind.i64 z)) ?_, rfl⟩
    rw [a]; omega
  · go_ret
    obtain ⟨a, b, c⟩ := len_part (z := x / 256 % 256) (n := x.toNat) (k := 8) (m := x.toNat / 256) (by omega) (by omega) (by omega) (Lib.bitLen_shift8 _ (by omega) (by omega))
    refine ⟨congrArg (fun z => Ending.returned (Value.int IntKind.i64 z)) ?_, rfl⟩
    rw [a]; omega
  · go_ret
    obtain ⟨a, b, c⟩ := len_part (z := x % 256) (n := x.toNat) (k := 0) (m := x.toNat) (by omega) (by omega) (by omega) (by omega)
    refine ⟨congrArg (fun z => Ending.returned (Value.int IntKind.i64 z)) ?_, rfl⟩
    rw [a]; omega
theorem len32_c (x : Nat) (w : World) (hx : x < 4294967296) :
    Calls Tryd.prog 82 #[.int .u32 x] w fun e w' => e = .returned (.int .i64 (bl x : Nat)) ∧ w = w' := by
  have h := len32_i x w (by omega) (by omega)
  rwa [Int.toNat_natCast, bl_lib (by omega)] at h
theorem lz32_c (x : Nat) (w : World) (hx : x < 4294967296) :
    Calls Tryd.prog 96 #[.int .u32 x] w fun e w' => e = .returned (.int .i64 (32 - (bl x : Nat))) ∧ w = w' := by
  have hb : bl x ≤ 32 := bl_le hx
  obtain ⟨b, hbl⟩ : ∃ b, bl x = b := ⟨_, rfl⟩
  have C := len32_c x w hx
  rw [hbl] at C hb ⊢
  have HC := Lib.hid C
  clear C hbl
  go_enter Tryd.func96, Tryd.ntmps96
  go_wp2_with (go_at_call 82; refine HC.out.mono ?_; rintro e w' ⟨rfl, rfl⟩)
  go_ret
  refine ⟨congrArg (fun z => Ending.returned (Value.int IntKind.i64 z)) ?_, rfl⟩
  omega
end Go.Proofs.YtnalmjbgkedcoaaDoor
