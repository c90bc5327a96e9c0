/- Rotations. -/
import Derived.Test.YtacahgcbkgapdaaA0
namespace Go.Proofs.Ytacahgcbkgapdaa
open Go.RowKit
set_option linter.unusedVariables false

/-- a callee that leaves the world as it is, in a region that draws, behind another such region -/
theorem qadd_same {P : Program} {f : FuncId} {args : Array Value} {w : World} {a n : Nat} {v : Value} (h : Calls P f args (w.drewN (a + n)) fun e w' => e = .returned v ∧ w' = w.drewN (a + n)) :
    Calls P f args (w.drewN (a + n)) fun e w'' => e = .returned v ∧ ∃ m, w'' = w.drewN (a + m) := Calls.mono h fun _ _ ⟨x, y⟩ => ⟨x, n, y⟩
theorem qadd {P : Program} {f : FuncId} {args : Array Value} {w : World} {a n : Nat} {v : Value} (h : Calls P f args (w.drewN (a + n)) fun e w' => e = .returned v ∧ ∃ m, w' = (w.drewN (a + n)).drewN m) :
    Calls P f args (w.drewN (a + n)) fun e w'' => e = .returned v ∧ ∃ m, w'' = w.drewN (a + m) := Calls.mono h fun _ _ ⟨x, m, y⟩ => ⟨x, n + m, by rw [y, World.drewN_drewN, Nat.add_assoc]⟩

set_option maxHeartbeats 400000 in
theorem rotl_2 (x : Int) (w : World) : Calls Try.prog 23 #[.int .u32 x, .int .i64 (-2)] w fun e w' => e = .returned (.int .u32 (rot 2 x)) ∧ w = w' := by
  have hf : Hid (rot 2 x = bits .or .u32 (x * 1073741824 % 4294967296) (x / 4)) := Lib.hid (by rw [or_comm]; rfl)
  have hb : bits BinOp.and IntKind.u64 (IntKind.u64.wrap (-2)) 31 = 30 := by decide +kernel
  go_enter Try.func23, Try.ntmps23
  go_wp2
  go_ret
  exact ⟨ret_int hf.out.symm, rfl⟩
set_option maxHeartbeats 400000 in
theorem rot_2 (x : Int) (w : World) : Calls Try.prog 22 #[.int .u32 x, .int .i64 2] w fun e w' => e = .returned (.int .u32 (rot 2 x)) ∧ w = w' := by
  go_enter Try.func22, Try.ntmps22
  go_wp2_with (go_at_call 23; refine (rotl_2 _ _).mono ?_; rintro e w' ⟨rfl, rfl⟩)
  go_ret
  exact ⟨rfl, rfl⟩
set_option maxHeartbeats 400000 in
theorem rotd_2 (x : Int) (w : World) : Calls Try.prog 19 #[.int .u32 x, .int .i64 2] w fun e w' => e = .returned (.int .u32 (rot 2 x)) ∧ ∃ q, w' = w.drewN q := by
  have hf : Hid (rot 2 x = bits .or .u32 (x / 4) (x * 1073741824 % 4294967296)) := Lib.hid rfl
  go_enter Try.func19, Try.ntmps19
  go_wp2
  go_quiet (fail)
  go_wp2
  go_ret
  exact ⟨ret_int hf.out.symm, _, rfl⟩
theorem rotq_2 (x : Int) (w : World) : Calls Try.prog 22 #[.int .u32 x, .int .i64 2] w fun e w' => e = .returned (.int .u32 (rot 2 x)) ∧ w' = w := (rot_2 x w).mono fun _ _ h => ⟨h.1, h.2.symm⟩

set_option maxHeartbeats 400000 in
theorem rotl_6 (x : Int) (w : World) : Calls Try.prog 23 #[.int .u32 x, .int .i64 (-6)] w fun e w' => e = .returned (.int .u32 (rot 6 x)) ∧ w = w' := by
  have hf : Hid (rot 6 x = bits .or .u32 (x * 67108864 % 4294967296) (x / 64)) := Lib.hid (by rw [or_comm]; rfl)
  have hb : bits BinOp.and IntKind.u64 (IntKind.u64.wrap (-6)) 31 = 26 := by decide +kernel
  go_enter Try.func23, Try.ntmps23
  go_wp2
  go_ret
  exact ⟨ret_int hf.out.symm, rfl⟩
set_option maxHeartbeats 400000 in
theorem rot_6 (x : Int) (w : World) : Calls Try.prog 22 #[.int .u32 x, .int .i64 6] w fun e w' => e = .returned (.int .u32 (rot 6 x)) ∧ w = w' := by
  go_enter Try.func22, Try.ntmps22
  go_wp2_with (go_at_call 23; refine (rotl_6 _ _).mono ?_; rintro e w' ⟨rfl, rfl⟩)
  go_ret
  exact ⟨rfl, rfl⟩
set_option maxHeartbeats 400000 in
theorem rotd_6 (x : Int) (w : World) : Calls Try.prog 19 #[.int .u32 x, .int .i64 6] w fun e w' => e = .returned (.int .u32 (rot 6 x)) ∧ ∃ q, w' = w.drewN q := by
  have hf : Hid (rot 6 x = bits .or .u32 (x / 64) (x * 67108864 % 4294967296)) := Lib.hid rfl
  go_enter Try.func19, Try.ntmps19
  go_wp2
  go_quiet (fail)
  go_wp2
  go_ret
  exact ⟨ret_int hf.out.symm, _, rfl⟩
theorem rotq_6 (x : Int) (w : World) : Calls Try.prog 22 #[.int .u32 x, .int .i64 6] w fun e w' => e = .returned (.int .u32 (rot 6 x)) ∧ w' = w := (rot_6 x w).mono fun _ _ h => ⟨h.1, h.2.symm⟩

set_option maxHeartbeats 400000 in
theorem rotl_7 (x : Int) (w : World) : Calls Try.prog 23 #[.int .u32 x, .int .i64 (-7)] w fun e w' => e = .returned (.int .u32 (rot 7 x)) ∧ w = w' := by
  have hf : Hid (rot 7 x = bits .or .u32 (x * 33554432 % 4294967296) (x / 128)) := Lib.hid (by rw [or_comm]; rfl)
  have hb : bits BinOp.and IntKind.u64 (IntKind.u64.wrap (-7)) 31 = 25 := by decide +kernel
  go_enter Try.func23, Try.ntmps23
  go_wp2
  go_ret
  exact ⟨ret_int hf.out.symm, rfl⟩
set_option maxHeartbeats 400000 in
theorem rot_7 (x : Int) (w : World) : Calls Try.prog 22 #[.int .u32 x, .int .i64 7] w fun e w' => e = .returned (.int .u32 (rot 7 x)) ∧ w = w' := by
  go_enter Try.func22, Try.ntmps22
  go_wp2_with (go_at_call 23; refine (rotl_7 _ _).mono ?_; rintro e w' ⟨rfl, rfl⟩)
  go_ret
  exact ⟨rfl, rfl⟩
set_option maxHeartbeats 400000 in
theorem rotd_7 (x : Int) (w : World) : Calls Try.prog 19 #[.int .u32 x, .int .i64 7] w fun e w' => e = .returned (.int .u32 (rot 7 x)) ∧ ∃ q, w' = w.drewN q := by
  have hf : Hid (rot 7 x = bits .or .u32 (x / 128) (x * 33554432 % 4294967296)) := Lib.hid rfl
  go_enter Try.func19, Try.ntmps19
  go_wp2
  go_quiet (fail)
  go_wp2
  go_ret
  exact ⟨ret_int hf.out.symm, _, rfl⟩
theorem rotq_7 (x : Int) (w : World) : Calls Try.prog 22 #[.int .u32 x, .int .i64 7] w fun e w' => e = .returned (.int .u32 (rot 7 x)) ∧ w' = w := (rot_7 x w).mono fun _ _ h => ⟨h.1, h.2.symm⟩

set_option maxHeartbeats 400000 in
theorem rotl_11 (x : Int) (w : World) : Calls Try.prog 23 #[.int .u32 x, .int .i64 (-11)] w fun e w' => e = .returned (.int .u32 (rot 11 x)) ∧ w = w' := by
  have hf : Hid (rot 11 x = bits .or .u32 (x * 2097152 % 4294967296) (x / 2048)) := Lib.hid (by rw [or_comm]; rfl)
  have hb : bits BinOp.and IntKind.u64 (IntKind.u64.wrap (-11)) 31 = 21 := by decide +kernel
  go_enter Try.func23, Try.ntmps23
  go_wp2
  go_ret
  exact ⟨ret_int hf.out.symm, rfl⟩
set_option maxHeartbeats 400000 in
theorem rot_11 (x : Int) (w : World) : Calls Try.prog 22 #[.int .u32 x, .int .i64 11] w fun e w' => e = .returned (.int .u32 (rot 11 x)) ∧ w = w' := by
  go_enter Try.func22, Try.ntmps22
  go_wp2_with (go_at_call 23; refine (rotl_11 _ _).mono ?_; rintro e w' ⟨rfl, rfl⟩)
  go_ret
  exact ⟨rfl, rfl⟩
set_option maxHeartbeats 400000 in
theorem rotd_11 (x : Int) (w : World) : Calls Try.prog 19 #[.int .u32 x, .int .i64 11] w fun e w' => e = .returned (.int .u32 (rot 11 x)) ∧ ∃ q, w' = w.drewN q := by
  have hf : Hid (rot 11 x = bits .or .u32 (x / 2048) (x * 2097152 % 4294967296)) := Lib.hid rfl
  go_enter Try.func19, Try.ntmps19
  go_wp2
  go_quiet (fail)
  go_wp2
  go_ret
  exact ⟨ret_int hf.out.symm, _, rfl⟩
theorem rotq_11 (x : Int) (w : World) : Calls Try.prog 22 #[.int .u32 x, .int .i64 11] w fun e w' => e = .returned (.int .u32 (rot 11 x)) ∧ w' = w := (rot_11 x w).mono fun _ _ h => ⟨h.1, h.2.symm⟩

set_option maxHeartbeats 400000 in
theorem rotl_13 (x : Int) (w : World) : Calls Try.prog 23 #[.int .u32 x, .int .i64 (-13)] w fun e w' => e = .returned (.int .u32 (rot 13 x)) ∧ w = w' := by
  have hf : Hid (rot 13 x = bits .or .u32 (x * 524288 % 4294967296) (x / 8192)) := Lib.hid (by rw [or_comm]; rfl)
  have hb : bits BinOp.and IntKind.u64 (IntKind.u64.wrap (-13)) 31 = 19 := by decide +kernel
  go_enter Try.func23, Try.ntmps23
  go_wp2
  go_ret
  exact ⟨ret_int hf.out.symm, rfl⟩
set_option maxHeartbeats 400000 in
theorem rot_13 (x : Int) (w : World) : Calls Try.prog 22 #[.int .u32 x, .int .i64 13] w fun e w' => e = .returned (.int .u32 (rot 13 x)) ∧ w = w' := by
  go_enter Try.func22, Try.ntmps22
  go_wp2_with (go_at_call 23; refine (rotl_13 _ _).mono ?_; rintro e w' ⟨rfl, rfl⟩)
  go_ret
  exact ⟨rfl, rfl⟩
set_option maxHeartbeats 400000 in
theorem rotd_13 (x : Int) (w : World) : Calls Try.prog 19 #[.int .u32 x, .int .i64 13] w fun e w' => e = .returned (.int .u32 (rot 13 x)) ∧ ∃ q, w' = w.drewN q := by
  have hf : Hid (rot 13 x = bits .or .u32 (x / 8192) (x * 524288 % 4294967296)) := Lib.hid rfl
  go_enter Try.func19, Try.ntmps19
  go_wp2
  go_quiet (fail)
  go_wp2
  go_ret
  exact ⟨ret_int hf.out.symm, _, rfl⟩
theorem rotq_13 (x : Int) (w : World) : Calls Try.prog 22 #[.int .u32 x, .int .i64 13] w fun e w' => e = .returned (.int .u32 (rot 13 x)) ∧ w' = w := (rot_13 x w).mono fun _ _ h => ⟨h.1, h.2.symm⟩

set_option maxHeartbeats 400000 in
theorem rotl_17 (x : Int) (w : World) : Calls Try.prog 23 #[.int .u32 x, .int .i64 (-17)] w fun e w' => e = .returned (.int .u32 (rot 17 x)) ∧ w = w' := by
  have hf : Hid (rot 17 x = bits .or .u32 (x * 32768 % 4294967296) (x / 131072)) := Lib.hid (by rw [or_comm]; rfl)
  have hb : bits BinOp.and IntKind.u64 (IntKind.u64.wrap (-17)) 31 = 15 := by decide +kernel
  go_enter Try.func23, Try.ntmps23
  go_wp2
  go_ret
  exact ⟨ret_int hf.out.symm, rfl⟩
set_option maxHeartbeats 400000 in
theorem rot_17 (x : Int) (w : World) : Calls Try.prog 22 #[.int .u32 x, .int .i64 17] w fun e w' => e = .returned (.int .u32 (rot 17 x)) ∧ w = w' := by
  go_enter Try.func22, Try.ntmps22
  go_wp2_with (go_at_call 23; refine (rotl_17 _ _).mono ?_; rintro e w' ⟨rfl, rfl⟩)
  go_ret
  exact ⟨rfl, rfl⟩
set_option maxHeartbeats 400000 in
theorem rotd_17 (x : Int) (w : World) : Calls Try.prog 19 #[.int .u32 x, .int .i64 17] w fun e w' => e = .returned (.int .u32 (rot 17 x)) ∧ ∃ q, w' = w.drewN q := by
  have hf : Hid (rot 17 x = bits .or .u32 (x / 131072) (x * 32768 % 4294967296)) := Lib.hid rfl
  go_enter Try.func19, Try.ntmps19
  go_wp2
  go_quiet (fail)
  go_wp2
  go_ret
  exact ⟨ret_int hf.out.symm, _, rfl⟩
theorem rotq_17 (x : Int) (w : World) : Calls Try.prog 22 #[.int .u32 x, .int .i64 17] w fun e w' => e = .returned (.int .u32 (rot 17 x)) ∧ w' = w := (rot_17 x w).mono fun _ _ h => ⟨h.1, h.2.symm⟩

set_option maxHeartbeats 400000 in
theorem rotl_18 (x : Int) (w : World) : Calls Try.prog 23 #[.int .u32 x, .int .i64 (-18)] w fun e w' => e = .returned (.int .u32 (rot 18 x)) ∧ w = w' := by
  have hf : Hid (rot 18 x = bits .or .u32 (x * 16384 % 4294967296) (x / 262144)) := Lib.hid (by rw [or_comm]; rfl)
  have hb : bits BinOp.and IntKind.u64 (IntKind.u64.wrap (-18)) 31 = 14 := by decide +kernel
  go_enter Try.func23, Try.ntmps23
  go_wp2
  go_ret
  exact ⟨ret_int hf.out.symm, rfl⟩
set_option maxHeartbeats 400000 in
theorem rot_18 (x : Int) (w : World) : Calls Try.prog 22 #[.int .u32 x, .int .i64 18] w fun e w' => e = .returned (.int .u32 (rot 18 x)) ∧ w = w' := by
  go_enter Try.func22, Try.ntmps22
  go_wp2_with (go_at_call 23; refine (rotl_18 _ _).mono ?_; rintro e w' ⟨rfl, rfl⟩)
  go_ret
  exact ⟨rfl, rfl⟩
set_option maxHeartbeats 400000 in
theorem rotd_18 (x : Int) (w : World) : Calls Try.prog 19 #[.int .u32 x, .int .i64 18] w fun e w' => e = .returned (.int .u32 (rot 18 x)) ∧ ∃ q, w' = w.drewN q := by
  have hf : Hid (rot 18 x = bits .or .u32 (x / 262144) (x * 16384 % 4294967296)) := Lib.hid rfl
  go_enter Try.func19, Try.ntmps19
  go_wp2
  go_quiet (fail)
  go_wp2
  go_ret
  exact ⟨ret_int hf.out.symm, _, rfl⟩
theorem rotq_18 (x : Int) (w : World) : Calls Try.prog 22 #[.int .u32 x, .int .i64 18] w fun e w' => e = .returned (.int .u32 (rot 18 x)) ∧ w' = w := (rot_18 x w).mono fun _ _ h => ⟨h.1, h.2.symm⟩

set_option maxHeartbeats 400000 in
theorem rotl_19 (x : Int) (w : World) : Calls Try.prog 23 #[.int .u32 x, .int .i64 (-19)] w fun e w' => e = .returned (.int .u32 (rot 19 x)) ∧ w = w' := by
  have hf : Hid (rot 19 x = bits .or .u32 (x * 8192 % 4294967296) (x / 524288)) := Lib.hid (by rw [or_comm]; rfl)
  have hb : bits BinOp.and IntKind.u64 (IntKind.u64.wrap (-19)) 31 = 13 := by decide +kernel
  go_enter Try.func23, Try.ntmps23
  go_wp2
  go_ret
  exact ⟨ret_int hf.out.symm, rfl⟩
set_option maxHeartbeats 400000 in
theorem rot_19 (x : Int) (w : World) : Calls Try.prog 22 #[.int .u32 x, .int .i64 19] w fun e w' => e = .returned (.int .u32 (rot 19 x)) ∧ w = w' := by
  go_enter Try.func22, Try.ntmps22
  go_wp2_with (go_at_call 23; refine (rotl_19 _ _).mono ?_; rintro e w' ⟨rfl, rfl⟩)
  go_ret
  exact ⟨rfl, rfl⟩
set_option maxHeartbeats 400000 in
theorem rotd_19 (x : Int) (w : World) : Calls Try.prog 19 #[.int .u32 x, .int .i64 19] w fun e w' => e = .returned (.int .u32 (rot 19 x)) ∧ ∃ q, w' = w.drewN q := by
  have hf : Hid (rot 19 x = bits .or .u32 (x / 524288) (x * 8192 % 4294967296)) := Lib.hid rfl
  go_enter Try.func19, Try.ntmps19
  go_wp2
  go_quiet (fail)
  go_wp2
  go_ret
  exact ⟨ret_int hf.out.symm, _, rfl⟩
theorem rotq_19 (x : Int) (w : World) : Calls Try.prog 22 #[.int .u32 x, .int .i64 19] w fun e w' => e = .returned (.int .u32 (rot 19 x)) ∧ w' = w := (rot_19 x w).mono fun _ _ h => ⟨h.1, h.2.symm⟩

set_option maxHeartbeats 400000 in
theorem rotl_22 (x : Int) (w : World) : Calls Try.prog 23 #[.int .u32 x, .int .i64 (-22)] w fun e w' => e = .returned (.int .u32 (rot 22 x)) ∧ w = w' := by
  have hf : Hid (rot 22 x = bits .or .u32 (x * 1024 % 4294967296) (x / 4194304)) := Lib.hid (by rw [or_comm]; rfl)
  have hb : bits BinOp.and IntKind.u64 (IntKind.u64.wrap (-22)) 31 = 10 := by decide +kernel
  go_enter Try.func23, Try.ntmps23
  go_wp2
  go_ret
  exact ⟨ret_int hf.out.symm, rfl⟩
set_option maxHeartbeats 400000 in
theorem rot_22 (x : Int) (w : World) : Calls Try.prog 22 #[.int .u32 x, .int .i64 22] w fun e w' => e = .returned (.int .u32 (rot 22 x)) ∧ w = w' := by
  go_enter Try.func22, Try.ntmps22
  go_wp2_with (go_at_call 23; refine (rotl_22 _ _).mono ?_; rintro e w' ⟨rfl, rfl⟩)
  go_ret
  exact ⟨rfl, rfl⟩
set_option maxHeartbeats 400000 in
theorem rotd_22 (x : Int) (w : World) : Calls Try.prog 19 #[.int .u32 x, .int .i64 22] w fun e w' => e = .returned (.int .u32 (rot 22 x)) ∧ ∃ q, w' = w.drewN q := by
  have hf : Hid (rot 22 x = bits .or .u32 (x / 4194304) (x * 1024 % 4294967296)) := Lib.hid rfl
  go_enter Try.func19, Try.ntmps19
  go_wp2
  go_quiet (fail)
  go_wp2
  go_ret
  exact ⟨ret_int hf.out.symm, _, rfl⟩
theorem rotq_22 (x : Int) (w : World) : Calls Try.prog 22 #[.int .u32 x, .int .i64 22] w fun e w' => e = .returned (.int .u32 (rot 22 x)) ∧ w' = w := (rot_22 x w).mono fun _ _ h => ⟨h.1, h.2.symm⟩

set_option maxHeartbeats 400000 in
theorem rotl_25 (x : Int) (w : World) : Calls Try.prog 23 #[.int .u32 x, .int .i64 (-25)] w fun e w' => e = .returned (.int .u32 (rot 25 x)) ∧ w = w' := by
  have hf : Hid (rot 25 x = bits .or .u32 (x * 128 % 4294967296) (x / 33554432)) := Lib.hid (by rw [or_comm]; rfl)
  have hb : bits BinOp.and IntKind.u64 (IntKind.u64.wrap (-25)) 31 = 7 := by decide +kernel
  go_enter Try.func23, Try.ntmps23
  go_wp2
  go_ret
  exact ⟨ret_int hf.out.symm, rfl⟩
set_option maxHeartbeats 400000 in
theorem rot_25 (x : Int) (w : World) : Calls Try.prog 22 #[.int .u32 x, .int .i64 25] w fun e w' => e = .returned (.int .u32 (rot 25 x)) ∧ w = w' := by
  go_enter Try.func22, Try.ntmps22
  go_wp2_with (go_at_call 23; refine (rotl_25 _ _).mono ?_; rintro e w' ⟨rfl, rfl⟩)
  go_ret
  exact ⟨rfl, rfl⟩
set_option maxHeartbeats 400000 in
theorem rotd_25 (x : Int) (w : World) : Calls Try.prog 19 #[.int .u32 x, .int .i64 25] w fun e w' => e = .returned (.int .u32 (rot 25 x)) ∧ ∃ q, w' = w.drewN q := by
  have hf : Hid (rot 25 x = bits .or .u32 (x / 33554432) (x * 128 % 4294967296)) := Lib.hid rfl
  go_enter Try.func19, Try.ntmps19
  go_wp2
  go_quiet (fail)
  go_wp2
  go_ret
  exact ⟨ret_int hf.out.symm, _, rfl⟩
theorem rotq_25 (x : Int) (w : World) : Calls Try.prog 22 #[.int .u32 x, .int .i64 25] w fun e w' => e = .returned (.int .u32 (rot 25 x)) ∧ w' = w := (rot_25 x w).mono fun _ _ h => ⟨h.1, h.2.symm⟩

end Go.Proofs.Ytacahgcbkgapdaa
