/- The two digests are equal: the comparison of arrays; the guard of the laws. -/
import Derived.Test.YtacahgcbkgapdaaA11
import Derived.ChangeKeysEq
import Derived.Laws.StructEq
import Derived.Lib.SlBytesConst
import Derived.Lib.SmallJoins
namespace Go.Proofs.Ytacahgcbkgapdaa
open Go.RowKit
set_option linter.unusedVariables false

theorem underArr : Try.prog.underlying 24 = some (.array 32 5) := Try.underlying24
theorem plain5 : Try.prog.plainKey 5 = true := by kernel_rfl
theorem cells5 : Try.prog.cellsOf 5 = 1 := by kernel_rfl
theorem eqg24 : Try.prog.eqGuardType Try.prog.depth 24 = false := by kernel_rfl
theorem items_same (w : World) (D : List Int) (d : Nat) : ∀ is : List Nat, (∀ i ∈ is, i < D.length) → (Op.eqItems (d + 1) 5 1 (vals .u8 D).toArray (vals .u8 D).toArray is).run Try.prog w = .ok true w
  | [], _ => by simp [Op.eqItems]
  | i :: is, h => by
    have hi : ((vals .u8 D).toArray)[i * 1]? = some (.int .u8 (D.getD i 0)) := by
      rw [Nat.mul_one, List.getElem?_toArray]; exact vals_at (h i (by simp))
    have hp := run_part_plain (P := Try.prog) w plain5 hi
    simp only [Op.eqItems, Sem.run_bind, hp, Result.andThen_ok, run_equalIn_int w d 5 .u8 .u8 _ _ Try.underlying5]
    simpa using items_same w D d is (fun j hj => h j (by simp [hj]))
theorem eqIn_same (w : World) (D : List Int) (h : D.length = 32) : (Op.equalIn 10000 24 (.agg (vals .u8 D).toArray) (.agg (vals .u8 D).toArray)).run Try.prog w = .ok true w := by
  obtain ⟨i0, hi, _⟩ := info_parts info5z
  rw [show (10000 : Nat) = 9999 + 1 from rfl, run_equalIn_array w 9999 _ _ underArr hi, cells5]
  exact items_same w D 9998 _ (fun i hi => by rw [h]; simpa using hi)
theorem eql_same (w : World) (D : List Int) (h : D.length = 32) : (binOp .eql 24 (.agg (vals .u8 D).toArray) (.agg (vals .u8 D).toArray)).run Try.prog w = .ok (.bool true) w := by
  rw [run_eql_struct, eqIn_same w D h]; rfl
theorem neq_same (w : World) (D : List Int) (h : D.length = 32) : (binOp .neq 24 (.agg (vals .u8 D).toArray) (.agg (vals .u8 D).toArray)).run Try.prog w = .ok (.bool false) w := by
  rw [run_neq_struct, eqIn_same w D h]; rfl
theorem grd (w : World) (op : BinOp) (x y : Operand) (xs ys : Array Value) : (eqGuard op 24 x y (.agg xs) (.agg ys)).run Try.prog w = .ok () w := run_eqGuard_agg w op 24 x y xs ys eqg24
theorem abc0 : (dig [97, 98, 99]).getD 0 0 = 186 := by decide +kernel
theorem abc1 : (dig [97, 98, 99]).getD 1 0 = 120 := by decide +kernel
theorem abc31 : (dig [97, 98, 99]).getD 31 0 = 173 := by decide +kernel
set_option maxHeartbeats 1000000 in
set_option maxRecDepth 100000 in
theorem awake_c (w : World) : Calls Try.prog 9 #[] w fun e w' => e = .returned (.bool true) ∧ Below w.heap.size w w' := by
  have HDS := Lib.hid (fun (w : World) => digestSum_c (some ⟨w.heap.size, 0, none⟩) 3 3 [97, 98, 99] (w.alloc (.cells #[.int .u8 97, .int .u8 98, .int .u8 99] 5 (3, 4))) ⟨rfl, by omega, by omega, .inr ⟨_, 0, rfl, by simp, fun i hi => by rw [Nat.zero_add, World.cell?_alloc_mark w #[.int .u8 97, .int .u8 98, .int .u8 99] 5 (3, 4) i]; have := vals_at (k := .u8) (l := [97, 98, 99]) (i := i) (by simpa using hi); simpa [vals] using this⟩⟩ (by omega))
  have hcv := Lib.run_convert_bytes_const (P := Try.prog) w 22 5 #[.int .u8 97, .int .u8 98, .int .u8 99] 3 3 Try.underlying22 Try.underlying5
  have lD : (dig [97, 98, 99]).length = 32 := dig_len _
  have d0 := Lib.hid abc0
  have d1 := Lib.hid abc1
  have d31 := Lib.hid abc31
  obtain ⟨D, hD⟩ : ∃ D, dig [97, 98, 99] = D := ⟨_, rfl⟩
  rw [hD] at lD HDS d0 d1 d31
  clear hD
  go_enter Try.func9, Try.ntmps9
  go_wp2_with fail
  clear hcv
  refine (HDS.out w).mono ?_
  rintro e w2 ⟨rfl, hb2⟩
  have B2 : Hid (Below w.heap.size w w2) := Lib.hid ((((Below.refl w.heap.size w).alloc (Nat.le_refl _) _)).trans (hb2.mono (by simp)))
  clear hb2
  go_wp2_with fail
  obtain ⟨w3, hw3⟩ : ∃ w3 : World, w3 = w2.alloc (.cells (vals .u8 (List.replicate 32 0)).toArray 24) := ⟨_, rfl⟩
  have R3 : Hid (Row w3 w2.heap.size 24 (vals .u8 (List.replicate 32 0))) := Lib.hid (by rw [hw3]; exact Row.new w2 24 _)
  have B3 : Hid (Below w.heap.size w w3) := Lib.hid (by rw [hw3]; exact B2.out.alloc B2.out.size _)
  simp only [vals, List.replicate, List.map_cons, List.map_nil] at hw3
  rw [← hw3]
  clear hw3
  rw [storeRow R3.out (by simp [lD]) vals_one']
  simp only [Result.andThen_ok]
  rw [Oper.upon_skip]
  obtain ⟨w5, hw5⟩ : ∃ w5, w3.setRow w2.heap.size (vals .u8 D).toArray = w5 := ⟨_, rfl⟩
  rw [hw5]
  have R5 : Hid (Row w5 w2.heap.size 24 (vals .u8 D)) := Lib.hid (by rw [← hw5]; exact R3.out.setRow _)
  have B5 : Hid (Below w.heap.size w w5) := Lib.hid (by rw [← hw5]; exact below_setRow B3.out B2.out.size _)
  clear hw5 R3 B3
  go_wp2_with fail
  refine (new_c w5).mono ?_
  rintro e w6 ⟨rfl, hw6⟩
  have B6 : Hid (Below w.heap.size w w6) := Lib.hid (by rw [hw6]; exact B5.out.alloc B5.out.size _)
  have R6 : Hid (Row w6 w2.heap.size 24 (vals .u8 D)) := Lib.hid (by rw [hw6]; exact R5.out.alloc _)
  have k0 := R6.out.cell 0 (vals_at (by omega))
  have k1 := R6.out.cell 1 (vals_at (by omega))
  have k31 := R6.out.cell 31 (vals_at (by omega))
  rw [d0.out] at k0
  rw [d1.out] at k1
  rw [d31.out] at k31
  clear hw6 B5 R5
  go_wp2
  refine bodyPost_ret (results_tmp rfl _ _ _) rfl ?_
  exact ⟨rfl, B6.out⟩

end Go.Proofs.Ytacahgcbkgapdaa
