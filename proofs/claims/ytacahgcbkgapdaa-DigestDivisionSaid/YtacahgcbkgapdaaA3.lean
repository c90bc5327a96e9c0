/- The constants. -/
import Derived.Test.YtacahgcbkgapdaaA2
import Derived.Great.BuildSlice
namespace Go.Proofs.Ytacahgcbkgapdaa
open Go.RowKit
set_option linter.unusedVariables false

/-- the constants of the rounds -/
def kc : List Int := [1116352408, 1899447441, 3049323471, 3921009573, 961987163, 1508970993, 2453635748, 2870763221, 3624381080, 310598401, 607225278, 1426881987, 1925078388, 2162078206, 2614888103, 3248222580, 3835390401, 4022224774, 264347078, 604807628, 770255983, 1249150122, 1555081692, 1996064986, 2554220882, 2821834349, 2952996808, 3210313671, 3336571891, 3584528711, 113926993, 338241895, 666307205, 773529912, 1294757372, 1396182291, 1695183700, 1986661051, 2177026350, 2456956037, 2730485921, 2820302411, 3259730800, 3345764771, 3516065817, 3600352804, 4094571909, 275423344, 430227734, 506948616, 659060556, 883997877, 958139571, 1322822218, 1537002063, 1747873779, 1955562222, 2024104815, 2227730452, 2361852424, 2428436474, 2756734187, 3204031479, 3329325298]
theorem kc_len : kc.length = 64 := by decide
theorem info44' : ((Try.prog.info? 44).bind (·.zero)).map (·.cells.size) = some 64 := by kernel_rfl
theorem info36 : (Try.prog.info? 36).map (·.size) = some 1 := by kernel_rfl
theorem hk64 : (Try.prog.info? 44).map (·.size) = some (vals .u32 kc).toArray.size := by rw [info44]; rfl
theorem hp64k : (part [] 64).toArray.size = (vals .u32 kc).toArray.size := by rfl

set_option maxHeartbeats 1000000 in
set_option maxRecDepth 100000 in
theorem constants_c (w : World) : Calls Try.prog 21 #[] w fun e w' => e = .returned (.agg (vals .u32 kc).toArray) ∧ Below w.heap.size w w' := by
  have h1 : Hid ((Try.prog.info? 44).map (·.size) = some (vals .u32 kc).toArray.size) := Lib.hid hk64
  go_enter Try.func21, Try.ntmps21
  go_upto_region 1 with fail
  obtain ⟨w0, hw0⟩ : ∃ w0 : World, w0 = w.alloc (.cells (part [] 64).toArray 44) := ⟨_, rfl⟩
  have r0 : Hid (Row w0 w.heap.size 44 (part [] 64)) := Lib.hid (by rw [hw0]; exact Row.new w 44 _)
  have b0 : Hid (Below w.heap.size w w0) := Lib.hid (by rw [hw0]; exact (Below.refl _ _).alloc (Nat.le_refl _) _)
  simp only [part_zero, vals, List.replicate, List.map_cons, List.map_nil] at hw0
  rw [← hw0]
  clear hw0
  go_step
  refine wpList_buildFlatArr rfl 44 36 64 _ rfl .u32 kc Try.underlying44 info36 info44' rfl ?_
  refine wpList_store_row rfl 44 _ _ rfl w.heap.size (vals .u32 kc).toArray rfl rfl 44 _ r0.out h1.out hp64k vals_one ?_
  go_wp2_with fail
  refine bodyPost_ret (v := .agg (vals .u32 kc).toArray) (results_cell_row rfl _ _ w.heap.size 44 _ (0, 0) _ rfl (setRow_heap _ _ _ _ _ _ r0.out) Try.underlying44 rfl h1.out) rfl ⟨rfl, ?_⟩
  exact below_setRow b0.out (Nat.le_refl _) _

set_option maxHeartbeats 1000000 in
set_option maxRecDepth 100000 in
theorem constantsd_c (w : World) : Calls Try.prog 18 #[] w fun e w' => e = .returned (.agg (vals .u32 kc).toArray) ∧ Below w.heap.size w w' := by
  have h1 : Hid ((Try.prog.info? 44).map (·.size) = some (vals .u32 kc).toArray.size) := Lib.hid hk64
  go_enter Try.func18, Try.ntmps18
  go_upto_region 1 with fail
  obtain ⟨w0, hw0⟩ : ∃ w0 : World, w0 = w.alloc (.cells (part [] 64).toArray 44) := ⟨_, rfl⟩
  have r0 : Hid (Row w0 w.heap.size 44 (part [] 64)) := Lib.hid (by rw [hw0]; exact Row.new w 44 _)
  have b0 : Hid (Below w.heap.size w w0) := Lib.hid (by rw [hw0]; exact (Below.refl _ _).alloc (Nat.le_refl _) _)
  simp only [part_zero, vals, List.replicate, List.map_cons, List.map_nil] at hw0
  rw [← hw0]
  clear hw0
  go_step
  refine wpList_buildFlatArr rfl 44 36 64 _ rfl .u32 kc Try.underlying44 info36 info44' rfl ?_
  refine wpList_store_row rfl 44 _ _ rfl w.heap.size (vals .u32 kc).toArray rfl rfl 44 _ r0.out h1.out hp64k vals_one ?_
  go_wp2_with fail
  refine bodyPost_ret (v := .agg (vals .u32 kc).toArray) (results_cell_row rfl _ _ w.heap.size 44 _ (0, 0) _ rfl (setRow_heap _ _ _ _ _ _ r0.out) Try.underlying44 rfl h1.out) rfl ⟨rfl, ?_⟩
  exact below_setRow b0.out (Nat.le_refl _) _

end Go.Proofs.Ytacahgcbkgapdaa
