/- Texts as bytes; AppendBytes, AppendText. -/
import Derived.Test.YtcdkehghdhcokaaDoorWA
import Derived.Lib.ConvBytes
namespace Go.Proofs.YtcdkehghdhcokaaDoor.wr
open Go.RowKit
set_option linter.unusedVariables false

/-- a text's bytes -/
def nums (s : ByteArray) : List Int := s.data.toList.map fun b => (b.toNat : Int)
theorem nums_len (s : ByteArray) : (nums s).length = s.size := by
  unfold nums
  rw [List.length_map, Array.length_toList]
  rfl
theorem nums_back (s : ByteArray) : strOfNums (nums s) = s := by
  apply ByteArray.ext
  apply Array.ext'
  rw [strOfNums_data]
  unfold nums
  rw [List.map_map]
  conv => rhs; rw [← List.map_id s.data.toList]
  apply List.map_congr_left
  intro b _
  simp
theorem nums_at (s : ByteArray) (i : Nat) (h : i < s.size) : (nums s).getD i 0 = ((s.data.toList.getD i 0).toNat : Int) := by
  have h2 : i < s.data.toList.length := by rw [Array.length_toList]; exact h
  unfold nums
  rw [List.getD_eq_getElem?_getD, List.getD_eq_getElem?_getD, List.getElem?_map, List.getElem?_eq_getElem h2]
  rfl
theorem conv_str (w : World) (s : ByteArray) : (convert 9 22 (.string s)).run Tryd.prog w = .ok (.slice (some ⟨w.heap.size, 0, none⟩) s.size (grownCap w s.size 0 5)) (Lib.bytesWorld w 5 s) :=
  Lib.run_convert_string_bytes w 9 22 5 s Tryd.underlying9 Tryd.underlying22 Tryd.underlying5
theorem below_str (w : World) (s : ByteArray) : Below w.heap.size w (Lib.bytesWorld w 5 s) :=
  ⟨rfl, rfl, rfl, by rw [Lib.bytesWorld_size]; omega, fun k hk => Lib.bytesWorld_at_old w 5 s k hk⟩
theorem sl_str (w : World) (s : ByteArray) (hs : s.size ≤ 4000) : SlB (Lib.bytesWorld w 5 s) (some ⟨w.heap.size, 0, none⟩) s.size (grownCap w s.size 0 5) (nums s) := by
  refine ⟨nums_len s, grownCap_ge w _ _ _, ?_, fun h => (by cases h), .inr ⟨w.heap.size, 0, rfl, by rw [Lib.bytesWorld_size]; omega, fun i hi => ?_⟩⟩
  · have := grownCap_le_maxLen w s.size 0 5 (by unfold maxLen; omega)
    unfold maxLen at this
    omega
  · rw [Nat.zero_add, Lib.bytesWorld_cell w 5 s i hi, nums_at s i hi]
set_option maxHeartbeats 2000000 in
set_option maxRecDepth 100000 in
theorem appendBytes_c (a0 : Option Addr) (n0 c0 : Nat) (A : List Int) (a1 : Option Addr) (n1 c1 : Nat) (B : List Int) (w : World) (h0 : SlB w a0 n0 c0 A) (h1 : SlB w a1 n1 c1 B) (hn0 : n0 ≤ 3000) (hn1 : n1 ≤ 4000) (hn : n0 + n1 ≤ 7900) :
    Calls Tryd.prog 44 #[.slice a0 n0 c0, .slice a1 n1 c1] w fun e w' => Gives w (A ++ grp n1 ++ B) e w' := by
  have H0 := Lib.hid h0
  have H1 := Lib.hid h1
  have hnc : n1 ≤ c1 := h1.2.1
  have hc63 := h1.2.2.1
  have g10 := Lib.hid (grp_len10 (n := n1) (by omega))
  have HG := Lib.hid (group_c w.heap.size _ [] n1 w (by omega) (by simp) (OwnB.nil _ _) (Nat.le_refl _))
  clear h0 h1
  go_enter Tryd.func44, Tryd.ntmps44
  go_wp2_with fail
  refine HG.out.mono ?_
  rintro e w1 ⟨v, rfl, hO, hb⟩
  rw [List.nil_append] at hO
  obtain ⟨a, c, rfl⟩ := hO.slice
  have B1 := Lib.hid hb
  have S1 := Lib.hid (hO.sl rfl)
  clear hO hb HG
  go_wp2_with fail
  refine (concat3_c w1.heap.size a0 n0 c0 A a _ c (grp n1) a1 n1 c1 B _ (by rw [cell_of_row _ w1.heap.size 0 _ 22 (0, 0) (heap_alloc_new w1 _)]; rfl) (by rw [cell_of_row _ w1.heap.size 1 _ 22 (0, 0) (heap_alloc_new w1 _)]; rfl) (by rw [cell_of_row _ w1.heap.size 2 _ 22 (0, 0) (heap_alloc_new w1 _)]; rfl) (by simp) ((H0.out.below B1.out).below (Below.newBlock _)) (S1.out.below (Below.newBlock _)) ((H1.out.below B1.out).below (Below.newBlock _)) (by have := g10.out; omega)).mono ?_
  rintro e w2 ⟨v, rfl, hO, hb⟩
  have O2 := Lib.hid (hO.le (base' := w.heap.size) (by have := B1.out.size; simp; omega))
  have B2 := Lib.hid ((B1.out.alloc B1.out.size _).trans (hb.mono (by have := B1.out.size; simp; omega)))
  clear hO hb
  go_wp2
  refine bodyPost_ret (results_tmp rfl _ _ _) rfl ?_
  exact ⟨_, rfl, O2.out, B2.out⟩
set_option maxHeartbeats 2000000 in
set_option maxRecDepth 100000 in
theorem appendText_c (a0 : Option Addr) (n0 c0 : Nat) (A : List Int) (s : ByteArray) (w : World) (h0 : SlB w a0 n0 c0 A) (hn0 : n0 ≤ 3000) (hs : s.size ≤ 4000) :
    Calls Tryd.prog 26 #[.slice a0 n0 c0, .string s] w fun e w' => Gives w (A ++ grp s.size ++ nums s) e w' := by
  have cs := conv_str w s
  have BS := Lib.hid (below_str w s)
  have HC := Lib.hid (appendBytes_c a0 n0 c0 A _ _ _ (nums s) _ (h0.below BS.out) (sl_str w s hs) hn0 hs (by omega))
  obtain ⟨G, hG⟩ : ∃ G, grownCap w s.size 0 5 = G := ⟨_, rfl⟩
  obtain ⟨wb, hwb⟩ : ∃ x, Lib.bytesWorld w 5 s = x := ⟨_, rfl⟩
  obtain ⟨z, hz⟩ : ∃ z, s.size = z := ⟨_, rfl⟩
  rw [hwb] at cs BS HC
  rw [hG] at cs HC
  rw [hz] at cs HC ⊢
  clear h0 hG hwb
  go_enter Tryd.func26, Tryd.ntmps26
  go_wp2_with fail
  refine HC.out.mono ?_
  rintro e w1 ⟨v, rfl, hO, hb⟩
  have O1 := Lib.hid (hO.le BS.out.size)
  have B1 := Lib.hid (BS.out.trans (hb.mono BS.out.size))
  clear hO hb
  go_wp2
  refine bodyPost_ret (results_tmp rfl _ _ _) rfl ?_
  exact ⟨_, rfl, O1.out, B1.out⟩
theorem byteCells_nums (s : ByteArray) : byteCells s = vals .u8 (nums s) := by
  simp [byteCells, vals, nums]
end Go.Proofs.YtcdkehghdhcokaaDoor.wr
