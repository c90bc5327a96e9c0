/- AppendText at longer bytes; Int; the end of what is read. -/
import Derived.Test.YtbdmljdcipcanaaV15
import Derived.Test.YtbdmljdcipcanaaV5
import Derived.Test.YtbdmljdcipcanaaV7
import Derived.Lib.Zigzag
namespace Go.Proofs.Ytbdmljdcipcanaa
open Go.RowKit
set_option linter.unusedVariables false

set_option maxHeartbeats 2000000 in
set_option maxRecDepth 100000 in
theorem appendBytes2_c (a0 : Option Addr) (n0 c0 : Nat) (A : List Int) (a1 : Option Addr) (n1 c1 : Nat) (B : List Int) (w : World) (h0 : SlB w a0 n0 c0 A) (h1 : SlB w a1 n1 c1 B) (hn1 : n1 ≤ 4000) (hn : n0 + n1 ≤ 7900) :
    Calls Try.prog 16 #[.slice a0 n0 c0, .slice a1 n1 c1] w fun e w' => Gives w (A ++ grp n1 ++ B) e w' := by
  have H0 := Lib.hid h0
  have H1 := Lib.hid h1
  have hnc : n1 ≤ c1 := h1.2.1
  have hc63 := h1.2.2.1
  have g10 := Lib.hid (grp_len10 (n := n1) (by omega))
  have HG := Lib.hid (group_c w.heap.size _ [] n1 w (by omega) (by simp) (OwnB.nil _ _) (Nat.le_refl _))
  clear h0 h1
  go_enter Try.func16, Try.ntmps16
  go_wp2_with fail
  refine HG.out.mono ?_
  rintro e w1 ⟨v, rfl, hO, hb⟩
  rw [List.nil_append] at hO
  obtain ⟨a, c, rfl⟩ := hO.slice
  have B1 := Lib.hid hb
  have S1 := Lib.hid (hO.sl rfl)
  clear hO hb HG
  go_wp2_with fail
  refine (concat3_c w1.heap.size a0 n0 c0 A a _ c (grp n1) a1 n1 c1 B _ (by rw [cell_of_row _ w1.heap.size 0 _ 22 (0, 0) (heap_alloc_new w1 _)]; rfl) (by rw [cell_of_row _ w1.heap.size 1 _ 22 (0, 0) (heap_alloc_new w1 _)]; rfl) (by rw [cell_of_row _ w1.heap.size 2 _ 22 (0, 0) (heap_alloc_new w1 _)]; rfl) (by simp) ((H0.out.below B1.out).below (Below.newBlock _)) (S1.out.below (Below.newBlock _)) ((H1.out.below B1.out).below (Below.newBlock _)) (by have := g10.out; omega)).mono ?_
  rintro e w2 ⟨v, rfl, hO, hb⟩
  have O2 := Lib.hid (hO.le (base' := w.heap.size) (by have := B1.out.size; simp; omega))
  have B2 := Lib.hid ((B1.out.alloc B1.out.size _).trans (hb.mono (by have := B1.out.size; simp; omega)))
  clear hO hb
  go_wp2
  refine bodyPost_ret (results_tmp rfl _ _ _) rfl ?_
  exact ⟨_, rfl, O2.out, B2.out⟩
set_option maxHeartbeats 2000000 in
set_option maxRecDepth 100000 in
theorem appendText2_c (a0 : Option Addr) (n0 c0 : Nat) (A : List Int) (s : ByteArray) (w : World) (h0 : SlB w a0 n0 c0 A) (hs : s.size ≤ 4000) (hn0 : n0 + s.size ≤ 7900) :
    Calls Try.prog 17 #[.slice a0 n0 c0, .string s] w fun e w' => Gives w (A ++ grp s.size ++ nums s) e w' := by
  have cs := conv_str w s
  have BS := Lib.hid (below_str w s)
  have HC := Lib.hid (appendBytes2_c a0 n0 c0 A _ _ _ (nums s) _ (h0.below BS.out) (sl_str w s hs) hs (by omega))
  obtain ⟨G, hG⟩ : ∃ G, grownCap w s.size 0 5 = G := ⟨_, rfl⟩
  obtain ⟨wb, hwb⟩ : ∃ x, Lib.bytesWorld w 5 s = x := ⟨_, rfl⟩
  obtain ⟨z, hz⟩ : ∃ z, s.size = z := ⟨_, rfl⟩
  rw [hwb] at cs BS HC
  rw [hG] at cs HC
  rw [hz] at cs HC ⊢
  clear h0 hG hwb
  go_enter Try.func17, Try.ntmps17
  go_wp2_with fail
  refine HC.out.mono ?_
  rintro e w1 ⟨v, rfl, hO, hb⟩
  have O1 := Lib.hid (hO.le BS.out.size)
  have B1 := Lib.hid (BS.out.trans (hb.mono BS.out.size))
  clear hO hb
  go_wp2
  refine bodyPost_ret (results_tmp rfl _ _ _) rfl ?_
  exact ⟨_, rfl, O1.out, B1.out⟩

theorem and1 (m : Nat) (h : m < 18446744073709551616) : bits .and .u64 (m : Int) 1 = ((m % 2 : Nat) : Int) := by
  have := u64_and_nat m 1 h (by omega)
  rw [show ((1 : Nat) : Int) = 1 from rfl] at this
  rw [this, Nat.and_one_is_mod]
theorem xorI0 (k : Nat) (h : k < 9223372036854775808) : bits .xor .i64 (k : Int) 0 = (k : Int) := by
  show IntKind.i64.wrap ((BitVec.ofInt 64 (k : Int) ^^^ BitVec.ofInt 64 0).toNat : Int) = _
  have h2 : (BitVec.ofInt 64 (k : Int)).toNat = k := by
    rw [BitVec.ofInt_natCast, BitVec.toNat_ofNat]; exact Nat.mod_eq_of_lt (by omega)
  have h1 : (BitVec.ofInt 64 0).toNat = 0 := by decide
  rw [BitVec.toNat_xor, h1, h2, Nat.xor_zero, IntKind.wrap_i64]
  omega
theorem xorI1 (k : Nat) (h : k < 9223372036854775808) : bits .xor .i64 (k : Int) (-1) = -(k : Int) - 1 := by
  have := Lib.i64_not k h
  rw [← this]
  unfold bits
  simp only []
  rw [BitVec.xor_comm]
set_option maxHeartbeats 4000000 in
set_option maxRecDepth 100000 in
theorem int_c (R : Nat) (i : Int) (T : List Int) (w : World) (h : Rd w R (grp (zz i) ++ T)) (h1 : -9223372036854775808 ≤ i) (h2 : i ≤ 9223372036854775807) :
    Calls Try.prog 24 #[.pointer (some ⟨R, 0, none⟩)] w fun e w' => e = .returned (.tuple #[.int .i64 i, .int .i64 0]) ∧ Rd w' R T ∧ w.grownBy w' (some R) := by
  have HU := Lib.hid (uint_c R (zz i) T w h (zz_lt h1 h2))
  clear h
  by_cases hp : 0 ≤ i
  · obtain ⟨k, rfl⟩ : ∃ k : Nat, i = k := ⟨i.toNat, by omega⟩
    have ez : zz (k : Int) = 2 * k := by unfold zz; rw [if_pos hp]; omega
    rw [ez] at HU
    have a1 := and1 (2 * k) (by omega)
    rw [show 2 * k % 2 = 0 by omega, Int.natCast_mul] at a1
    replace a1 : bits .and .u64 (2 * (k : Int)) 1 = 0 := a1
    have x1 := xorI0 k (by omega)
    have d1 : 2 * (k : Int) / 2 = k := by omega
    rw [show ((2 * k : Nat) : Int) = 2 * (k : Int) by omega] at HU
    clear ez
    go_enter Try.func24, Try.ntmps24
    go_wp2_with fail
    refine HU.out.mono ?_
    rintro e w1 ⟨rfl, hr, hg⟩
    have RR := Lib.hid hr
    have GG := Lib.hid hg
    clear hr hg HU
    go_wp2
    refine bodyPost_ret (results_tmp2 rfl _ _ _) rfl ?_
    exact ⟨rfl, RR.out, GG.out⟩
  · obtain ⟨k, rfl⟩ : ∃ k : Nat, i = -((k : Int) + 1) := ⟨(-(i + 1)).toNat, by omega⟩
    have ez : zz (-((k : Int) + 1)) = 2 * k + 1 := by unfold zz; rw [if_neg hp]; omega
    rw [ez] at HU
    have a1 := and1 (2 * k + 1) (by omega)
    rw [show (2 * k + 1) % 2 = 1 by omega, show ((2 * k + 1 : Nat) : Int) = 2 * (k : Int) + 1 by omega] at a1
    replace a1 : bits .and .u64 (2 * (k : Int) + 1) 1 = 1 := a1
    have x1 := xorI1 k (by omega)
    have d1 : (2 * (k : Int) + 1) / 2 = k := by omega
    have d2 : -((k : Int) + 1) = -(k : Int) - 1 := by omega
    rw [show ((2 * k + 1 : Nat) : Int) = 2 * (k : Int) + 1 by omega] at HU
    rw [d2]
    clear ez d2
    go_enter Try.func24, Try.ntmps24
    go_wp2_with fail
    refine HU.out.mono ?_
    rintro e w1 ⟨rfl, hr, hg⟩
    have RR := Lib.hid hr
    have GG := Lib.hid hg
    clear hr hg HU
    go_wp2
    refine bodyPost_ret (results_tmp2 rfl _ _ _) rfl ?_
    exact ⟨rfl, RR.out, GG.out⟩
set_option maxHeartbeats 4000000 in
set_option maxRecDepth 100000 in
theorem lead_none (a : Option Addr) (c : Nat) (w : World) :
    Calls Try.prog 32 #[.slice a 0 c] w fun e w' => e = .returned (.tuple #[.int .u64 0, .int .i64 0]) ∧ w' = w := by
  go_enter Try.func32, Try.ntmps32
  go_wp2
  refine wp_loop_rounds 1 ?_
  rw [rounds_succ]
  go_wp2
  refine bodyPost_ret (results_tmp2 rfl _ _ _) rfl ?_
  exact ⟨rfl, rfl⟩
set_option maxHeartbeats 4000000 in
set_option maxRecDepth 100000 in
theorem uint_none (R : Nat) (w : World) (h : Rd w R []) :
    Calls Try.prog 25 #[.pointer (some ⟨R, 0, none⟩)] w fun e w' => e = .returned (.tuple #[.int .u64 0, .int .i64 5]) ∧ RdBad w' R ∧ w.grownBy w' (some R) := by
  have HF := Lib.hid (fail_c R _ w h)
  obtain ⟨a, c, h1, h2, h3⟩ := h
  have HL := Lib.hid (lead_none a c w)
  have k0 := cell_of_row w R 0 _ 58 (0, 0) h1
  have k1 := cell_of_row w R 1 _ 58 (0, 0) h1
  change w.cell? ⟨R, 0, none⟩ = some (.slice a 0 c) at k0
  change w.cell? ⟨R, 1, none⟩ = some (.bool false) at k1
  clear h1 h2 h3
  go_enter Try.func25, Try.ntmps25
  go_wp2_with fail
  refine HL.out.mono ?_
  rintro e w1 ⟨rfl, rfl⟩
  go_wp2_with fail
  refine HF.out.mono ?_
  rintro e w2 ⟨rfl, hb, hg⟩
  have RB := Lib.hid hb
  have GG := Lib.hid hg
  clear hb hg
  go_wp2
  refine bodyPost_ret (results_tmp2 rfl _ _ _) rfl ?_
  exact ⟨rfl, RB.out, GG.out⟩
set_option maxHeartbeats 4000000 in
set_option maxRecDepth 100000 in
theorem done_bad (R : Nat) (w : World) (h : RdBad w R) :
    Calls Try.prog 22 #[.pointer (some ⟨R, 0, none⟩)] w fun e w' => e = .returned (.int .i64 5) ∧ w' = w := by
  have k0 := cell_of_row w R 0 _ 58 (0, 0) h
  have k1 := cell_of_row w R 1 _ 58 (0, 0) h
  change w.cell? ⟨R, 0, none⟩ = some (.slice none 0 0) at k0
  change w.cell? ⟨R, 1, none⟩ = some (.bool true) at k1
  clear h
  go_enter Try.func22, Try.ntmps22
  go_wp2
  refine bodyPost_ret (results_tmp rfl _ _ _) rfl ?_
  exact ⟨rfl, rfl⟩

end Go.Proofs.Ytbdmljdcipcanaa
