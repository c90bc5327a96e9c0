/- A number that is not there. -/
import Derived.Test.YtbdmljdcipcanaaV6
namespace Go.Proofs.Ytbdmljdcipcanaa
open Go.RowKit
set_option linter.unusedVariables false

set_option maxHeartbeats 4000000 in
set_option maxRecDepth 100000 in
theorem lead_bad (a : Option Addr) (c : Nat) (w : World) (h : SlB w a 2 c [128, 0]) :
    Calls Try.prog 32 #[.slice a 2 c] w fun e w' => e = .returned (.tuple #[.int .u64 0, .int .i64 0]) ∧ w' = w := by
  obtain ⟨b, off, rfl, hb, hc⟩ := h.at (by omega)
  have k0 := hc 0 (by omega)
  have k1 := hc 1 (by omega)
  change w.cell? ⟨b, off, none⟩ = some (.int .u8 128) at k0
  change w.cell? ⟨b, off + 1, none⟩ = some (.int .u8 0) at k1
  have hcc : 2 ≤ c := h.2.1
  have hc63 := h.2.2.1
  clear h hc
  have q0 : bits .and .u8 128 127 = 0 := by decide
  have q1 : bits .and .u8 0 127 = 0 := by decide
  have q2 : bits .or .u64 0 0 = 0 := by decide
  go_enter Try.func32, Try.ntmps32
  go_wp2
  refine wp_loop_rounds 2 ?_
  rw [rounds_succ]
  go_wp2
  rw [rounds_succ]
  go_wp2
  refine bodyPost_ret (results_tmp2 rfl _ _ _) rfl ?_
  exact ⟨rfl, rfl⟩
set_option maxHeartbeats 4000000 in
set_option maxRecDepth 100000 in
theorem uint_bad (R : Nat) (w : World) (h : Rd w R [128, 0]) :
    Calls Try.prog 25 #[.pointer (some ⟨R, 0, none⟩)] w fun e w' => e = .returned (.tuple #[.int .u64 0, .int .i64 5]) ∧ RdBad w' R ∧ w.grownBy w' (some R) := by
  have HF := Lib.hid (fail_c R _ w h)
  obtain ⟨a, c, h1, h2, h3⟩ := h
  have HL := Lib.hid (lead_bad a c w h2)
  have k0 := cell_of_row w R 0 _ 58 (0, 0) h1
  have k1 := cell_of_row w R 1 _ 58 (0, 0) h1
  change w.cell? ⟨R, 0, none⟩ = some (.slice a 2 c) at k0
  change w.cell? ⟨R, 1, none⟩ = some (.bool false) at k1
  clear h1 h2 h3
  go_enter Try.func25, Try.ntmps25
  go_wp2_with fail
  refine HL.out.mono ?_
  rintro e w1 ⟨rfl, rfl⟩
  go_wp2_with fail
  refine HF.out.mono ?_
  rintro e w2 ⟨rfl, hb, hg⟩
  have RB := Lib.hid hb
  have GG := Lib.hid hg
  clear hb hg
  go_wp2
  refine bodyPost_ret (results_tmp2 rfl _ _ _) rfl ?_
  exact ⟨rfl, RB.out, GG.out⟩

end Go.Proofs.Ytbdmljdcipcanaa
