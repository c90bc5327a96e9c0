/- Concat. -/
import Derived.Test.YtljgcjmelmpgoaaDoorQ24
import Derived.Test.YtljgcjmelmpgoaaDoorQ25
namespace Go.Proofs.YtljgcjmelmpgoaaDoor
open Go.RowKit
set_option linter.unusedVariables false

set_option maxHeartbeats 2000000 in
set_option maxRecDepth 100000 in
/-- slices.Concat of two clauses -/
theorem concat_c (blk : Nat) (a0 : Option Addr) (n0 c0 : Nat) (A : List Lt) (a1 : Option Addr) (n1 c1 : Nat) (B : List Lt) (w : World) (hk0 : w.cell? ⟨blk, 0, none⟩ = some (.slice a0 n0 c0)) (hk1 : w.cell? ⟨blk, 1, none⟩ = some (.slice a1 n1 c1)) (hblk : blk < w.heap.size)
    (h0 : SlL w a0 n0 c0 A) (h1 : SlL w a1 n1 c1 B) (hn : n0 + n1 ≤ 4000) :
    Calls Tryd.prog 42 #[.slice (some ⟨blk, 0, none⟩) 2 2] w fun e w' => CloneSays w (A ++ B) e w' := by
  have H0 := Lib.hid h0
  have H1 := Lib.hid h1
  have K0 := Lib.hid hk0
  have K1 := Lib.hid hk1
  have HB := Lib.hid hblk
  have s0 : (0 : Int) ≤ (n0 : Int) + (n1 : Int) := by omega
  have s1 : (n0 : Int) + (n1 : Int) ≤ 4000 := by omega
  have hgr := fun W => grow_c (n0 + n1) W hn
  simp only [Int.natCast_add] at hgr
  have HG := Lib.hid hgr
  clear h0 h1 hgr hblk
  go_enter Tryd.func42, Tryd.ntmps42
  go_wp2
  refine wp_loop_rounds 3 ?_
  rw [rounds_succ]
  go_wp2
  rw [rounds_succ]
  go_wp2
  rw [rounds_succ]
  go_wp2_with fail
  refine (HG.out _).mono ?_
  rintro e w1 ⟨v, rfl, hO, hb⟩
  have O1 := Lib.hid hO
  have B1 := Lib.hid hb
  have k0 := (hb.cell (p := ⟨blk, 0, none⟩) HB.out).trans K0.out
  have k1 := (hb.cell (p := ⟨blk, 1, none⟩) HB.out).trans K1.out
  clear hO hb hk0 hk1
  go_wp2
  refine wp_loop_rounds 3 ?_
  rw [rounds_succ]
  go_wp2_with (at_builtin; refine wpList_append_lts rfl (.tmp 31) (.tmp 32) 24 24 rfl Tryd.underlying24 Tryd.underlying24 w.heap.size _ [] rfl O1.out _ _ _ A rfl (H0.out.below B1.out) (by simp; omega) B1.out.size ?_; intro v2 w2 hO2 hB2; rw [List.nil_append] at hO2; have O2 := Lib.hid hO2; have B2 := Lib.hid (B1.out.trans hB2); have k20 := (hB2.cell (p := ⟨blk, 0, none⟩) HB.out).trans k0; have k21 := (hB2.cell (p := ⟨blk, 1, none⟩) HB.out).trans k1; clear hO2 hB2 k0 k1)
  rw [rounds_succ]
  go_wp2_with (at_builtin; refine wpList_append_lts rfl (.tmp 31) (.tmp 32) 24 24 rfl Tryd.underlying24 Tryd.underlying24 w.heap.size _ A rfl O2.out _ _ _ B rfl (H1.out.below B2.out) (by rw [H0.out.1]; omega) B2.out.size ?_; intro v3 w3 hO3 hB3; have O3 := Lib.hid hO3; have B3 := Lib.hid (B2.out.trans hB3); clear hO3 hB3)
  rw [rounds_succ]
  go_wp2
  refine bodyPost_ret (results_tmp rfl _ _ _) rfl ?_
  exact ⟨_, rfl, O3.out, B3.out⟩

end Go.Proofs.YtljgcjmelmpgoaaDoor
