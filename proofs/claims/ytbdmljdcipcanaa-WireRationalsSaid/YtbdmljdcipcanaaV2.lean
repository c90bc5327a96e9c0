/- Grow of nil; Concat. -/
import Derived.Test.YtbdmljdcipcanaaV1
import Derived.Lib.AppendZerosOnto
import Derived.Lib.Walk
namespace Go.Proofs.Ytbdmljdcipcanaa
open Go.RowKit
set_option linter.unusedVariables false

/-- what answers a list of bytes of its own -/
def Gives (w : World) (L : List Int) (e : Ending) (w' : World) : Prop := ∃ v, e = .returned v ∧ OwnB w' w.heap.size v L ∧ Below w.heap.size w w'
set_option maxHeartbeats 2000000 in
set_option maxRecDepth 100000 in
/-- slices.Grow of nil -/
theorem grow_c (m : Nat) (w : World) (hm : m ≤ 8000) :
    Calls Try.prog 34 #[.slice none 0 0, .int .i64 (m : Nat)] w fun e w' => Gives w [] e w' := by
  obtain ⟨i0, hi0, hz0, hz1, hz2⟩ := info_parts info8
  by_cases h0 : m = 0
  · subst h0
    go_enter Try.func34, Try.ntmps34
    go_wp2
    refine bodyPost_ret (results_tmp rfl _ _ _) rfl ?_
    exact ⟨_, rfl, OwnB.nil _ _, Below.refl _ _⟩
  · have hold : (Builtin.firstCells i0.size 0 (.slice none 0 0)).run Try.prog w.drew = .ok ([] : List Value).toArray w.drew := run_firstCells_none w.drew i0.size 0 0 0
    have hrz : ∀ ty, (Builtin.append_ #[22, 3] ty #[.slice none 0 0, .int .i64 (m : Nat)]).run Try.prog w = .ok (.slice (some ⟨w.heap.size, 0, none⟩) m (grownCap w m 0 5)) (w.drew.alloc (.cells (#[] ++ Builtin.zeroCells #[.int .u8 0] m ++ Builtin.zeroCells #[.int .u8 0] (grownCap w m 0 5 - m)) 5)) := fun ty => by
      have h := Lib.run_append_grow_zeros w 22 3 ty 5 i0 (.int .u8 0) .i64 .i64 Try.underlying22 Try.underlying3 hi0 hz0 none 0 0 [] hold m (by omega) (by rw [hz1]; omega) (by omega) (by omega) (by rw [hz2]; omega) (by rw [Nat.zero_add]; exact growslice_fits (by omega) (by rw [hz2]; omega))
      rw [Nat.zero_add] at h
      exact h
    have hGn : m ≤ grownCap w m 0 5 := grownCap_ge w _ _ _
    have hGM := grownCap_le_maxLen w m 0 5 (by unfold maxLen; omega)
    obtain ⟨G, hG⟩ : ∃ G, G = grownCap w m 0 5 := ⟨_, rfl⟩
    rw [← hG] at hrz hGn hGM
    have HGM := Lib.hid hGM
    have hG63 : G ≤ 9223372036854775807 := by unfold maxLen at hGM; omega
    have h1 : 0 < m := by omega
    clear hold hG h0 hGM
    go_enter Try.func34, Try.ntmps34
    go_wp2_with (at_builtin; refine Lib.wpList_append_run _ rfl _ _ _ _ rfl _ _ rfl rfl _ _ (hrz _) ?_)
    refine bodyPost_ret (results_tmp rfl _ _ _) rfl ?_
    refine ⟨_, rfl, ?_, (below_drewN (Below.refl w.heap.size w) 1).alloc (Nat.le_refl _) _⟩
    exact World.ownsRow_made w.drew _ G (Nat.le_refl _) HGM.out (by simp [Builtin.zeroCells]; omega)
set_option maxHeartbeats 2000000 in
set_option maxRecDepth 100000 in
/-- slices.Concat of two -/
theorem concat2_c (blk : Nat) (a0 : Option Addr) (n0 c0 : Nat) (A : List Int) (a1 : Option Addr) (n1 c1 : Nat) (B : List Int) (w : World) (hk0 : w.cell? ⟨blk, 0, none⟩ = some (.slice a0 n0 c0)) (hk1 : w.cell? ⟨blk, 1, none⟩ = some (.slice a1 n1 c1)) (hblk : blk < w.heap.size)
    (h0 : SlB w a0 n0 c0 A) (h1 : SlB w a1 n1 c1 B) (hn : n0 + n1 ≤ 8000) :
    Calls Try.prog 29 #[.slice (some ⟨blk, 0, none⟩) 2 2] w fun e w' => Gives w (A ++ B) e w' := by
  have H0 := Lib.hid h0
  have H1 := Lib.hid h1
  have K0 := Lib.hid hk0
  have K1 := Lib.hid hk1
  have HB := Lib.hid hblk
  have s0 : (0 : Int) ≤ (n0 : Int) + (n1 : Int) := by omega
  have s1 : (n0 : Int) + (n1 : Int) ≤ 8000 := by omega
  have hgr := fun W => grow_c (n0 + n1) W hn
  simp only [Int.natCast_add] at hgr
  have HG := Lib.hid hgr
  clear h0 h1 hgr hblk
  go_enter Try.func29, Try.ntmps29
  go_wp2
  refine wp_loop_rounds 3 ?_
  rw [rounds_succ]
  go_wp2
  rw [rounds_succ]
  go_wp2
  rw [rounds_succ]
  go_wp2_with fail
  refine (HG.out _).mono ?_
  rintro e w1 ⟨v, rfl, hO, hb⟩
  have O1 := Lib.hid hO
  have B1 := Lib.hid hb
  have k0 := (hb.cell (p := ⟨blk, 0, none⟩) HB.out).trans K0.out
  have k1 := (hb.cell (p := ⟨blk, 1, none⟩) HB.out).trans K1.out
  clear hO hb hk0 hk1
  go_wp2
  refine wp_loop_rounds 3 ?_
  rw [rounds_succ]
  go_wp2_with (at_builtin; refine wpList_append_bs rfl (.tmp 31) (.tmp 32) 22 22 rfl Try.underlying22 w.heap.size _ [] rfl O1.out _ n0 A rfl ((H0.out.below B1.out).asSrc Try.underlying22) H0.out.1 (by simp; omega) B1.out.size ?_; intro v2 w2 hO2 hB2; rw [List.nil_append] at hO2; have O2 := Lib.hid hO2; have B2 := Lib.hid (B1.out.trans hB2); have k20 := (hB2.cell (p := ⟨blk, 0, none⟩) HB.out).trans k0; have k21 := (hB2.cell (p := ⟨blk, 1, none⟩) HB.out).trans k1; clear hO2 hB2 k0 k1)
  rw [rounds_succ]
  go_wp2_with (at_builtin; refine wpList_append_bs rfl (.tmp 31) (.tmp 32) 22 22 rfl Try.underlying22 w.heap.size _ A rfl O2.out _ n1 B rfl ((H1.out.below B2.out).asSrc Try.underlying22) H1.out.1 (by rw [H0.out.1]; omega) B2.out.size ?_; intro v3 w3 hO3 hB3; have O3 := Lib.hid hO3; have B3 := Lib.hid (B2.out.trans hB3); clear hO3 hB3)
  rw [rounds_succ]
  go_wp2
  refine bodyPost_ret (results_tmp rfl _ _ _) rfl ?_
  exact ⟨_, rfl, O3.out, B3.out⟩
set_option maxHeartbeats 2000000 in
set_option maxRecDepth 100000 in
/-- slices.Concat of three -/
theorem concat3_c (blk : Nat) (a0 : Option Addr) (n0 c0 : Nat) (A : List Int) (a1 : Option Addr) (n1 c1 : Nat) (B : List Int) (a2 : Option Addr) (n2 c2 : Nat) (C : List Int) (w : World) (hk0 : w.cell? ⟨blk, 0, none⟩ = some (.slice a0 n0 c0)) (hk1 : w.cell? ⟨blk, 1, none⟩ = some (.slice a1 n1 c1)) (hk2 : w.cell? ⟨blk, 2, none⟩ = some (.slice a2 n2 c2)) (hblk : blk < w.heap.size)
    (h0 : SlB w a0 n0 c0 A) (h1 : SlB w a1 n1 c1 B) (h2 : SlB w a2 n2 c2 C) (hn : n0 + n1 + n2 ≤ 8000) :
    Calls Try.prog 29 #[.slice (some ⟨blk, 0, none⟩) 3 3] w fun e w' => Gives w (A ++ B ++ C) e w' := by
  have H0 := Lib.hid h0
  have H1 := Lib.hid h1
  have H2 := Lib.hid h2
  have K0 := Lib.hid hk0
  have K1 := Lib.hid hk1
  have K2 := Lib.hid hk2
  have HB := Lib.hid hblk
  have s0 : (0 : Int) ≤ (n0 : Int) + (n1 : Int) := by omega
  have s1 : (n0 : Int) + (n1 : Int) ≤ 8000 := by omega
  have s2 : (0 : Int) ≤ (n0 : Int) + (n1 : Int) + (n2 : Int) := by omega
  have s3 : (n0 : Int) + (n1 : Int) + (n2 : Int) ≤ 8000 := by omega
  have hgr := fun W => grow_c (n0 + n1 + n2) W hn
  simp only [Int.natCast_add] at hgr
  have HG := Lib.hid hgr
  clear h0 h1 h2 hgr hblk
  go_enter Try.func29, Try.ntmps29
  go_wp2
  refine wp_loop_rounds 4 ?_
  rw [rounds_succ]
  go_wp2
  rw [rounds_succ]
  go_wp2
  rw [rounds_succ]
  go_wp2
  rw [rounds_succ]
  go_wp2_with fail
  refine (HG.out _).mono ?_
  rintro e w1 ⟨v, rfl, hO, hb⟩
  have O1 := Lib.hid hO
  have B1 := Lib.hid hb
  have k0 := (hb.cell (p := ⟨blk, 0, none⟩) HB.out).trans K0.out
  have k1 := (hb.cell (p := ⟨blk, 1, none⟩) HB.out).trans K1.out
  have k2 := (hb.cell (p := ⟨blk, 2, none⟩) HB.out).trans K2.out
  clear hO hb hk0 hk1 hk2
  go_wp2
  refine wp_loop_rounds 4 ?_
  rw [rounds_succ]
  go_wp2_with (at_builtin; refine wpList_append_bs rfl (.tmp 31) (.tmp 32) 22 22 rfl Try.underlying22 w.heap.size _ [] rfl O1.out _ n0 A rfl ((H0.out.below B1.out).asSrc Try.underlying22) H0.out.1 (by simp; omega) B1.out.size ?_; intro v2 w2 hO2 hB2; rw [List.nil_append] at hO2; have O2 := Lib.hid hO2; have B2 := Lib.hid (B1.out.trans hB2); have k21 := (hB2.cell (p := ⟨blk, 1, none⟩) HB.out).trans k1; have k22 := (hB2.cell (p := ⟨blk, 2, none⟩) HB.out).trans k2; clear hO2 hB2 k0 k1 k2)
  rw [rounds_succ]
  go_wp2_with (at_builtin; refine wpList_append_bs rfl (.tmp 31) (.tmp 32) 22 22 rfl Try.underlying22 w.heap.size _ A rfl O2.out _ n1 B rfl ((H1.out.below B2.out).asSrc Try.underlying22) H1.out.1 (by rw [H0.out.1]; omega) B2.out.size ?_; intro v3 w3 hO3 hB3; have O3 := Lib.hid hO3; have B3 := Lib.hid (B2.out.trans hB3); have k32 := (hB3.cell (p := ⟨blk, 2, none⟩) HB.out).trans k22; clear hO3 hB3 k21 k22)
  rw [rounds_succ]
  go_wp2_with (at_builtin; refine wpList_append_bs rfl (.tmp 31) (.tmp 32) 22 22 rfl Try.underlying22 w.heap.size _ (A ++ B) rfl O3.out _ n2 C rfl ((H2.out.below B3.out).asSrc Try.underlying22) H2.out.1 (by rw [List.length_append, H0.out.1, H1.out.1]; omega) B3.out.size ?_; intro v4 w4 hO4 hB4; have O4 := Lib.hid hO4; have B4 := Lib.hid (B3.out.trans hB4); clear hO4 hB4)
  rw [rounds_succ]
  go_wp2
  refine bodyPost_ret (results_tmp rfl _ _ _) rfl ?_
  exact ⟨_, rfl, O4.out, B4.out⟩

end Go.Proofs.Ytbdmljdcipcanaa
