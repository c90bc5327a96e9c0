/- Merged by program from: W2 W3 W4. -/
import Derived.Test.YtcdkehghdhcokaaDoorW1
import Derived.Lib.AppendZerosOnto
import Derived.Lib.Walk
namespace Go.Proofs.YtcdkehghdhcokaaDoor.wr
open Go.RowKit
set_option linter.unusedVariables false
/-- what answers a list of bytes of its own -/
def Gives (w : World) (L : List Int) (e : Ending) (w' : World) : Prop := ∃ v, e = .returned v ∧ OwnB w' w.heap.size v L ∧ Below w.heap.size w w'
set_option maxHeartbeats 2000000 in
set_option maxRecDepth 100000 in
/-- slices.Grow of nil -/
theorem grow_c (m : Nat) (w : World) (hm : m ≤ 8000) :
    Calls Tryd.prog 55 #[.slice none 0 0, .int .i64 (m : Nat)] w fun e w' => Gives w [] e w' := by
  obtain ⟨i0, hi0, hz0, hz1, hz2⟩ := info_parts info8
  by_cases h0 : m = 0
  · subst h0
    go_enter Tryd.func55, Tryd.ntmps55
    go_wp2
    refine bodyPost_ret (results_tmp rfl _ _ _) rfl ?_
    exact ⟨_, rfl, OwnB.nil _ _, Below.refl _ _⟩
  · have hold : (Builtin.firstCells i0.size 0 (.slice none 0 0)).run Tryd.prog w.drew = .ok ([] : List Value).toArray w.drew := run_firstCells_none w.drew i0.size 0 0 0
    have hrz : ∀ ty, (Builtin.append_ #[22, 3] ty #[.slice none 0 0, .int .i64 (m : Nat)]).run Tryd.prog w = .ok (.slice (some ⟨w.heap.size, 0, none⟩) m (grownCap w m 0 5)) (w.drew.alloc (.cells (#[] ++ Builtin.zeroCells #[.int .u8 0] m ++ Builtin.zeroCells #[.int .u8 0] (grownCap w m 0 5 - m)) 5)) := fun ty => by
      have h := Lib.run_append_grow_zeros w 22 3 ty 5 i0 (.int .u8 0) .i64 .i64 Tryd.underlying22 Tryd.underlying3 hi0 hz0 none 0 0 [] hold m (by omega) (by rw [hz1]; omega) (by omega) (by omega) (by rw [hz2]; omega) (by rw [Nat.zero_add]; exact growslice_fits (by omega) (by rw [hz2]; omega))
      rw [Nat.zero_add] at h
      exact h
    have hGn : m ≤ grownCap w m 0 5 := grownCap_ge w _ _ _
    have hGM := grownCap_le_maxLen w m 0 5 (by unfold maxLen; omega)
    obtain ⟨G, hG⟩ : ∃ G, G = grownCap w m 0 5 := ⟨_, rfl⟩
    rw [← hG] at hrz hGn hGM
    have HGM := Lib.hid hGM
    have hG63 : G ≤ 9223372036854775807 := by unfold maxLen at hGM; omega
    have h1 : 0 < m := by omega
    clear hold hG h0 hGM
    go_enter Tryd.func55, Tryd.ntmps55
    go_wp2_with (at_builtin; refine Lib.wpList_append_run _ rfl _ _ _ _ rfl _ _ rfl rfl _ _ (hrz _) ?_)
    refine bodyPost_ret (results_tmp rfl _ _ _) rfl ?_
    refine ⟨_, rfl, ?_, (below_drewN (Below.refl w.heap.size w) 1).alloc (Nat.le_refl _) _⟩
    exact World.ownsRow_made w.drew _ G (Nat.le_refl _) HGM.out (by simp [Builtin.zeroCells]; omega)
set_option maxHeartbeats 2000000 in
set_option maxRecDepth 100000 in
/-- slices.Concat of two -/
theorem concat2_c (blk : Nat) (a0 : Option Addr) (n0 c0 : Nat) (A : List Int) (a1 : Option Addr) (n1 c1 : Nat) (B : List Int) (w : World) (hk0 : w.cell? ⟨blk, 0, none⟩ = some (.slice a0 n0 c0)) (hk1 : w.cell? ⟨blk, 1, none⟩ = some (.slice a1 n1 c1)) (hblk : blk < w.heap.size)
    (h0 : SlB w a0 n0 c0 A) (h1 : SlB w a1 n1 c1 B) (hn : n0 + n1 ≤ 8000) :
    Calls Tryd.prog 48 #[.slice (some ⟨blk, 0, none⟩) 2 2] w fun e w' => Gives w (A ++ B) e w' := by
  have H0 := Lib.hid h0
  have H1 := Lib.hid h1
  have K0 := Lib.hid hk0
  have K1 := Lib.hid hk1
  have HB := Lib.hid hblk
  have s0 : (0 : Int) ≤ (n0 : Int) + (n1 : Int) := by omega
  have s1 : (n0 : Int) + (n1 : Int) ≤ 8000 := by omega
  have hgr := fun W => grow_c (n0 + n1) W hn
  simp only [Int.natCast_add] at hgr
  have HG := Lib.hid hgr
  clear h0 h1 hgr hblk
  go_enter Tryd.func48, Tryd.ntmps48
  go_wp2
  refine wp_loop_rounds 3 ?_
  rw [rounds_succ]
  go_wp2
  rw [rounds_succ]
  go_wp2
  rw [rounds_succ]
  go_wp2_with fail
  refine (HG.out _).mono ?_
  rintro e w1 ⟨v, rfl, hO, hb⟩
  have O1 := Lib.hid hO
  have B1 := Lib.hid hb
  have k0 := (hb.cell (p := ⟨blk, 0, none⟩) HB.out).trans K0.out
  have k1 := (hb.cell (p := ⟨blk, 1, none⟩) HB.out).trans K1.out
  clear hO hb hk0 hk1
  go_wp2
  refine wp_loop_rounds 3 ?_
  rw [rounds_succ]
  go_wp2_with (at_builtin; refine wpList_append_bs rfl (.tmp 31) (.tmp 32) 22 22 rfl Tryd.underlying22 w.heap.size _ [] rfl O1.out _ n0 A rfl ((H0.out.below B1.out).asSrc Tryd.underlying22) H0.out.1 (by simp; omega) B1.out.size ?_; intro v2 w2 hO2 hB2; rw [List.nil_append] at hO2; have O2 := Lib.hid hO2; have B2 := Lib.hid (B1.out.trans hB2); have k20 := (hB2.cell (p := ⟨blk, 0, none⟩) HB.out).trans k0; have k21 := (hB2.cell (p := ⟨blk, 1, none⟩) HB.out).trans k1; clear hO2 hB2 k0 k1)
  rw [rounds_succ]
  go_wp2_with (at_builtin; refine wpList_append_bs rfl (.tmp 31) (.tmp 32) 22 22 rfl Tryd.underlying22 w.heap.size _ A rfl O2.out _ n1 B rfl ((H1.out.below B2.out).asSrc Tryd.underlying22) H1.out.1 (by rw [H0.out.1]; omega) B2.out.size ?_; intro v3 w3 hO3 hB3; have O3 := Lib.hid hO3; have B3 := Lib.hid (B2.out.trans hB3); clear hO3 hB3)
  rw [rounds_succ]
  go_wp2
  refine bodyPost_ret (results_tmp rfl _ _ _) rfl ?_
  exact ⟨_, rfl, O3.out, B3.out⟩
set_option maxHeartbeats 2000000 in
set_option maxRecDepth 100000 in
/-- slices.Concat of three -/
theorem concat3_c (blk : Nat) (a0 : Option Addr) (n0 c0 : Nat) (A : List Int) (a1 : Option Addr) (n1 c1 : Nat) (B : List Int) (a2 : Option Addr) (n2 c2 : Nat) (C : List Int) (w : World) (hk0 : w.cell? ⟨blk, 0, none⟩ = some (.slice a0 n0 c0)) (hk1 : w.cell? ⟨blk, 1, none⟩ = some (.slice a1 n1 c1)) (hk2 : w.cell? ⟨blk, 2, none⟩ = some (.slice a2 n2 c2)) (hblk : blk < w.heap.size)
    (h0 : SlB w a0 n0 c0 A) (h1 : SlB w a1 n1 c1 B) (h2 : SlB w a2 n2 c2 C) (hn : n0 + n1 + n2 ≤ 8000) :
    Calls Tryd.prog 48 #[.slice (some ⟨blk, 0, none⟩) 3 3] w fun e w' => Gives w (A ++ B ++ C) e w' := by
  have H0 := Lib.hid h0
  have H1 := Lib.hid h1
  have H2 := Lib.hid h2
  have K0 := Lib.hid hk0
  have K1 := Lib.hid hk1
  have K2 := Lib.hid hk2
  have HB := Lib.hid hblk
  have s0 : (0 : Int) ≤ (n0 : Int) + (n1 : Int) := by omega
  have s1 : (n0 : Int) + (n1 : Int) ≤ 8000 := by omega
  have s2 : (0 : Int) ≤ (n0 : Int) + (n1 : Int) + (n2 : Int) := by omega
  have s3 : (n0 : Int) + (n1 : Int) + (n2 : Int) ≤ 8000 := by omega
  have hgr := fun W => grow_c (n0 + n1 + n2) W hn
  simp only [Int.natCast_add] at hgr
  have HG := Lib.hid hgr
  clear h0 h1 h2 hgr hblk
  go_enter Tryd.func48, Tryd.ntmps48
  go_wp2
  refine wp_loop_rounds 4 ?_
  rw [rounds_succ]
  go_wp2
  rw [rounds_succ]
  go_wp2
  rw [rounds_succ]
  go_wp2
  rw [rounds_succ]
  go_wp2_with fail
  refine (HG.out _).mono ?_
  rintro e w1 ⟨v, rfl, hO, hb⟩
  have O1 := Lib.hid hO
  have B1 := Lib.hid hb
  have k0 := (hb.cell (p := ⟨blk, 0, none⟩) HB.out).trans K0.out
  have k1 := (hb.cell (p := ⟨blk, 1, none⟩) HB.out).trans K1.out
  have k2 := (hb.cell (p := ⟨blk, 2, none⟩) HB.out).trans K2.out
  clear hO hb hk0 hk1 hk2
  go_wp2
  refine wp_loop_rounds 4 ?_
  rw [rounds_succ]
  go_wp2_with (at_builtin; refine wpList_append_bs rfl (.tmp 31) (.tmp 32) 22 22 rfl Tryd.underlying22 w.heap.size _ [] rfl O1.out _ n0 A rfl ((H0.out.below B1.out).asSrc Tryd.underlying22) H0.out.1 (by simp; omega) B1.out.size ?_; intro v2 w2 hO2 hB2; rw [List.nil_append] at hO2; have O2 := Lib.hid hO2; have B2 := Lib.hid (B1.out.trans hB2); have k21 := (hB2.cell (p := ⟨blk, 1, none⟩) HB.out).trans k1; have k22 := (hB2.cell (p := ⟨blk, 2, none⟩) HB.out).trans k2; clear hO2 hB2 k0 k1 k2)
  rw [rounds_succ]
  go_wp2_with (at_builtin; refine wpList_append_bs rfl (.tmp 31) (.tmp 32) 22 22 rfl Tryd.underlying22 w.heap.size _ A rfl O2.out _ n1 B rfl ((H1.out.below B2.out).asSrc Tryd.underlying22) H1.out.1 (by rw [H0.out.1]; omega) B2.out.size ?_; intro v3 w3 hO3 hB3; have O3 := Lib.hid hO3; have B3 := Lib.hid (B2.out.trans hB3); have k32 := (hB3.cell (p := ⟨blk, 2, none⟩) HB.out).trans k22; clear hO3 hB3 k21 k22)
  rw [rounds_succ]
  go_wp2_with (at_builtin; refine wpList_append_bs rfl (.tmp 31) (.tmp 32) 22 22 rfl Tryd.underlying22 w.heap.size _ (A ++ B) rfl O3.out _ n2 C rfl ((H2.out.below B3.out).asSrc Tryd.underlying22) H2.out.1 (by rw [List.length_append, H0.out.1, H1.out.1]; omega) B3.out.size ?_; intro v4 w4 hO4 hB4; have O4 := Lib.hid hO4; have B4 := Lib.hid (B3.out.trans hB4); clear hO4 hB4)
  rw [rounds_succ]
  go_wp2
  refine bodyPost_ret (results_tmp rfl _ _ _) rfl ?_
  exact ⟨_, rfl, O4.out, B4.out⟩
theorem or128 : ∀ k : Fin 256, bits .or .u8 ((k.val : Nat) : Int) 128 = ((k.val % 128 + 128 : Nat) : Int) := by decide +kernel
theorem or128n (m : Nat) : bits .or .u8 ((m : Int) % 256) 128 = ((m % 128 + 128 : Nat) : Int) := by
  have h := or128 ⟨m % 256, by omega⟩
  simp only [] at h
  rw [show ((m : Int) % 256) = ((m % 256 : Nat) : Int) by omega, h]
  omega
/-- one byte that is appended -/
theorem one_src (w : World) (x : Int) : Src Tryd.prog 1 22 (.slice (some ⟨w.heap.size, 0, none⟩) 1 1) 1 (vals .u8 [x]) (w.alloc (.cells #[.int .u8 x] 5)) :=
  (SlB.new w [x] #[.int .u8 x] 1 rfl rfl (by omega)).asSrc Tryd.underlying22
set_option maxHeartbeats 2000000 in
set_option maxRecDepth 100000 in
theorem group_c (base : Nat) (v : Value) (L : List Int) (n : Nat) (w : World) (hn : n < 18446744073709551616) (hl : L.length ≤ 90000) (ho : OwnB w base v L) (hb : base ≤ w.heap.size) :
    Calls Tryd.prog 38 #[v, .int .u64 (n : Nat)] w fun e w' => ∃ v', e = .returned v' ∧ OwnB w' base v' (L ++ grp n) ∧ Below base w w' := by
  have HO := Lib.hid ho
  have HB := Lib.hid hb
  have HL := Lib.hid hl
  clear ho hb hl
  go_enter Tryd.func38, Tryd.ntmps38
  go_wp2
  go_loopw [0, 1] (fun s0 s1 wr => ∃ (m : Nat) (M : List Int) (v' : Value), m ≤ n ∧ s1 = .int .u64 (m : Nat) ∧ s0 = v' ∧ OwnB wr base v' M ∧ Below base w wr ∧ M ++ grp m = L ++ grp n ∧ M.length + (grp m).length ≤ 90010) (fun _ s _ => (intOf s).toNat)
  case atStart => exact ⟨n, L, v, Nat.le_refl _, rfl, rfl, HO.out, Below.refl _ _, rfl, by have := grp_len10 hn; have := HL.out; omega⟩
  case round =>
    obtain ⟨m, M, v', hm, rfl, rfl, ho, hb, he, hlen⟩ := hrel
    have OO := Lib.hid ho
    have BB := Lib.hid hb
    have EE := Lib.hid he
    have LL := Lib.hid hlen
    have sz := Lib.hid (Nat.le_trans HB.out hb.size)
    clear ho hb he hlen
    by_cases hs : m < 128
    · have eg := Lib.hid (grp_small hs)
      go_wp2_with (at_builtin; refine wpList_append_bs rfl (.tmp 15) (.tmp 18) 22 22 rfl Tryd.underlying22 base _ M rfl (OO.out.below ((Below.refl _ _).alloc (Nat.le_refl _) _)) _ 1 [(m : Int)] rfl (one_src _ _) rfl (by have := LL.out; omega) (by rw [World.size_alloc]; have := sz.out; omega) ?_; intro v2 w2 hO2 hB2; have O2 := Lib.hid hO2; have B2 := Lib.hid ((BB.out.alloc sz.out (.cells #[.int .u8 (m : Int)] 5)).trans hB2); clear hO2 hB2)
      refine bodyPost_ret (results_tmp rfl _ _ _) rfl ?_
      exact ⟨_, rfl, by rw [← EE.out, eg.out]; exact O2.out, B2.out⟩
    · have eg := Lib.hid (grp_big hs)
      have e1 := or128n m
      go_wp2_with (at_builtin; refine wpList_append_bs rfl (.tmp 7) (.tmp 11) 22 22 rfl Tryd.underlying22 base _ M rfl (OO.out.below ((Below.refl _ _).alloc (Nat.le_refl _) _)) _ 1 [((m % 128 + 128 : Nat) : Int)] rfl (one_src _ _) rfl (by have := LL.out; omega) (by rw [World.size_alloc]; have := sz.out; omega) ?_; intro v2 w2 hO2 hB2; have O2 := Lib.hid hO2; have B2 := Lib.hid ((BB.out.alloc sz.out (.cells #[.int .u8 ((m % 128 + 128 : Nat) : Int)] 5)).trans hB2); clear hO2 hB2)
      go_roundw
      case rel => exact ⟨m / 128, _, _, by omega, by go_num, rfl, O2.out, B2.out, by rw [← EE.out, eg.out]; simp, by have := LL.out; rw [eg.out] at this; simp at this ⊢; omega⟩
      case measure => simp [intOf]; omega
theorem Below.newBlock {w : World} (o : Obj) : Below w.heap.size w (w.alloc o) := (Below.refl w.heap.size w).alloc (Nat.le_refl _) o
set_option maxHeartbeats 2000000 in
set_option maxRecDepth 100000 in
theorem extend_c (a0 : Option Addr) (n0 c0 : Nat) (A : List Int) (a1 : Option Addr) (n1 c1 : Nat) (B : List Int) (w : World) (h0 : SlB w a0 n0 c0 A) (h1 : SlB w a1 n1 c1 B) (hn : n0 + n1 ≤ 8000) :
    Calls Tryd.prog 36 #[.slice a0 n0 c0, .slice a1 n1 c1] w fun e w' => Gives w (A ++ B) e w' := by
  have H0 := Lib.hid h0
  have H1 := Lib.hid h1
  clear h0 h1
  go_enter Tryd.func36, Tryd.ntmps36
  go_wp2_with fail
  refine (concat2_c w.heap.size a0 n0 c0 A a1 n1 c1 B _ (by rw [cell_of_row _ w.heap.size 0 _ 22 (0, 0) (heap_alloc_new w _)]; rfl) (by rw [cell_of_row _ w.heap.size 1 _ 22 (0, 0) (heap_alloc_new w _)]; rfl) (by simp) (H0.out.below (Below.newBlock _)) (H1.out.below (Below.newBlock _)) hn).mono ?_
  rintro e w1 ⟨v, rfl, hO, hb⟩
  have O1 := Lib.hid (hO.le (base' := w.heap.size) (by simp))
  have B1 := Lib.hid ((Below.newBlock (w := w) _).trans (hb.mono (by simp)))
  clear hO hb
  go_wp2
  refine bodyPost_ret (results_tmp rfl _ _ _) rfl ?_
  exact ⟨_, rfl, O1.out, B1.out⟩
set_option maxHeartbeats 2000000 in
set_option maxRecDepth 100000 in
theorem appendUint_c (a0 : Option Addr) (n0 c0 : Nat) (A : List Int) (n : Nat) (w : World) (h0 : SlB w a0 n0 c0 A) (hn : n < 18446744073709551616) (hs : n0 ≤ 7000) :
    Calls Tryd.prog 19 #[.slice a0 n0 c0, .int .u64 (n : Nat)] w fun e w' => Gives w (A ++ grp n) e w' := by
  have H0 := Lib.hid h0
  have g10 := Lib.hid (grp_len10 hn)
  clear h0
  go_enter Tryd.func19, Tryd.ntmps19
  go_wp2_with fail
  refine (group_c w.heap.size _ [] n w hn (by simp) (OwnB.nil _ _) (Nat.le_refl _)).mono ?_
  rintro e w1 ⟨v, rfl, hO, hb⟩
  rw [List.nil_append] at hO
  obtain ⟨a, c, rfl⟩ := hO.slice
  have B1 := Lib.hid hb
  have S1 := Lib.hid (hO.sl rfl)
  clear hO hb
  go_wp2_with fail
  refine (extend_c a0 n0 c0 A a _ c (grp n) w1 (H0.out.below B1.out) S1.out (by have := g10.out; omega)).mono ?_
  rintro e w2 ⟨v, rfl, hO, hb⟩
  have O2 := Lib.hid (hO.le B1.out.size)
  have B2 := Lib.hid (B1.out.trans (hb.mono B1.out.size))
  clear hO hb
  go_wp2
  refine bodyPost_ret (results_tmp rfl _ _ _) rfl ?_
  exact ⟨_, rfl, O2.out, B2.out⟩
end Go.Proofs.YtcdkehghdhcokaaDoor.wr
