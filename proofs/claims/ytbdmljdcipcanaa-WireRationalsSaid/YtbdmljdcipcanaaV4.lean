/- extend, AppendUint; the reference's AppendUint. -/
import Derived.Test.YtbdmljdcipcanaaV2
import Derived.Test.YtbdmljdcipcanaaV3
namespace Go.Proofs.Ytbdmljdcipcanaa
open Go.RowKit
set_option linter.unusedVariables false

theorem Below.newBlock {w : World} (o : Obj) : Below w.heap.size w (w.alloc o) := (Below.refl w.heap.size w).alloc (Nat.le_refl _) o
set_option maxHeartbeats 2000000 in
set_option maxRecDepth 100000 in
theorem extend_c (a0 : Option Addr) (n0 c0 : Nat) (A : List Int) (a1 : Option Addr) (n1 c1 : Nat) (B : List Int) (w : World) (h0 : SlB w a0 n0 c0 A) (h1 : SlB w a1 n1 c1 B) (hn : n0 + n1 ≤ 8000) :
    Calls Try.prog 26 #[.slice a0 n0 c0, .slice a1 n1 c1] w fun e w' => Gives w (A ++ B) e w' := by
  have H0 := Lib.hid h0
  have H1 := Lib.hid h1
  clear h0 h1
  go_enter Try.func26, Try.ntmps26
  go_wp2_with fail
  refine (concat2_c w.heap.size a0 n0 c0 A a1 n1 c1 B _ (by rw [cell_of_row _ w.heap.size 0 _ 22 (0, 0) (heap_alloc_new w _)]; rfl) (by rw [cell_of_row _ w.heap.size 1 _ 22 (0, 0) (heap_alloc_new w _)]; rfl) (by simp) (H0.out.below (Below.newBlock _)) (H1.out.below (Below.newBlock _)) hn).mono ?_
  rintro e w1 ⟨v, rfl, hO, hb⟩
  have O1 := Lib.hid (hO.le (base' := w.heap.size) (by simp))
  have B1 := Lib.hid ((Below.newBlock (w := w) _).trans (hb.mono (by simp)))
  clear hO hb
  go_wp2
  refine bodyPost_ret (results_tmp rfl _ _ _) rfl ?_
  exact ⟨_, rfl, O1.out, B1.out⟩
set_option maxHeartbeats 2000000 in
set_option maxRecDepth 100000 in
theorem appendUint_c (a0 : Option Addr) (n0 c0 : Nat) (A : List Int) (n : Nat) (w : World) (h0 : SlB w a0 n0 c0 A) (hn : n < 18446744073709551616) (hs : n0 ≤ 7000) :
    Calls Try.prog 8 #[.slice a0 n0 c0, .int .u64 (n : Nat)] w fun e w' => Gives w (A ++ grp n) e w' := by
  have H0 := Lib.hid h0
  have g10 := Lib.hid (grp_len10 hn)
  clear h0
  go_enter Try.func8, Try.ntmps8
  go_wp2_with fail
  refine (group_c w.heap.size _ [] n w hn (by simp) (OwnB.nil _ _) (Nat.le_refl _)).mono ?_
  rintro e w1 ⟨v, rfl, hO, hb⟩
  rw [List.nil_append] at hO
  obtain ⟨a, c, rfl⟩ := hO.slice
  have B1 := Lib.hid hb
  have S1 := Lib.hid (hO.sl rfl)
  clear hO hb
  go_wp2_with fail
  refine (extend_c a0 n0 c0 A a _ c (grp n) w1 (H0.out.below B1.out) S1.out (by have := g10.out; omega)).mono ?_
  rintro e w2 ⟨v, rfl, hO, hb⟩
  have O2 := Lib.hid (hO.le B1.out.size)
  have B2 := Lib.hid (B1.out.trans (hb.mono B1.out.size))
  clear hO hb
  go_wp2
  refine bodyPost_ret (results_tmp rfl _ _ _) rfl ?_
  exact ⟨_, rfl, O2.out, B2.out⟩
set_option maxHeartbeats 2000000 in
set_option maxRecDepth 100000 in
theorem rappendUint_c (a0 : Option Addr) (n0 c0 : Nat) (A : List Int) (n : Nat) (w : World) (h0 : SlB w a0 n0 c0 A) (hn : n < 18446744073709551616) (hs : n0 ≤ 7000) :
    Calls Try.prog 10 #[.slice a0 n0 c0, .int .u64 (n : Nat)] w fun e w' => Gives w (A ++ grp n) e w' := by
  have H0 := Lib.hid (h0.below (Below.newBlock (.cells #[] 5)))
  have L0 := Lib.hid h0.1
  have OH := Lib.hid (OwnB.made (w := w) (Nat.le_refl _) [] (by simp))
  clear h0
  go_enter Try.func10, Try.ntmps10
  go_wp2_with (at_builtin; refine wpList_append_bs rfl (.tmp 6) (.tmp 7) 22 22 rfl Try.underlying22 w.heap.size _ [] rfl OH.out _ n0 A rfl (H0.out.asSrc Try.underlying22) L0.out (by simp; omega) (by simp) ?_; intro v1 w1 hO1 hB1; rw [List.nil_append] at hO1; have O1 := Lib.hid hO1; have B1 := Lib.hid ((Below.newBlock (w := w) (.cells #[] 5)).trans hB1); clear hO1 hB1 OH H0)
  go_loopw [5, 1] (fun s0 s1 wr => ∃ (m : Nat) (M : List Int) (v' : Value), m ≤ n ∧ s1 = .int .u64 (m : Nat) ∧ s0 = v' ∧ OwnB wr w.heap.size v' M ∧ Below w.heap.size w wr ∧ M ++ grp m = A ++ grp n ∧ M.length + (grp m).length ≤ 90010) (fun _ s _ => (intOf s).toNat)
  case atStart => exact ⟨n, A, _, Nat.le_refl _, rfl, rfl, O1.out, B1.out, rfl, by have := grp_len10 hn; have := L0.out; omega⟩
  case round =>
    clear O1 B1
    obtain ⟨m, M, v', hm, rfl, rfl, ho, hb, he, hlen⟩ := hrel
    have OO := Lib.hid ho
    have BB := Lib.hid hb
    have EE := Lib.hid he
    have LL := Lib.hid hlen
    have sz := Lib.hid hb.size
    clear ho hb he hlen
    by_cases hs : m < 128
    · have eg := Lib.hid (grp_small hs)
      go_wp2_with (at_builtin; refine wpList_append_bs rfl (.tmp 20) (.tmp 23) 22 22 rfl Try.underlying22 w.heap.size _ M rfl (OO.out.below (Below.newBlock _)) _ 1 [(m : Int)] rfl (one_src _ _) rfl (by have := LL.out; omega) (by rw [World.size_alloc]; have := sz.out; omega) ?_; intro v2 w2 hO2 hB2; have O2 := Lib.hid hO2; have B2 := Lib.hid ((BB.out.alloc sz.out (.cells #[.int .u8 (m : Int)] 5)).trans hB2); clear hO2 hB2)
      refine bodyPost_ret (results_tmp rfl _ _ _) rfl ?_
      exact ⟨_, rfl, by rw [← EE.out, eg.out]; exact O2.out, B2.out⟩
    · have eg := Lib.hid (grp_big hs)
      go_wp2_with (at_builtin; refine wpList_append_bs rfl (.tmp 11) (.tmp 16) 22 22 rfl Try.underlying22 w.heap.size _ M rfl (OO.out.below (Below.newBlock _)) _ 1 [_] rfl (one_src _ _) rfl (by have := LL.out; omega) (by rw [World.size_alloc]; have := sz.out; omega) ?_; intro v2 w2 hO2 hB2; have O2 := Lib.hid hO2; have B2 := Lib.hid ((BB.out.alloc sz.out _).trans hB2); clear hO2 hB2)
      go_roundw
      case rel => exact ⟨m / 128, _, _, by omega, by go_num, rfl, O2.out, B2.out, by rw [← EE.out, eg.out]; simp, by have := LL.out; rw [eg.out] at this; simp at this ⊢; omega⟩
      case measure => simp [intOf]; omega

end Go.Proofs.Ytbdmljdcipcanaa
