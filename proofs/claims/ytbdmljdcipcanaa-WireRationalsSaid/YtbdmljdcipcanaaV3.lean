/- The program's groups. -/
import Derived.Test.YtbdmljdcipcanaaV1
namespace Go.Proofs.Ytbdmljdcipcanaa
open Go.RowKit
set_option linter.unusedVariables false

theorem or128 : ∀ k : Fin 256, bits .or .u8 ((k.val : Nat) : Int) 128 = ((k.val % 128 + 128 : Nat) : Int) := by decide +kernel
theorem or128n (m : Nat) : bits .or .u8 ((m : Int) % 256) 128 = ((m % 128 + 128 : Nat) : Int) := by
  have h := or128 ⟨m % 256, by omega⟩
  simp only [] at h
  rw [show ((m : Int) % 256) = ((m % 256 : Nat) : Int) by omega, h]
  omega
/-- one byte that is appended -/
theorem one_src (w : World) (x : Int) : Src Try.prog 1 22 (.slice (some ⟨w.heap.size, 0, none⟩) 1 1) 1 (vals .u8 [x]) (w.alloc (.cells #[.int .u8 x] 5)) :=
  (SlB.new w [x] #[.int .u8 x] 1 rfl rfl (by omega)).asSrc Try.underlying22
set_option maxHeartbeats 2000000 in
set_option maxRecDepth 100000 in
theorem group_c (base : Nat) (v : Value) (L : List Int) (n : Nat) (w : World) (hn : n < 18446744073709551616) (hl : L.length ≤ 90000) (ho : OwnB w base v L) (hb : base ≤ w.heap.size) :
    Calls Try.prog 27 #[v, .int .u64 (n : Nat)] w fun e w' => ∃ v', e = .returned v' ∧ OwnB w' base v' (L ++ grp n) ∧ Below base w w' := by
  have HO := Lib.hid ho
  have HB := Lib.hid hb
  have HL := Lib.hid hl
  clear ho hb hl
  go_enter Try.func27, Try.ntmps27
  go_wp2
  go_loopw [0, 1] (fun s0 s1 wr => ∃ (m : Nat) (M : List Int) (v' : Value), m ≤ n ∧ s1 = .int .u64 (m : Nat) ∧ s0 = v' ∧ OwnB wr base v' M ∧ Below base w wr ∧ M ++ grp m = L ++ grp n ∧ M.length + (grp m).length ≤ 90010) (fun _ s _ => (intOf s).toNat)
  case atStart => exact ⟨n, L, v, Nat.le_refl _, rfl, rfl, HO.out, Below.refl _ _, rfl, by have := grp_len10 hn; have := HL.out; omega⟩
  case round =>
    obtain ⟨m, M, v', hm, rfl, rfl, ho, hb, he, hlen⟩ := hrel
    have OO := Lib.hid ho
    have BB := Lib.hid hb
    have EE := Lib.hid he
    have LL := Lib.hid hlen
    have sz := Lib.hid (Nat.le_trans HB.out hb.size)
    clear ho hb he hlen
    by_cases hs : m < 128
    · have eg := Lib.hid (grp_small hs)
      go_wp2_with (at_builtin; refine wpList_append_bs rfl (.tmp 15) (.tmp 18) 22 22 rfl Try.underlying22 base _ M rfl (OO.out.below ((Below.refl _ _).alloc (Nat.le_refl _) _)) _ 1 [(m : Int)] rfl (one_src _ _) rfl (by have := LL.out; omega) (by rw [World.size_alloc]; have := sz.out; omega) ?_; intro v2 w2 hO2 hB2; have O2 := Lib.hid hO2; have B2 := Lib.hid ((BB.out.alloc sz.out (.cells #[.int .u8 (m : Int)] 5)).trans hB2); clear hO2 hB2)
      refine bodyPost_ret (results_tmp rfl _ _ _) rfl ?_
      exact ⟨_, rfl, by rw [← EE.out, eg.out]; exact O2.out, B2.out⟩
    · have eg := Lib.hid (grp_big hs)
      have e1 := or128n m
      go_wp2_with (at_builtin; refine wpList_append_bs rfl (.tmp 7) (.tmp 11) 22 22 rfl Try.underlying22 base _ M rfl (OO.out.below ((Below.refl _ _).alloc (Nat.le_refl _) _)) _ 1 [((m % 128 + 128 : Nat) : Int)] rfl (one_src _ _) rfl (by have := LL.out; omega) (by rw [World.size_alloc]; have := sz.out; omega) ?_; intro v2 w2 hO2 hB2; have O2 := Lib.hid hO2; have B2 := Lib.hid ((BB.out.alloc sz.out (.cells #[.int .u8 ((m % 128 + 128 : Nat) : Int)] 5)).trans hB2); clear hO2 hB2)
      go_roundw
      case rel => exact ⟨m / 128, _, _, by omega, by go_num, rfl, O2.out, B2.out, by rw [← EE.out, eg.out]; simp, by have := LL.out; rw [eg.out] at this; simp at this ⊢; omega⟩
      case measure => simp [intOf]; omega

end Go.Proofs.Ytbdmljdcipcanaa
