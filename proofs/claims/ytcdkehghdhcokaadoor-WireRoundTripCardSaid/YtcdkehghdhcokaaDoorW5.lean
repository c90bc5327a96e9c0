/- AppendInt twice. -/
import Derived.Test.YtcdkehghdhcokaaDoorWA
import Derived.Laws.BitsAllLaws
namespace Go.Proofs.YtcdkehghdhcokaaDoor.wr
open Go.RowKit
set_option linter.unusedVariables false

theorem xor0 (x : Nat) (h : x < 18446744073709551616) : bits .xor .u64 (x : Int) 0 = (x : Int) := by
  have := u64_xor_nat x 0 h (by omega)
  simpa using this
theorem xor1 (x : Nat) (h : x < 18446744073709551616) : bits .xor .u64 (x : Int) 18446744073709551615 = ((18446744073709551615 - x : Nat) : Int) := by
  have h1 := u64_xor_nat x 18446744073709551615 h (by omega)
  rw [show ((18446744073709551615 : Nat) : Int) = 18446744073709551615 from rfl] at h1
  rw [h1]
  congr 1
  have h2 : ∀ v : BitVec 64, v ^^^ BitVec.allOnes 64 = ~~~ v := fun v => BitVec.xor_allOnes
  have h3 := congrArg BitVec.toNat (h2 (BitVec.ofNat 64 x))
  simp only [BitVec.toNat_xor, BitVec.toNat_ofNat, BitVec.toNat_allOnes, BitVec.toNat_not] at h3
  rw [Nat.mod_eq_of_lt (by omega)] at h3
  have e : (2 : Nat) ^ 64 - 1 = 18446744073709551615 := by decide
  rw [e] at h3
  rw [h3]
/-- an integer as a natural number, by its sign's last bit -/
def zz (i : Int) : Nat := if 0 ≤ i then 2 * i.toNat else 2 * (-(i + 1)).toNat + 1
theorem zz_lt {i : Int} (h1 : -9223372036854775808 ≤ i) (h2 : i ≤ 9223372036854775807) : zz i < 18446744073709551616 := by
  unfold zz; split <;> omega
set_option maxHeartbeats 2000000 in
set_option maxRecDepth 100000 in
theorem appendInt_c (a0 : Option Addr) (n0 c0 : Nat) (A : List Int) (i : Int) (w : World) (h0 : SlB w a0 n0 c0 A) (h1 : -9223372036854775808 ≤ i) (h2 : i ≤ 9223372036854775807) (hs : n0 ≤ 7000) :
    Calls Tryd.prog 18 #[.slice a0 n0 c0, .int .i64 i] w fun e w' => Gives w (A ++ grp (zz i)) e w' := by
  have H0 := Lib.hid h0
  have g10 := Lib.hid (grp_len10 (zz_lt h1 h2))
  clear h0
  have HZ := Lib.hid (fun (x : Int) (hx : x = (zz i : Nat)) => by
    have := group_c w.heap.size _ [] (zz i) w (zz_lt h1 h2) (by simp) (OwnB.nil _ _) (Nat.le_refl _)
    rw [← hx] at this
    exact this)
  have tail : Hid (∀ w1 v, OwnB w1 w.heap.size v ([] ++ grp (zz i)) → Below w.heap.size w w1 → ∃ a m c, v = .slice a m c ∧ Calls Tryd.prog 36 #[.slice a0 n0 c0, .slice a m c] w1 fun e w' => Gives w (A ++ grp (zz i)) e w') := Lib.hid (fun w1 v hO hb => by
    rw [List.nil_append] at hO
    obtain ⟨a, c, rfl⟩ := hO.slice
    refine ⟨a, _, c, rfl, (extend_c a0 n0 c0 A a _ c (grp (zz i)) w1 (H0.out.below hb) (hO.sl rfl) (by have := g10.out; omega)).mono ?_⟩
    rintro e w2 ⟨v, rfl, hO2, hb2⟩
    exact ⟨_, rfl, hO2.le hb.size, hb.trans (hb2.mono hb.size)⟩)
  by_cases hp : 0 ≤ i
  · obtain ⟨k, rfl⟩ : ∃ k : Nat, i = k := ⟨i.toNat, by omega⟩
    have EZ := Lib.hid (show ((zz (k : Int) : Nat) : Int) = 2 * (k : Int) by unfold zz; rw [if_pos hp]; omega)
    have X := xor0 (2 * k) (by omega)
    have hk : (k : Int) / 9223372036854775808 = 0 := by omega
    go_enter Tryd.func18, Tryd.ntmps18
    go_wp2_with fail
    refine (HZ.out _ (by rw [EZ.out]; first | omega | (rw [show (k : Int) * 2 = ((2 * k : Nat) : Int) by omega, X]; omega))).mono ?_
    rintro e w1 ⟨v, rfl, hO, hb⟩
    obtain ⟨a, m, c, rfl, hc⟩ := tail.out w1 v hO hb
    have HC := Lib.hid hc
    clear hO hb hc
    go_wp2_with fail
    refine HC.out.mono ?_
    rintro e w2 ⟨v, rfl, hO, hb⟩
    have O2 := Lib.hid hO
    have B2 := Lib.hid hb
    clear hO hb
    go_wp2
    refine bodyPost_ret (results_tmp rfl _ _ _) rfl ?_
    exact ⟨_, rfl, O2.out, B2.out⟩
  · obtain ⟨k, rfl⟩ : ∃ k : Nat, i = -((k : Int) + 1) := ⟨(-(i + 1)).toNat, by omega⟩
    have EZ := Lib.hid (show ((zz (-((k : Int) + 1)) : Nat) : Int) = 2 * (k : Int) + 1 by unfold zz; rw [if_neg hp]; omega)
    have X := Lib.hid (xor1 (18446744073709551616 - 2 * (k + 1)) (by omega))
    have W1 : Hid (IntKind.u64.wrap (IntKind.u64.wrap (-((k : Int) + 1)) * 2) = ((18446744073709551616 - 2 * (k + 1) : Nat) : Int)) := Lib.hid (by rw [IntKind.wrap_u64, IntKind.wrap_u64]; omega)
    have W2 : Hid (IntKind.u64.wrap (-((k : Int) + 1) / 9223372036854775808) = 18446744073709551615) := Lib.hid (by rw [IntKind.wrap_u64]; omega)
    go_enter Tryd.func18, Tryd.ntmps18
    go_wp2_with fail
    refine (HZ.out _ (by rw [EZ.out, W1.out, W2.out, X.out]; omega)).mono ?_
    rintro e w1 ⟨v, rfl, hO, hb⟩
    obtain ⟨a, m, c, rfl, hc⟩ := tail.out w1 v hO hb
    have HC := Lib.hid hc
    clear hO hb hc
    go_wp2_with fail
    refine HC.out.mono ?_
    rintro e w2 ⟨v, rfl, hO, hb⟩
    have O2 := Lib.hid hO
    have B2 := Lib.hid hb
    clear hO hb
    go_wp2
    refine bodyPost_ret (results_tmp rfl _ _ _) rfl ?_
    exact ⟨_, rfl, O2.out, B2.out⟩

end Go.Proofs.YtcdkehghdhcokaaDoor.wr
