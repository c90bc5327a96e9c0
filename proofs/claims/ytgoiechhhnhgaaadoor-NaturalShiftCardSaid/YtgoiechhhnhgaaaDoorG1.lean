/- Walks of layer 1: trailing zeros, greatest common divisors of words. -/
import Derived.Test.YtgoiechhhnhgaaaDoorF2
import Derived.Test.YtgoiechhhnhgaaaDoorPlain8
import Derived.Laws.Bits64b
import Derived.Laws.BitsAllLaws
namespace Go.Proofs.YtgoiechhhnhgaaaDoor
open Go.RowKit
set_option linter.unusedVariables false
/-- the table of math/bits lies in its variable -/
def Tab (w : World) : Prop := ∀ j, j < 64 → w.cell? ⟨0, j, none⟩ = some (.int .u8 ((Lib.deBruijn64tab.getD j 0 : Nat) : Int))
theorem Tab.below {w w' : World} (h : Tab w) (hb : Below w.heap.size w w') : Tab w' := fun j hj => (hb.cell (World.block_lt_of_cell? w _ (h j hj))).trans (h j hj)
theorem Tab.drewN {w : World} (h : Tab w) (n : Nat) : Tab (w.drewN n) := h
theorem Tab.dr {w w' : World} (h : Tab w) (d : Dr w w') : Tab w' := by obtain ⟨n, rfl⟩ := d; exact h
theorem tz64_core (x k idx : Nat) (w : World) (hx0 : ((x : Int) == 0) = false)
    (key : IntKind.u64.wrap (bits BinOp.and IntKind.u64 (x : Int) (IntKind.u64.wrap (-(x : Int))) * 285870213051353865) / 288230376151711744 = (idx : Int))
    (hi : idx < 64) (hk : k < 64) (hcell : w.cell? ⟨0, idx, none⟩ = some (.int .u8 k)) :
    Calls Tryd.prog 62 #[.int .u64 x] w fun e w' => e = .returned (.int .i64 k) ∧ w = w' := by
  go_enter Tryd.func62, Tryd.ntmps62
  go_wp2_with (simp only [key])
  go_ret
  exact ⟨rfl, rfl⟩
theorem tz64_key (x a : Nat) (hx : x < 18446744073709551616) (hx0 : x ≠ 0) (hlow : x &&& (18446744073709551616 - x) = a) :
    IntKind.u64.wrap (bits BinOp.and IntKind.u64 (x : Int) (IntKind.u64.wrap (-(x : Int))) * 285870213051353865) / 288230376151711744 = ((a * 285870213051353865 % 18446744073709551616 / 288230376151711744 : Nat) : Int) := by
  have e1 : IntKind.u64.wrap (-(x : Int)) = ((18446744073709551616 - x : Nat) : Int) := by rw [IntKind.wrap_u64]; omega
  rw [e1, bits_and_u64_nat x _ hx (by omega), hlow, IntKind.wrap_u64]
  omega
theorem tz64_c (x : Nat) (hx : x < 18446744073709551616) (h0 : x ≠ 0) (w : World) (hT : Tab w) :
    Calls Tryd.prog 62 #[.int .u64 x] w fun e w' => e = .returned (.int .i64 (tz x : Nat)) ∧ w = w' := by
  obtain ⟨hlow, hk⟩ := Lib.lowest_bit 64 x h0 hx
  obtain ⟨hi, htab⟩ := Lib.deBruijn64_at _ hk
  have hcell := hT _ hi
  rw [htab] at hcell
  exact tz64_core x _ _ w (by simp; omega) (tz64_key x _ hx h0 hlow) hi hk hcell
theorem or64n (a b : Nat) (ha : a < 18446744073709551616) (hb : b < 18446744073709551616) : bits .or .u64 (a : Int) (b : Int) = ((a ||| b : Nat) : Int) := bits_or_u64_nat a b ha hb
theorem gcdWord_zero (x y : Nat) (w : World) (hx : x < 18446744073709551616) (hy : y < 18446744073709551616) (h0 : x = 0 ∨ y = 0) :
    Calls Tryd.prog 53 #[.int .u64 x, .int .u64 y] w fun e w' => e = .returned (.int .u64 (Nat.gcd x y : Nat)) ∧ w = w' := by
  have ho : bits .or .u64 (x : Int) (y : Int) = (Nat.gcd x y : Nat) := by
    rw [or64n x y hx hy]
    rcases h0 with rfl | rfl <;> simp
  have HO := Lib.hid ho
  clear ho
  by_cases hx0 : x = 0
  · subst hx0
    go_enter Tryd.func53, Tryd.ntmps53
    go_wp2
    go_ret
    exact ⟨ret_int (HO.out.trans (by simp)), rfl⟩
  · have hy0 : y = 0 := by omega
    subst hy0
    have hx1 : ((x : Int) == 0) = false := by simp; omega
    go_enter Tryd.func53, Tryd.ntmps53
    go_wp2
    go_ret
    exact ⟨ret_int (HO.out.trans (by simp)), rfl⟩
set_option maxHeartbeats 800000 in
theorem gcdWord_pos (x y : Nat) (w : World) (hx : x < 18446744073709551616) (hy : y < 18446744073709551616) (hx0 : x ≠ 0) (hy0 : y ≠ 0) (hT : Tab w) :
    Calls Tryd.prog 53 #[.int .u64 x, .int .u64 y] w fun e w' => e = .returned (.int .u64 (Nat.gcd x y : Nat)) ∧ w = w' := by
  have hx1 : ((x : Int) == 0) = false := by simp; omega
  have hy1 : ((y : Int) == 0) = false := by simp; omega
  obtain ⟨o, ho⟩ : ∃ o, x ||| y = o := ⟨_, rfl⟩
  have hol : o < 18446744073709551616 := by rw [← ho]; exact or_lt hx hy
  have ho0 : o ≠ 0 := by rw [← ho]; exact or_ne hx0
  have hor : bits .or .u64 (x : Int) (y : Int) = (o : Nat) := by rw [or64n x y hx hy, ho]
  have T1 := Lib.hid (tz64_c o hol ho0 w hT)
  have T2 := Lib.hid (tz64_c x hx hx0 w hT)
  have HT := Lib.hid hT
  obtain ⟨G, hG⟩ : ∃ G, Nat.gcd (odp x) y = G := ⟨_, rfl⟩
  have HRES : Hid (Nat.gcd x y = G * 2 ^ tz o) := Lib.hid (by rw [gw_start hx0 hy0 hx hy, hG, ho])
  have HINV : Hid (GwInv G (odp x) y) := Lib.hid (by rw [← hG]; exact GwInv.start hx0 hx)
  have hxk : tz x < 64 := by obtain ⟨_, _, h⟩ := tz_dec hx0 hx; exact h
  have hok : tz o < 64 := by obtain ⟨_, _, h⟩ := tz_dec ho0 hol; exact h
  have hres : G * 2 ^ tz o < 18446744073709551616 := by rw [← HRES.out]; exact Nat.lt_of_le_of_lt (Nat.gcd_le_left _ (by omega)) hx
  have hpl := odp_le x
  obtain ⟨p, hp⟩ : ∃ p, odp x = p := ⟨_, rfl⟩
  have hsh : (x : Int) / 2 ^ tz x = (p : Nat) := by
    rw [← hp]
    unfold odp
    push_cast
    rfl
  have HS : Hid (IntKind.u64.wrap ((G : Int) * 2 ^ tz o) = ((G * 2 ^ tz o : Nat) : Int)) := Lib.hid (by
    rw [show ((G : Int) * 2 ^ tz o) = ((G * 2 ^ tz o : Nat) : Int) from by push_cast; rfl, IntKind.wrap_u64]
    omega)
  rw [hp] at HINV hpl
  obtain ⟨K, hK⟩ : ∃ K, tz o = K := ⟨_, rfl⟩
  rw [hK] at T1 HRES HS hok hres
  obtain ⟨K2, hK2⟩ : ∃ K2, tz x = K2 := ⟨_, rfl⟩
  rw [hK2] at T2 hsh hxk
  clear hT hG ho hp hK hK2 hres
  go_enter Tryd.func53, Tryd.ntmps53
  go_wp2_with (first | (go_at_call 62; ((with_reducible refine T1.out.mono ?_); rintro e w' ⟨rfl, rfl⟩)) | (go_at_call 62; ((with_reducible refine T2.out.mono ?_); rintro e w' ⟨rfl, rfl⟩)))
  clear hsh
  go_loop [0, 1] (fun s t => ∃ x y : Nat, s = .int .u64 x ∧ t = .int .u64 y ∧ x < 18446744073709551616 ∧ y < 18446744073709551616 ∧ Hid (GwInv G x y)) (fun s t => (intOf s + intOf t).toNat)
  case atStart => exact ⟨p, y, rfl, rfl, by omega, hy, HINV⟩
  case round =>
    obtain ⟨a, b, rfl, rfl, ha, hb, hinv⟩ := hrel
    by_cases hb0 : b = 0
    · subst hb0
      have hfin := hinv.out.done
      subst hfin
      go_wp2
      go_ret
      exact ⟨ret_int (by rw [HRES.out]; exact HS.out), rfl⟩
    · have hbne : ((b : Int) != 0) = true := by rw [bne_iff_ne]; omega
      have hodd := hinv.out.odd
      have hkl : tz b < 64 := by obtain ⟨_, _, h⟩ := tz_dec hb0 hb; exact h
      have T3 := Lib.hid (tz64_c b hb hb0 w HT.out)
      obtain ⟨q, hq⟩ : ∃ q, odp b = q := ⟨_, rfl⟩
      have hql : q ≤ b := by rw [← hq]; exact odp_le b
      have hqo : q % 2 = 1 := by rw [← hq]; exact (odp_odd hb0 hb).1
      have hsb : (b : Int) / 2 ^ tz b = (q : Nat) := by
        rw [← hq]
        unfold odp
        push_cast
        rfl
      obtain ⟨K3, hK3⟩ : ∃ K3, tz b = K3 := ⟨_, rfl⟩
      rw [hK3] at T3 hsb hkl
      by_cases hgt : q < a
      · have hst := Lib.hid (hinv.out.step_gt hb0 hb (by rw [hq]; exact hgt))
        rw [hq] at hst
        have hdec : decide (q < a) = true := by simpa using hgt
        have HHo := Lib.hid hodd
        have HHq := Lib.hid hqo
        clear hq hK3 hodd hqo
        go_wp2_with (go_at_call 62; ((with_reducible refine T3.out.mono ?_); rintro e w' ⟨rfl, rfl⟩))
        clear hsb
        go_round
        case rel => exact ⟨q, a - q, rfl, by go_num, by omega, by omega, hst⟩
        case measure => have := HHq.out; have := HHo.out; simp [intOf]; omega
      · have hst := Lib.hid (hinv.out.step_le hb0 hb (by rw [hq]; omega))
        rw [hq] at hst
        have hdec : decide (q < a) = false := by simpa using hgt
        have HHo := Lib.hid hodd
        have HHq := Lib.hid hqo
        clear hq hK3 hodd hqo
        go_wp2_with (go_at_call 62; ((with_reducible refine T3.out.mono ?_); rintro e w' ⟨rfl, rfl⟩))
        clear hsb
        go_round
        case rel => exact ⟨a, q - a, rfl, by go_num, by omega, by omega, hst⟩
        case measure => have := HHq.out; have := HHo.out; simp [intOf]; omega
theorem gcdWord_c (x y : Nat) (w : World) (hx : x < 18446744073709551616) (hy : y < 18446744073709551616) (hT : Tab w) :
    Calls Tryd.prog 53 #[.int .u64 x, .int .u64 y] w fun e w' => e = .returned (.int .u64 (Nat.gcd x y : Nat)) ∧ w = w' := by
  by_cases h0 : x = 0 ∨ y = 0
  · exact gcdWord_zero x y w hx hy h0
  · exact gcdWord_pos x y w hx hy (by omega) (by omega) hT
end Go.Proofs.YtgoiechhhnhgaaaDoor
