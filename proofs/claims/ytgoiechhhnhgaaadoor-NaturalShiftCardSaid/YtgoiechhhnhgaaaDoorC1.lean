/- Walks of layer 1: subtracting. -/
import Derived.Test.YtgoiechhhnhgaaaDoorB5
namespace Go.Proofs.YtgoiechhhnhgaaaDoor
open Go.RowKit
set_option linter.unusedVariables false
/-- the limb of a difference, and the borrow -/
def sbD (x y b : Nat) : Nat := (x + 8589934592 - y - b) % 4294967296
def sbB (x y b : Nat) : Nat := if x < y + b then 1 else 0
theorem sbB_lt (x y b : Nat) : sbB x y b < 2 := by unfold sbB; split <;> omega
theorem sbD_lt (x y b : Nat) : sbD x y b < BB := Nat.mod_lt _ (by decide)
theorem sb_eq {x y b : Nat} (hx : x < BB) (hy : y < BB) (hb : b < 2) : sbD x y b + y + b = x + BB * sbB x y b := by
  rw [BB_eq] at *
  unfold sbD sbB
  split <;> omega
theorem top_bits (x y d : Nat) : ((((4294967295 ^^^ x) &&& y) ||| ((4294967295 ^^^ (x ^^^ y)) &&& d)) / 2147483648)
    = ((1 ^^^ (x / 2147483648)) &&& (y / 2147483648)) ||| ((1 ^^^ ((x / 2147483648) ^^^ (y / 2147483648))) &&& (d / 2147483648)) := by
  have e : ∀ n : Nat, n / 2147483648 = n >>> 31 := fun n => by rw [Nat.shiftRight_eq_div_pow]
  simp only [e, Nat.shiftRight_or_distrib, Nat.shiftRight_and_distrib, Nat.shiftRight_xor_distrib]
  rfl
theorem sb_bits {x y b : Nat} (hx : x < 4294967296) (hy : y < 4294967296) (hb : b < 2) :
    ((((4294967295 ^^^ x) &&& y) ||| ((4294967295 ^^^ (x ^^^ y)) &&& sbD x y b)) / 2147483648) = sbB x y b := by
  rw [top_bits]
  have key : ∀ X Y D : Nat, X < 2 → Y < 2 → D < 2 → ((1 ^^^ X) &&& Y) ||| ((1 ^^^ (X ^^^ Y)) &&& D) = if X < Y then 1 else if X = Y then D else 0 := by
    intro X Y D h1 h2 h3
    rcases (show X = 0 ∨ X = 1 by omega) with rfl | rfl <;> rcases (show Y = 0 ∨ Y = 1 by omega) with rfl | rfl <;> rcases (show D = 0 ∨ D = 1 by omega) with rfl | rfl <;> decide
  have hd : sbD x y b < 4294967296 := sbD_lt x y b
  rw [key _ _ _ (by omega) (by omega) (by omega)]
  unfold sbB sbD
  split <;> split <;> (try split) <;> omega
theorem sb_int {x y b : Nat} (hx : x < 4294967296) (hy : y < 4294967296) (hb : b < 2) : (((x : Int) - y) % 4294967296 - b) % 4294967296 = (sbD x y b : Nat) := by
  unfold sbD; omega
theorem sb_int2 {x y b : Nat} (hx : x < 4294967296) (hy : y < 4294967296) (hb : b < 2) : ((x : Int) - y - b) % 4294967296 = (sbD x y b : Nat) := by
  unfold sbD; omega
theorem sb_bor {x y b : Nat} (hx : x < 4294967296) (hy : y < 4294967296) (hb : b < 2) :
    bits BinOp.or IntKind.u32 (bits BinOp.and IntKind.u32 (bits BinOp.xor IntKind.u32 IntKind.u32.max ↑x) ↑y)
      (bits BinOp.and IntKind.u32 (bits BinOp.xor IntKind.u32 IntKind.u32.max (bits BinOp.xor IntKind.u32 ↑x ↑y)) (((x : Int) - y - b) % 4294967296)) / 2147483648 = (sbB x y b : Nat) := by
  have hd : sbD x y b < 4294967296 := sbD_lt x y b
  have hm : IntKind.u32.max = ((4294967295 : Nat) : Int) := by decide
  have l2 : ∀ a c : Nat, a < 4294967296 → c < 4294967296 → a ^^^ c < 4294967296 := fun a c h1 h2 => Nat.xor_lt_two_pow (n := 32) h1 h2
  have l1 : ∀ a c : Nat, c < 4294967296 → a &&& c < 4294967296 := fun a c h2 => Nat.and_lt_two_pow (n := 32) _ h2
  rw [sb_int2 hx hy hb, hm, u32_xor_nat _ _ (by omega) hx, u32_and_nat _ _ (l2 _ _ (by omega) hx) hy, u32_xor_nat _ _ hx hy, u32_xor_nat _ _ (by omega) (l2 _ _ hx hy),
    u32_and_nat _ _ (l2 _ _ (by omega) (l2 _ _ hx hy)) hd, u32_or_nat _ _ (l1 _ _ hy) (l1 _ _ hd), ← sb_bits hx hy hb]
  rw [Int.natCast_ediv]; rfl
theorem sub32_c (x y b : Nat) (w : World) (hx : x < 4294967296) (hy : y < 4294967296) (hb : b < 2) :
    Calls Tryd.prog 56 #[.int .u32 x, .int .u32 y, .int .u32 b] w fun e w' => e = .returned (.tuple #[.int .u32 (sbD x y b : Nat), .int .u32 (sbB x y b : Nat)]) ∧ w = w' := by
  have H1 := Lib.hid (sb_int hx hy hb)
  have H2 := Lib.hid (sb_bor hx hy hb)
  have hsg : IntKind.u32.signed = false := rfl
  go_enter Tryd.func56, Tryd.ntmps56
  go_wp2
  go_ret2
  exact ⟨ret_two (val_int H1.out) (val_int H2.out), rfl⟩
end Go.Proofs.YtgoiechhhnhgaaaDoor
