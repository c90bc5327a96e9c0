/- Carried over from another seat by program (portn.py). -/
import Derived.Test.YtbcakefhknjbeaaDoorR7
import Derived.Laws.Externs
namespace Go.Proofs.YtbcakefhknjbeaaDoor
open Go.RowKit
set_option linter.unusedVariables false
theorem op2 (w : World) (s : Bool) (a : Option Addr) (n c : Nat) (a' : Option Addr) (n' c' : Nat) (t : Bool) (b : Option Addr) (m g : Nat) (b' : Option Addr) (m' g' : Nat) :
    Hid (QBox w.heap.size (.bool s) (.slice a n c) (.slice a' n' c') (((w.alloc (.cells #[.bool s, .slice a n c, .slice a' n' c'] 32)).alloc (.cells #[.bool t, .slice b m g, .slice b' m' g'] 32)).alloc (.cells #[.bool false, .slice none 0 0, .slice none 0 0] 32))) ∧ Hid (QBox (w.heap.size + 1) (.bool t) (.slice b m g) (.slice b' m' g') (((w.alloc (.cells #[.bool s, .slice a n c, .slice a' n' c'] 32)).alloc (.cells #[.bool t, .slice b m g, .slice b' m' g'] 32)).alloc (.cells #[.bool false, .slice none 0 0, .slice none 0 0] 32))) ∧
    Hid (QBox (w.heap.size + 1 + 1) (.bool false) (.slice none 0 0) (.slice none 0 0) (((w.alloc (.cells #[.bool s, .slice a n c, .slice a' n' c'] 32)).alloc (.cells #[.bool t, .slice b m g, .slice b' m' g'] 32)).alloc (.cells #[.bool false, .slice none 0 0, .slice none 0 0] 32))) ∧ Hid (Keep w (((w.alloc (.cells #[.bool s, .slice a n c, .slice a' n' c'] 32)).alloc (.cells #[.bool t, .slice b m g, .slice b' m' g'] 32)).alloc (.cells #[.bool false, .slice none 0 0, .slice none 0 0] 32))) :=
  ⟨Lib.hid ((QBox.new w s a n c a' n' c').keep (((Keep.refl _).alloc _).alloc _)), Lib.hid (((QBox.new (w.alloc _) t b m g b' m' g').at (sz1 _ _)).keep ((Keep.refl _).alloc _)),
    Lib.hid ((QBox.new ((w.alloc _).alloc _) false none 0 0 none 0 0).at (sz2 _ _ _)), Lib.hid ((((Keep.refl w).alloc _).alloc _).alloc _)⟩
theorem words_any {w : World} {s : Bool} {a a' : Option Addr} {n c n' c' : Nat} {l l' : List Nat} (hr : Rd w a n c l) (hr' : Rd w a' n' c' l') : Calls Tryd.prog 90 #[.agg #[.bool s, .slice a n c, .slice a' n' c']] w fun e w' => (∃ p q : Nat, ∃ r : Bool, e = .returned (.tuple #[.int .u64 (p : Nat), .int .u64 (q : Nat), .bool r])) ∧ Keep w w' := by
  by_cases h : n ≤ 1 ∧ n' ≤ 1
  · exact (words_t hr hr' h.1 h.2).mono fun e w' ⟨h1, h2⟩ => ⟨⟨_, _, _, h1⟩, h2⟩
  · exact (words_f hr hr' h).mono fun e w' ⟨h1, h2⟩ => ⟨⟨0, 0, _, h1⟩, h2⟩
theorem Rd.keep {w w' : World} {a : Option Addr} {n c : Nat} {l : List Nat} (h : Rd w a n c l) (k : Keep w w') : Rd w' a n c l := h.below k
theorem short_lt {l : List Nat} (hl : Lim l) (h : l.length ≤ 1) : nv l < 4294967296 := by
  have h1 := nv_lt hl
  have h2 : BB ^ l.length ≤ BB ^ 1 := Nat.pow_le_pow_right BB_pos h
  have h3 : BB ^ 1 = 4294967296 := by decide
  rw [h3] at h2
  omega
theorem dn_lt {d : Nat} (h : d < 4294967296) : dn d < 4294967296 := by unfold dn; split <;> omega
theorem mul_word {a b : Nat} (h : a < 4294967296) (h' : b < 4294967296) : a * b < 18446744073709551616 := by
  calc a * b ≤ 4294967295 * 4294967295 := Nat.mul_le_mul (by omega) (by omega)
    _ < 18446744073709551616 := by decide
theorem mul_wrap {a b p : Nat} (h : a * b = p) (hp : p < 18446744073709551616) : IntKind.u64.wrap ((a : Int) * b) = (p : Nat) := by
  rw [show ((a : Int) * b) = (p : Nat) from by rw [← h]; push_cast; rfl]
  exact wr64 hp
end Go.Proofs.YtbcakefhknjbeaaDoor
