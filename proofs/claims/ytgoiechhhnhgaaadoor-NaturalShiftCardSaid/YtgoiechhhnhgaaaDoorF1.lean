/- Walks of layer 1: DivMod. -/
import Derived.Test.YtgoiechhhnhgaaaDoorE5
import Derived.Test.YtgoiechhhnhgaaaDoorC4
import Derived.Deep.RegionWith
namespace Go.Proofs.YtgoiechhhnhgaaaDoor
open Go.RowKit
set_option linter.unusedVariables false
/-- what DivMod answers -/
def DMPost (q r : Nat) (err : Int) (w : World) (e : Ending) (w' : World) : Prop :=
  ∃ a cap a2 cap2, e = Ending.returned (.tuple #[.slice a (dig q).length cap, .slice a2 (dig r).length cap2, .int .i64 err]) ∧ Rd w' a (dig q).length cap (dig q) ∧ Rd w' a2 (dig r).length cap2 (dig r) ∧ Below w.heap.size w w'
def dmR (a b : Nat) : Nat := if b = 0 then 0 else a % b
def dmE (b : Nat) : Int := if b = 0 then 3 else 0
/-- trimmed limbs under names -/
structure Tm (l x : List Nat) (n : Nat) : Prop where
  dg : dig (nv l) = x
  len : x.length = n
  lend : (dig (nv l)).length = n
  val : nv x = nv l
theorem Tm.mk' (l : List Nat) : ∃ x n, Tm l x n := ⟨_, _, rfl, rfl, rfl, nv_dig _⟩
theorem Tm.rd {w : World} {a : Option Addr} {len cap : Nat} {l x : List Nat} {n : Nat} (h : Tm l x n) (hr : Rd w a len cap l) : Rd w a n cap x := by
  have := hr.trimmed
  rwa [h.lend, h.dg] at this
theorem divMod_zero (a a' : Option Addr) (len cap len' cap' : Nat) (l t : List Nat) (w : World) (h : Rd w a len cap l) (h' : Rd w a' len' cap' t) (h0 : nv t = 0) :
    Calls Tryd.prog 38 #[.slice a len cap, .slice a' len' cap'] w (DMPost 0 0 3 w) := by
  have H := Lib.hid h
  have H' := Lib.hid h'
  obtain ⟨x, n, hx⟩ := Tm.mk' l
  have HX := Lib.hid hx.lend
  have HY : Hid ((dig (nv t)).length = 0) := Lib.hid (by rw [h0, dig_zero]; rfl)
  have hz : Hid ((dig 0).length = 0) := Lib.hid (by rw [dig_zero]; rfl)
  have hz2 : Hid (dig 0 = []) := Lib.hid dig_zero
  clear h h' hx h0
  go_enter Tryd.func38, Tryd.ntmps38
  go_wp2_with fail
  refine (trim_c _ _ _ l _ H.out).mono ?_
  rw [HX.out]
  rintro e w' ⟨rfl, rfl⟩
  go_wp2_with fail
  refine (trim_c _ _ _ t _ H'.out).mono ?_
  rw [HY.out]
  rintro e w' ⟨rfl, rfl⟩
  go_wp2_with fail
  go_ret3
  unfold DMPost
  rw [hz.out, hz2.out]
  exact ⟨none, 0, none, 0, rfl, Rd.nil _, Rd.nil _, Below.refl _ _⟩
set_option maxHeartbeats 400000 in
theorem divMod_less (a a' : Option Addr) (len cap len' cap' : Nat) (l t : List Nat) (w : World) (h : Rd w a len cap l) (h' : Rd w a' len' cap' t) (hb : len ≤ 1048576) (hlt : nv l < nv t) :
    Calls Tryd.prog 38 #[.slice a len cap, .slice a' len' cap'] w (DMPost 0 (nv l) 0 w) := by
  have H := Lib.hid h
  have H' := Lib.hid h'
  obtain ⟨x, n, hx⟩ := Tm.mk' l
  obtain ⟨y, m, hy⟩ := Tm.mk' t
  have HX := Lib.hid hx.lend
  have HY := Lib.hid hy.lend
  have HDX := Lib.hid hx.dg
  have hm0 : m ≠ 0 := by
    intro e
    have h1 := hy.lend
    rw [e, List.length_eq_zero_iff, dig_nil_iff] at h1
    omega
  have HRX := Lib.hid (hx.rd h)
  have HRY := Lib.hid (hy.rd h')
  have hn : n ≤ 1048576 := by have := dig_length_le h.lim; rw [h.len_eq, hx.lend] at this; omega
  have HC := Lib.hid (cmp_c _ _ _ _ _ _ _ _ w HRX.out HRY.out)
  rw [hx.val, hy.val, cmpv_lt hlt] at HC
  have hz : Hid ((dig 0).length = 0) := Lib.hid (by rw [dig_zero]; rfl)
  have hz2 : Hid (dig 0 = []) := Lib.hid dig_zero
  have hmB : ((m : Int) == 0) = false := by simp; omega
  clear h h' hx hy hlt
  go_enter Tryd.func38, Tryd.ntmps38
  go_wp2_with fail
  refine (trim_c _ _ _ l _ H.out).mono ?_
  rw [HX.out]
  rintro e w' ⟨rfl, rfl⟩
  go_wp2_with fail
  refine (trim_c _ _ _ t _ H'.out).mono ?_
  rw [HY.out]
  rintro e w' ⟨rfl, rfl⟩
  go_wp2_with fail
  refine HC.out.mono ?_
  rintro e w1 ⟨rfl, hdr⟩
  have HRX1 := Lib.hid (hdr.rd HRX.out)
  have hb0 := hdr.below (Below.refl w.heap.size w)
  go_wp2_with fail
  refine (clone_c _ _ _ _ _ HRX1.out hn).mono ?_
  rintro e w2 hp
  obtain ⟨v, cc, rfl, hr, hb2⟩ := hp.npost (n := nv l) HDX.out.symm
  have HR2 := Lib.hid hr
  have hb3 := hb0.trans (hb2.mono hb0.size)
  clear hr
  go_wp2_with fail
  go_ret3
  unfold DMPost
  rw [hz.out, hz2.out]
  exact ⟨none, 0, _, _, rfl, Rd.nil _, HR2.out, hb3⟩
end Go.Proofs.YtgoiechhhnhgaaaDoor
