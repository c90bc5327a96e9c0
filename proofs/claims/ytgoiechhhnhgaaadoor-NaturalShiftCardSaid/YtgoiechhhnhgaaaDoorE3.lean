/- Walks of layer 1: divLimb. -/
import Derived.Test.YtgoiechhhnhgaaaDoorE2
namespace Go.Proofs.YtgoiechhhnhgaaaDoor
open Go.RowKit
set_option linter.unusedVariables false
theorem nv_drop_step {l : List Nat} {k : Nat} (h : k < l.length) : nv (l.drop k) = l.getD k 0 + BB * nv (l.drop (k + 1)) := by
  have e2 : l.drop k = l.getD k 0 :: l.drop (k + 1) := by
    rw [List.drop_eq_getElem_cons h]
    simp [List.getD_eq_getElem?_getD, h]
  rw [e2, nv]
/-- the limbs from k on are divided -/
structure DlInv (x L : List Nat) (v k r : Nat) : Prop where
  rest : r < v
  sum : nv (x.drop k) = nv (L.drop k) * v + r
theorem DlInv.start {x L : List Nat} {v n : Nat} (hv : 0 < v) (hx : x.length = n) (hL : L.length = n) : DlInv x L v n 0 :=
  ⟨hv, by rw [List.drop_of_length_le (by omega), List.drop_of_length_le (by omega)]; simp [nv]⟩
theorem DlInv.step {x L : List Nat} {v k r y W : Nat} (h : DlInv x L v (k + 1) r) (hx : k < x.length) (hL : k < L.length) (hy : x.getD k 0 = y) (hW : y + BB * r = W) (hyl : y < BB) (hv : 0 < v) :
    DlInv x (L.set k (W / v)) v k (W % v) ∧ W / v < BB := by
  have h1 := h.sum
  have h2 := Nat.div_add_mod W v
  have h3 := h.rest
  refine ⟨⟨Nat.mod_lt _ hv, ?_⟩, ?_⟩
  · rw [nv_drop_step hx, nv_drop_step (l := L.set k (W / v)) (by rw [List.length_set]; exact hL), getD_set_same hL, List.drop_set_of_lt (by omega), hy, h1]
    have e : BB * (nv (L.drop (k + 1)) * v + r) = BB * nv (L.drop (k + 1)) * v + BB * r := by rw [Nat.mul_add, Nat.mul_assoc]
    rw [e, Nat.add_mul, Nat.mul_comm (W / v)]
    omega
  · rw [Nat.div_lt_iff_lt_mul hv, ← hW]
    have : BB * (r + 1) ≤ BB * v := Nat.mul_le_mul_left _ h3
    rw [Nat.mul_add] at this
    omega
theorem DlInv.done {x L : List Nat} {v r : Nat} (h : DlInv x L v 0 r) : nv L = nv x / v ∧ r = nv x % v := by
  have h1 := h.sum
  simp only [List.drop_zero] at h1
  rw [h1]
  have h2 := h.rest
  have hv : 0 < v := by omega
  rw [Nat.mul_comm, Nat.mul_add_div hv, Nat.div_eq_of_lt h2, Nat.mul_add_mod, Nat.mod_eq_of_lt h2]
  simp
/-- what divLimb answers -/
def DlPost (q r : Nat) (w : World) (e : Ending) (w' : World) : Prop := ∃ a cap, e = Ending.returned (.tuple #[.slice a (dig q).length cap, .int .u32 r]) ∧ Rd w' a (dig q).length cap (dig q) ∧ Below w.heap.size w w'
set_option maxHeartbeats 1600000 in
theorem divLimb_c (a : Option Addr) (n cap : Nat) (x : List Nat) (v : Nat) (w : World) (h : Rd w a n cap x) (hb : n ≤ 1048576) (hv : 0 < v) (hvl : v < 4294967296) :
    Calls Tryd.prog 51 #[.slice a n cap, .int .u32 v] w (DlPost (nv x / v) (nv x % v) w) := by
  have H := Lib.hid h
  have HN := Lib.hid h.len_eq
  clear h
  go_enter Tryd.func51, Tryd.ntmps51
  go_wp2_with (at_make; refine wpList_make_win _ rfl _ _ 25 rfl Tryd.underlying25 _ n rfl rfl rfl (by omega) ?_)
  intro w1 hwin1 hb1 hs1
  have HR1 := Lib.hid (H.out.below hb1)
  have HF := Lib.hid (H.out.far (Nat.le_refl _))
  go_wp2
  go_loopw [8, 7] (fun i z wr => ∃ (k r : Nat) (L : List Nat), k ≤ n ∧ i = .int .i64 ((k : Int) - 1) ∧ z = .int .u64 r ∧ r < 4294967296 ∧ Hid (DlInv x L v k r) ∧ Hid (Win wr w.heap.size 0 n L) ∧ Hid (Only w.heap.size 0 (0 + n) w1 wr)) (fun i _ _ => (intOf i + 1).toNat)
  case atStart => exact ⟨n, 0, _, by omega, by go_num, rfl, by omega, Lib.hid (DlInv.start hv HN.out (zer_length n)), hwin1, Lib.hid (Only.refl _ _ _ _)⟩
  case round =>
    obtain ⟨k, r, L, hk, rfl, rfl, hr, hinv, hwin, honly⟩ := hrel
    by_cases hk0 : k = 0
    · subst hk0
      have hfin := Lib.hid hinv.out.done
      have hb3 := hb1.trans (honly.out.below (Nat.le_refl _))
      go_wp2_with fail
      refine (trim_c _ _ _ _ _ (hwin.out.rd (Nat.le_refl _) (by omega))).mono ?_
      rintro e w4 ⟨rfl, rfl⟩
      go_wp2_with fail
      go_ret2
      rw [← hfin.out.1, ← hfin.out.2]
      exact ⟨_, _, rfl, (hwin.out.rd (Nat.le_refl _) (by omega)).trimmed, hb3⟩
    obtain ⟨j, rfl⟩ : ∃ j, k = j + 1 := ⟨k - 1, by omega⟩
    have ej : ((j + 1 : Nat) : Int) - 1 = j := by omega
    rw [ej]
    clear ej
    have hr1 := HR1.out.only honly.out HF.out
    rcases hr1.cells with h1 | ⟨b, off, rfl, h1⟩
    · omega
    obtain ⟨y, hy⟩ : ∃ y, x.getD j 0 = y := ⟨_, rfl⟩
    have hc := h1 j (by omega)
    have hyl : y < 4294967296 := by rw [← hy]; exact hr1.lim.at j
    rw [hy] at hc
    have hor := or64 y r hyl hr
    obtain ⟨W, hW⟩ : ∃ W, y + 4294967296 * r = W := ⟨_, rfl⟩
    rw [hW] at hor
    have hWl : W < 18446744073709551616 := by omega
    obtain ⟨hst, hdl⟩ := hinv.out.step (W := W) (by rw [HN.out]; omega) (by rw [hwin.out.len_eq]; omega) hy (by rw [BB_eq]; exact hW) hyl hv
    obtain ⟨D, hD⟩ : ∃ D, W / v = D := ⟨_, rfl⟩
    obtain ⟨R, hR⟩ : ∃ R, W % v = R := ⟨_, rfl⟩
    have hRl : R < 4294967296 := by rw [← hR]; have := Nat.mod_lt W hv; omega
    have hqw : IntKind.u64.wrap ((W : Int) / v) = (D : Nat) := by
      rw [show ((W : Int) / v) = (D : Nat) from by rw [← hD]; push_cast; rfl]
      rw [hD, BB_eq] at hdl
      simp [IntKind.wrap, IntKind.bits, IntKind.signed]; omega
    have HRI : Hid (((W : Int) % v) = (R : Nat)) := Lib.hid (by rw [← hR]; push_cast; rfl)
    rw [hD, hR] at hst
    rw [hD] at hdl
    have HST := Lib.hid hst
    have c1 := hwin.out.cell j (by omega)
    have f1 := hwin.out.free j (by omega)
    have hw2 := hwin.out.set (i := j) (by omega) (x := D) hdl
    have HO2 := Lib.hid (honly.out.set (j := j) (by omega) (by omega) (.int .u32 ↑D))
    rw [Nat.zero_add] at c1 f1 hw2
    have HW2 := Lib.hid hw2
    rw [BB_eq] at hdl
    clear hy hW hD hR hw2 hst hr1 h1
    go_wp2
    go_roundw
    case rel => exact ⟨j, R, _, by omega, by go_num, val_int HRI.out, hRl, HST, HW2, HO2⟩
    case measure => simp [intOf]
end Go.Proofs.YtgoiechhhnhgaaaDoor
