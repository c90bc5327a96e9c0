/- Walks of layer 1: Add. -/
import Derived.Test.YtgoiechhhnhgaaaDoorB3
namespace Go.Proofs.YtgoiechhhnhgaaaDoor
open Go.RowKit
set_option linter.unusedVariables false
theorem nv_pad (l : List Nat) (k : Nat) : nv (l ++ zer k) = nv l := by rw [nv_append, nv_zer]; simp
theorem zer_drop (n k : Nat) : (zer n).drop k = zer (n - k) := by simp [zer]
theorem add_lt {l t : List Nat} {n m : Nat} (hl : Lim l) (ht : Lim t) (hln : l.length = n) (htm : t.length = m) (h : m ≤ n) : nv l + nv t < BB ^ (n + 1) := by
  have a := nv_lt hl
  have b := nv_lt ht
  have c : BB ^ m ≤ BB ^ n := Nat.pow_le_pow_right BB_pos h
  rw [hln] at a
  rw [htm] at b
  rw [Nat.pow_succ, Nat.mul_comm]
  have : 2 * BB ^ n ≤ BB * BB ^ n := Nat.mul_le_mul_right _ (by decide)
  omega
theorem Rd.npost {w0 w : World} {b cap n N : Nat} {L : List Nat} (h : Win w b 0 n L) (h1 : n ≤ cap) (h2 : cap ≤ 9223372036854775807) (hN : nv L = N) (hb : Below w0.heap.size w0 w) :
    NPost N w0 (.returned (.slice (some ⟨b, 0, none⟩) (dig (nv L)).length cap)) w := by
  subst hN
  exact ⟨_, _, rfl, (h.rd h1 h2).trimmed, hb⟩

set_option maxHeartbeats 800000 in
theorem add_ge (a a' : Option Addr) (len cap len' cap' : Nat) (l t : List Nat) (w : World) (h : Rd w a len cap l) (h' : Rd w a' len' cap' t) (hb : len ≤ 1048576) (hb' : len' ≤ 1048576)
    (hord : ¬ (dig (nv l)).length < (dig (nv t)).length) :
    Calls Tryd.prog 28 #[.slice a len cap, .slice a' len' cap'] w (NPost (nv l + nv t) w) := by
  have H := Lib.hid h
  have H' := Lib.hid h'
  have HT := h.trimmed
  have HT' := h'.trimmed
  have hle := dig_length_le h.lim
  have hle' := dig_length_le h'.lim
  rw [h.len_eq] at hle
  rw [h'.len_eq] at hle'
  obtain ⟨x, hx⟩ : ∃ x, dig (nv l) = x := ⟨_, rfl⟩
  obtain ⟨y, hy⟩ : ∃ y, dig (nv t) = y := ⟨_, rfl⟩
  have hX : Hid (nv x = nv l) := Lib.hid (by rw [← hx, nv_dig])
  have hY : Hid (nv y = nv t) := Lib.hid (by rw [← hy, nv_dig])
  obtain ⟨n, hn⟩ : ∃ n, x.length = n := ⟨_, rfl⟩
  obtain ⟨m, hm⟩ : ∃ m, y.length = m := ⟨_, rfl⟩
  have HX : Hid ((dig (nv l)).length = n) := Lib.hid (by rw [hx, hn])
  have HY : Hid ((dig (nv t)).length = m) := Lib.hid (by rw [hy, hm])
  rw [hx, hn] at HT hle hord
  rw [hy, hm] at HT' hle' hord
  have HRX := Lib.hid HT
  have HRY := Lib.hid HT'
  have hsum : Hid (nv l + nv t < BB ^ (n + 1)) := Lib.hid (by rw [← hX.out, ← hY.out]; exact add_lt HT.lim HT'.lim hn hm (by omega))
  clear h h' hx hy hn hm HT HT'
  go_enter Tryd.func28, Tryd.ntmps28
  go_wp2_with fail
  refine (trim_c _ _ _ l _ H.out).mono ?_
  rw [HX.out]
  rintro e w' ⟨rfl, rfl⟩
  go_wp2_with fail
  refine (trim_c _ _ _ t _ H'.out).mono ?_
  rw [HY.out]
  rintro e w' ⟨rfl, rfl⟩
  go_wp2_with (at_make; refine wpList_make_win _ rfl _ _ 25 rfl Tryd.underlying25 _ (n + 1) rfl rfl (by push_cast; rfl) (by omega) ?_)
  intro w1 hwin1 hb1 hs1
  have HA := Lib.hid (HRX.out.below hb1)
  have HB := Lib.hid (HRY.out.below hb1)
  have HFA := Lib.hid (HRX.out.far (Nat.le_refl _))
  have HFB := Lib.hid (HRY.out.far (Nat.le_refl _))
  go_wp2_with (refine wpList_copy_win (o := ⟨some 23, _, _, _, _, _⟩) rfl _ _ 25 25 rfl Tryd.underlying25 _ _ _ _ _ _ _ _ _ rfl rfl hwin1.out HA.out (by omega) ?_)
  intro w2 hwin2 ho2
  have HC := Lib.hid (HB.out.only ho2.out HFB.out)
  have hb2 := ho2.out.below (Nat.le_refl _)
  go_wp2_with fail
  refine (addInto_c _ _ _ _ _ _ _ _ _ _ hwin2.out (Nat.le_refl _) (by omega) HC.out HFB.out (by omega)).mono ?_
  rintro e w3 ⟨rfl, L, hwin3, hL, ho3⟩
  have hNV : Hid (nv L = nv l + nv t) := Lib.hid (by
    rw [hL, zer_drop, nv_pad, hX.out, hY.out, Nat.mod_eq_of_lt hsum.out])
  have HW3 := Lib.hid hwin3
  have hb3 := hb1.trans (hb2.trans (ho3.below (Nat.le_refl _)))
  clear hL hwin3 ho3 hb1 hb2 hs1
  go_wp2_with fail
  refine (trim_c _ _ _ _ _ (HW3.out.rd (Nat.le_refl _) (by omega))).mono ?_
  rintro e w4 ⟨rfl, rfl⟩
  go_wp2_with fail
  go_ret
  exact Rd.npost HW3.out (Nat.le_refl _) (by omega) hNV.out hb3

set_option maxHeartbeats 800000 in
theorem add_lt_c (a a' : Option Addr) (len cap len' cap' : Nat) (l t : List Nat) (w : World) (h : Rd w a len cap l) (h' : Rd w a' len' cap' t) (hb : len ≤ 1048576) (hb' : len' ≤ 1048576)
    (hord : (dig (nv l)).length < (dig (nv t)).length) :
    Calls Tryd.prog 28 #[.slice a len cap, .slice a' len' cap'] w (NPost (nv l + nv t) w) := by
  have H := Lib.hid h
  have H' := Lib.hid h'
  have HT := h.trimmed
  have HT' := h'.trimmed
  have hle := dig_length_le h.lim
  have hle' := dig_length_le h'.lim
  rw [h.len_eq] at hle
  rw [h'.len_eq] at hle'
  obtain ⟨x, hx⟩ : ∃ x, dig (nv l) = x := ⟨_, rfl⟩
  obtain ⟨y, hy⟩ : ∃ y, dig (nv t) = y := ⟨_, rfl⟩
  have hX : Hid (nv x = nv l) := Lib.hid (by rw [← hx, nv_dig])
  have hY : Hid (nv y = nv t) := Lib.hid (by rw [← hy, nv_dig])
  obtain ⟨n, hn⟩ : ∃ n, x.length = n := ⟨_, rfl⟩
  obtain ⟨m, hm⟩ : ∃ m, y.length = m := ⟨_, rfl⟩
  have HX : Hid ((dig (nv l)).length = n) := Lib.hid (by rw [hx, hn])
  have HY : Hid ((dig (nv t)).length = m) := Lib.hid (by rw [hy, hm])
  rw [hx, hn] at HT hle hord
  rw [hy, hm] at HT' hle' hord
  have HRX := Lib.hid HT
  have HRY := Lib.hid HT'
  have hsum : Hid (nv l + nv t < BB ^ (m + 1)) := Lib.hid (by rw [← hX.out, ← hY.out]; rw [Nat.add_comm]; exact add_lt HT'.lim HT.lim hm hn (by omega))
  clear h h' hx hy hn hm HT HT'
  go_enter Tryd.func28, Tryd.ntmps28
  go_wp2_with fail
  refine (trim_c _ _ _ l _ H.out).mono ?_
  rw [HX.out]
  rintro e w' ⟨rfl, rfl⟩
  go_wp2_with fail
  refine (trim_c _ _ _ t _ H'.out).mono ?_
  rw [HY.out]
  rintro e w' ⟨rfl, rfl⟩
  go_wp2_with (at_make; refine wpList_make_win _ rfl _ _ 25 rfl Tryd.underlying25 _ (m + 1) rfl rfl (by push_cast; rfl) (by omega) ?_)
  intro w1 hwin1 hb1 hs1
  have HA := Lib.hid (HRX.out.below hb1)
  have HB := Lib.hid (HRY.out.below hb1)
  have HFA := Lib.hid (HRX.out.far (Nat.le_refl _))
  have HFB := Lib.hid (HRY.out.far (Nat.le_refl _))
  go_wp2_with (refine wpList_copy_win (o := ⟨some 23, _, _, _, _, _⟩) rfl _ _ 25 25 rfl Tryd.underlying25 _ _ _ _ _ _ _ _ _ rfl rfl hwin1.out HB.out (by omega) ?_)
  intro w2 hwin2 ho2
  have HC := Lib.hid (HA.out.only ho2.out HFA.out)
  have hb2 := ho2.out.below (Nat.le_refl _)
  go_wp2_with fail
  refine (addInto_c _ _ _ _ _ _ _ _ _ _ hwin2.out (Nat.le_refl _) (by omega) HC.out HFA.out (by omega)).mono ?_
  rintro e w3 ⟨rfl, L, hwin3, hL, ho3⟩
  have hNV : Hid (nv L = nv l + nv t) := Lib.hid (by
    rw [hL, zer_drop, nv_pad, hY.out, hX.out, Nat.add_comm (nv t), Nat.mod_eq_of_lt hsum.out])
  have HW3 := Lib.hid hwin3
  have hb3 := hb1.trans (hb2.trans (ho3.below (Nat.le_refl _)))
  clear hL hwin3 ho3 hb1 hb2 hs1
  go_wp2_with fail
  refine (trim_c _ _ _ _ _ (HW3.out.rd (Nat.le_refl _) (by omega))).mono ?_
  rintro e w4 ⟨rfl, rfl⟩
  go_wp2_with fail
  go_ret
  exact Rd.npost HW3.out (Nat.le_refl _) (by omega) hNV.out hb3

theorem add_c (a a' : Option Addr) (len cap len' cap' : Nat) (l t : List Nat) (w : World) (h : Rd w a len cap l) (h' : Rd w a' len' cap' t) (hb : len ≤ 1048576) (hb' : len' ≤ 1048576) :
    Calls Tryd.prog 28 #[.slice a len cap, .slice a' len' cap'] w (NPost (nv l + nv t) w) := by
  by_cases hord : (dig (nv l)).length < (dig (nv t)).length
  · exact add_lt_c a a' len cap len' cap' l t w h h' hb hb' hord
  · exact add_ge a a' len cap len' cap' l t w h h' hb hb' hord
end Go.Proofs.YtgoiechhhnhgaaaDoor
