/- Walks of layer 1: Sub. -/
import Derived.Test.YtgoiechhhnhgaaaDoorC2
namespace Go.Proofs.YtgoiechhhnhgaaaDoor
open Go.RowKit
set_option linter.unusedVariables false
/-- a number and an error -/
def NEPost (n : Nat) (err : Int) (w : World) (e : Ending) (w' : World) : Prop := ∃ a cap, e = Ending.returned (.tuple #[.slice a (dig n).length cap, .int .i64 err]) ∧ Rd w' a (dig n).length cap (dig n) ∧ Below w.heap.size w w'
theorem NEPost.nil {err : Int} {w w' : World} (h : Below w.heap.size w w') : NEPost 0 err w (.returned (.tuple #[.slice none 0 0, .int .i64 err])) w' := by
  refine ⟨none, 0, by rw [dig_zero]; rfl, ?_, h⟩
  rw [dig_zero]; exact Rd.nil _
def subE (a b : Nat) : Int := if a < b then 2 else 0
theorem subFrom_nil (a a' : Option Addr) (cap cap' : Nat) (w : World) :
    Calls Tryd.prog 47 #[.slice a 0 cap, .slice a' 0 cap'] w fun e w' => e = .returned (.tuple #[]) ∧ w = w' := by
  go_enter Tryd.func47, Tryd.ntmps47
  go_wp2
  refine wp_loop_rounds 1 ?_; rw [rounds_succ]
  go_wp2
  refine wp_loop_rounds 1 ?_; rw [rounds_succ]
  go_wp2
  go_end0
  exact ⟨rfl, rfl⟩
theorem cmpv_neg' {a b : Nat} (h : cmpv a b < 0) : a < b := by unfold cmpv at h; split at h <;> (try split at h) <;> omega
set_option maxHeartbeats 800000 in
theorem sub_c (a a' : Option Addr) (len cap len' cap' : Nat) (l t : List Nat) (w : World) (h : Rd w a len cap l) (h' : Rd w a' len' cap' t) (hb : len ≤ 1048576) (hb' : len' ≤ 1048576) :
    Calls Tryd.prog 30 #[.slice a len cap, .slice a' len' cap'] w (NEPost (nv l - nv t) (subE (nv l) (nv t)) w) := by
  have H := Lib.hid h
  have H' := Lib.hid h'
  have HC := Lib.hid (cmp_c _ _ _ _ _ _ _ _ w h h')
  by_cases hlt : nv l < nv t
  · have e1 : Hid (nv l - nv t = 0) := Lib.hid (by omega)
    have e2 : Hid (subE (nv l) (nv t) = 2) := Lib.hid (if_pos hlt)
    have e3 : Hid (cmpv (nv l) (nv t) = -1) := Lib.hid (cmpv_lt hlt)
    rw [e1.out, e2.out]
    rw [e3.out] at HC
    clear h h' hlt
    go_enter Tryd.func30, Tryd.ntmps30
    go_wp2_with (go_at_call 26; refine HC.out.mono ?_; rintro e w1 ⟨rfl, hdr⟩)
    go_ret2
    exact NEPost.nil (hdr.below (Below.refl _ _))
  · have e2 : Hid (subE (nv l) (nv t) = 0) := Lib.hid (if_neg hlt)
    obtain ⟨z, hz⟩ : ∃ z, cmpv (nv l) (nv t) = z := ⟨_, rfl⟩
    have hz0 : ¬ z < 0 := by rw [← hz]; intro h; exact hlt (cmpv_neg' h)
    rw [hz] at HC
    rw [e2.out]
    have HT := h.trimmed
    have HT' := h'.trimmed
    have hle := dig_length_le h.lim
    rw [h.len_eq] at hle
    have hlen := dig_len_le (show nv t ≤ nv l by omega)
    obtain ⟨x, hx⟩ : ∃ x, dig (nv l) = x := ⟨_, rfl⟩
    obtain ⟨y, hy⟩ : ∃ y, dig (nv t) = y := ⟨_, rfl⟩
    have hX : Hid (nv x = nv l) := Lib.hid (by rw [← hx, nv_dig])
    have hY : Hid (nv y = nv t) := Lib.hid (by rw [← hy, nv_dig])
    have HGE : Hid (nv y ≤ nv x) := Lib.hid (by rw [hX.out, hY.out]; omega)
    obtain ⟨n, hn⟩ : ∃ n, x.length = n := ⟨_, rfl⟩
    obtain ⟨m, hm⟩ : ∃ m, y.length = m := ⟨_, rfl⟩
    have HX : Hid ((dig (nv l)).length = n) := Lib.hid (by rw [hx, hn])
    have HY : Hid ((dig (nv t)).length = m) := Lib.hid (by rw [hy, hm])
    have HN := Lib.hid hn
    rw [hx, hn] at HT hle
    rw [hy, hm] at HT'
    rw [hx, hy, hn, hm] at hlen
    have HRX := Lib.hid HT
    have HRY := Lib.hid HT'
    clear h h' hx hy hn hm HT HT' hlt hz
    go_enter Tryd.func30, Tryd.ntmps30
    go_wp2_with fail
    refine HC.out.mono ?_
    rintro e w1 ⟨rfl, hdr⟩
    have H1 := Lib.hid (hdr.rd H.out)
    have H1' := Lib.hid (hdr.rd H'.out)
    have HRX1 := Lib.hid (hdr.rd HRX.out)
    have HRY1 := Lib.hid (hdr.rd HRY.out)
    have hb0 := hdr.below (Below.refl w.heap.size w)
    have hsz : w.heap.size ≤ w1.heap.size := hb0.size
    go_wp2_with fail
    refine (trim_c _ _ _ l _ H1.out).mono ?_
    rw [HX.out]
    rintro e w' ⟨rfl, rfl⟩
    go_wp2_with fail
    refine (trim_c _ _ _ t _ H1'.out).mono ?_
    rw [HY.out]
    rintro e w' ⟨rfl, rfl⟩
    go_wp2_with fail
    refine (clone_c _ _ _ _ _ HRX1.out (by omega)).mono ?_
    rintro e w2 ⟨v, rfl, ho, hl, hb2⟩
    by_cases hx0 : x = []
    · subst hx0
      have hn0 : n = 0 := HN.out.symm
      subst hn0
      have hm0 : m = 0 := by omega
      subst hm0
      obtain ⟨va, vc, rfl⟩ := own_slice ho
      obtain ⟨va', vc', hv, hr⟩ := Rd.owns ho hl
      injection hv with hv1 hv2 hv3
      subst hv1
      subst hv3
      have e4 : Hid (nv l - nv t = nv []) := Lib.hid (by rw [← hX.out]; simp [nv])
      have HR := Lib.hid hr
      clear ho hr hv2
      go_wp2_with fail
      refine (subFrom_nil _ _ _ _ _).mono ?_
      rintro e w3 ⟨rfl, rfl⟩
      go_wp2_with fail
      refine (trim_c _ _ _ _ _ HR.out).mono ?_
      rintro e w3 ⟨rfl, rfl⟩
      go_wp2_with fail
      go_ret2
      rw [e4.out]
      exact ⟨_, _, rfl, HR.out.trimmed, hb0.trans (hb2.mono hsz)⟩
    · obtain ⟨va, vc, rfl⟩ := own_slice ho
      obtain ⟨g, rfl, hg, hg2, hc1, hc2, hwin⟩ := Win.owns ho hl hx0
      rw [HN.out] at hwin hc1 ⊢
      have HW := Lib.hid hwin
      have HRY2 := Lib.hid (HRY1.out.below hb2)
      have HF := Lib.hid (HRY1.out.far hg)
      have hb3 := hb0.trans (hb2.mono hsz)
      clear ho hwin
      go_wp2_with fail
      refine (subFrom_c _ _ _ _ _ _ _ _ _ _ HW.out hc1 hc2 HRY2.out HF.out hlen HGE.out).mono ?_
      rintro e w3 ⟨rfl, L, hwin3, hL, ho3⟩
      rw [hX.out, hY.out] at hL
      have HW3 := Lib.hid hwin3
      have hb4 := hb3.trans (ho3.below (show w.heap.size ≤ g by omega))
      have HL := Lib.hid hL
      clear hwin3 ho3 hL
      go_wp2_with fail
      refine (trim_c _ _ _ _ _ (HW3.out.rd hc1 hc2)).mono ?_
      rintro e w4 ⟨rfl, rfl⟩
      go_wp2_with fail
      go_ret2
      rw [← HL.out]
      exact ⟨_, _, rfl, (HW3.out.rd hc1 hc2).trimmed, hb4⟩
end Go.Proofs.YtgoiechhhnhgaaaDoor
