/- Walks of layer 3: the reference, the integers' DivMod (not negative), Div. -/
import Derived.Test.YtjkfnnoakjdgmaaGreatDoorRR2
namespace Go.Proofs.YtjkfnnoakjdgmaaGreatDoor
open Go.RowKit
set_option linter.unusedVariables false
set_option maxHeartbeats 1000000 in
theorem ridm_0 {w : World} {a a' : Option Addr} {len cap len' cap' n m k : Nat} (hm : Nm w (.slice a len cap) n k) (hm' : Nm w (.slice a' len' cap') m k) (hk : k ≤ 500000) (h0 : m ≠ 0) :
    Calls Tryz.prog 68 #[.agg #[.bool false, .slice a len cap], .agg #[.bool false, .slice a' len' cap']] w (ZPost (iv false (n / m)) (iv false (n % m)) 0 w) := by
  obtain ⟨B0, B1, B2, B3, K⟩ := dm_boxes w false a len cap false a' len' cap'
  have DM := Lib.hid (rdm_c (hm.keep K) (hm'.keep K) hk)
  have HM' := Lib.hid (hm'.keep K)
  have hQ : n / m < BB ^ k := Nat.lt_of_le_of_lt (Nat.div_le_self _ _) hm.lt
  have hR : n % m < BB ^ k := Nat.lt_of_lt_of_le (Nat.mod_lt _ (by omega)) (Nat.le_of_lt hm'.lt)
  unfold DmQ at DM
  rw [show dmE m = 0 from if_neg h0, show dmR n m = n % m from if_neg h0] at DM
  obtain ⟨zq, hzq⟩ : ∃ z, iv false (n / m) = z := ⟨_, rfl⟩
  obtain ⟨zr, hzr⟩ : ∃ z, iv false (n % m) = z := ⟨_, rfl⟩
  obtain ⟨Q, hQe⟩ : ∃ Q, (n / m) = Q := ⟨_, rfl⟩
  obtain ⟨R, hRe⟩ : ∃ R, (n % m) = R := ⟨_, rfl⟩
  have SQ := Lib.hid (fun w1 u (hu : Cn w1 u Q) => rimake_c false (hu.nm (show Q < BB ^ k from hQe ▸ hQ)) (by omega))
  have SR := Lib.hid (fun w1 u (hu : Cn w1 u R) => rimake_c false (hu.nm (show R < BB ^ k from hRe ▸ hR)) (by omega))
  have EQ := Lib.hid hQe
  have ER := Lib.hid hRe
  have hzQ : iv false Q = zq := by rw [← hQe]; exact hzq
  have hzR : iv false R = zr := by rw [← hRe]; exact hzr
  rw [hzQ] at SQ
  rw [hzR] at SR
  rw [hzq, hzr]
  have hd0 : ((dig (n % m)).length = 0) ↔ n % m = 0 := dig_len_pos
  have HB := Lib.hid (And.intro hQ hR)
  unfold dmW at *
  clear hm hm' hzq hzr hQe hRe hQ hR hzQ hzR
  go_enter Tryz.func68, Tryz.ntmps68
  go_wp2_with fail
  refine Calls.mono DM.out ?_
  rintro e w1 ⟨x, y, rfl, hx, hy, k1⟩
  have Kc := K.trans k1
  have C0 := B0.keep k1
  have C1 := B1.keep k1
  have C2 := B2.keep k1
  have C3 := B3.keep k1
  have M1 := Lib.hid (HM'.out.keep k1)
  obtain ⟨ya, yc, rfl, hyr⟩ := hy.form
  obtain ⟨dy, hdy⟩ : ∃ d, (dig (n % m)).length = d := ⟨_, rfl⟩
  have HY := Lib.hid hy
  rw [hdy] at hyr HY hd0 ⊢
  have HDY := Lib.hid hdy
  have y5 := hyr.le_cap
  have y6 := hyr.cap_le
  have HX := Lib.hid hx
  clear B0 B1 B2 B3 K k1 hx hy hyr hdy
  obtain ⟨s0, s1, _, _, _⟩ := C0
  obtain ⟨s2, s3, _, _, _⟩ := C1
  have D2 := C2
  have D3 := C3
  have Kd := Kc
  have X4 := HX.out
  have hy4 := HY.out
  rw [EQ.out] at X4
  rw [ER.out] at hy4
  clear C2 C3 Kc h0 hd0
  go_wp2_with fail
  refine Calls.mono (SQ.out _ _ X4) ?_
  rintro e w5 ⟨uq, rfl, huq, k5⟩
  have Y5 := Lib.hid (hy4.keep k5)
  go_wp2_with fail
  refine Calls.mono (SR.out _ _ Y5.out) ?_
  rintro e w6 ⟨ur, rfl, hur, k6⟩
  have huq6 := huq.keep k6
  have k56 := k5.trans k6
  obtain ⟨xa, xn, xc, lx, rfl, hxr, hxci⟩ := huq6.form
  obtain ⟨za, zn, zc, lz, rfl, hzr, hzci⟩ := hur.form
  have F2 := D2.keep k56
  have F3 := D3.keep k56
  obtain ⟨bq, hbq⟩ : ∃ b, decide (zq < 0) = b := ⟨_, rfl⟩
  obtain ⟨br, hbr⟩ : ∃ b, decide (zr < 0) = b := ⟨_, rfl⟩
  obtain ⟨hs1, hs2, r0, r1⟩ := F2.store (Kd.trans k56) (by omega) (.bool bq) (.slice xa xn xc)
  have G3 := F3.other (g := w.heap.size + 2) (by omega) 0 1 (.bool bq) (.slice xa xn xc)
  obtain ⟨hs3, hs4, r2, r3⟩ := G3.store hs1 (by omega) (.bool br) (.slice za zn zc)
  have hU := hxci _ (hs4 _ _ _ _ (hs2 _ _ _ _ hxr))
  have hV := hzci _ (hs4 _ _ _ _ (hs2 _ _ _ _ hzr))
  rw [hbq] at hU
  rw [hbr] at hV
  have FIN := Lib.hid (show ZPost zq zr 0 w (.returned (.tuple #[.agg #[.bool bq, .slice xa xn xc], .agg #[.bool br, .slice za zn zc], .int .i64 0])) _ from ⟨_, _, rfl, hU, hV, hs3⟩)
  rw [hbq, hbr]
  obtain ⟨q0, q1, q2, q3, _⟩ := F2
  obtain ⟨p0, p1, p2, p3, _⟩ := F3
  clear hs1 hs2 hs3 hs4 D2 D3 G3 Kd k5 k6 k56 huq huq6 hur hxr hzr hxci hzci hbq hbr hU hV
  go_wp2
  refine bodyPost_ret (v := .tuple #[.agg #[.bool bq, .slice xa xn xc], .agg #[.bool br, .slice za zn zc], .int .i64 0]) (by simp [results, Tryz.results68, go_sem, r0, r1, r2, r3]) rfl ?_
  exact FIN.out
end Go.Proofs.YtjkfnnoakjdgmaaGreatDoor
