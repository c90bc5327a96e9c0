/- Carried over from another seat by program (portn.py). -/
import Derived.Test.YtnalmjbgkedcoaaDoorIC
import Derived.Deep.RegionHeld3
namespace Go.Proofs.YtnalmjbgkedcoaaDoor
open Go.RowKit
set_option linter.unusedVariables false
/-- quotient, remainder and error of a division -/
def zQ (x y : Int) : Int := if y = 0 then 0 else x / y
def zR (x y : Int) : Int := if y = 0 then 0 else x % y
def zE (y : Int) : Int := if y = 0 then 3 else 0
def ZPost (q r err : Int) (w : World) (e : Ending) (w' : World) : Prop := ∃ u v, e = .returned (.tuple #[u, v, .int .i64 err]) ∧ Ci w' u q ∧ Ci w' v r ∧ Keep w w'
theorem RBox.other {g g' : Nat} {u0 u1 : Value} {w : World} (h : RBox g' u0 u1 w) (hne : g ≠ g') (i j : Nat) (u v : Value) : RBox g' u0 u1 ((w.setCell ⟨g, i, none⟩ u).setCell ⟨g, j, none⟩ v) := by
  refine ⟨?_, ?_, ?_, ?_, fun k x => ?_⟩
  · rw [World.cell?_setCell_other _ _ _ _ (by simp <;> omega), World.cell?_setCell_other _ _ _ _ (by simp <;> omega)]; exact h.c0
  · rw [World.cell?_setCell_other _ _ _ _ (by simp <;> omega), World.cell?_setCell_other _ _ _ _ (by simp <;> omega)]; exact h.c1
  · simpa using h.f0
  · simpa using h.f1
  · rw [World.cell?_setCell_other _ _ _ _ (by simp <;> omega), World.cell?_setCell_other _ _ _ _ (by simp <;> omega)]; exact h.no k x
theorem RBox.ofKeep {g : Nat} {u0 u1 : Value} {w w' : World} (h : RBox g u0 u1 w) (k : Keep w w') : RBox g u0 u1 w' := h.keep k
/-- the four boxes of DivMod -/
def dmW (w : World) (s : Bool) (a : Option Addr) (n c : Nat) (s' : Bool) (a' : Option Addr) (n' c' : Nat) : World :=
  (((w.alloc (.cells #[.bool s, .slice a n c] 51)).alloc (.cells #[.bool s', .slice a' n' c'] 51)).alloc (.cells #[.bool false, .slice none 0 0] 51)).alloc (.cells #[.bool false, .slice none 0 0] 51)
theorem sz3 (w : World) (o o' o'' : Obj) : (((w.alloc o).alloc o').alloc o'').heap.size = w.heap.size + 3 := by simp
theorem dm_boxes (w : World) (s : Bool) (a : Option Addr) (n c : Nat) (s' : Bool) (a' : Option Addr) (n' c' : Nat) :
    RBox w.heap.size (.bool s) (.slice a n c) (dmW w s a n c s' a' n' c') ∧ RBox (w.heap.size + 1) (.bool s') (.slice a' n' c') (dmW w s a n c s' a' n' c') ∧
    RBox (w.heap.size + 2) (.bool false) (.slice none 0 0) (dmW w s a n c s' a' n' c') ∧ RBox (w.heap.size + 3) (.bool false) (.slice none 0 0) (dmW w s a n c s' a' n' c') ∧ Keep w (dmW w s a n c s' a' n' c') :=
  ⟨(RBox.new w s a n c).keep ((((Keep.refl _).alloc _).alloc _).alloc _), ((RBox.new (w.alloc _) s' a' n' c').at (sz1 _ _)).keep (((Keep.refl _).alloc _).alloc _),
   ((RBox.new ((w.alloc _).alloc _) false none 0 0).at (sz2 _ _ _)).keep ((Keep.refl _).alloc _), (RBox.new (((w.alloc _).alloc _).alloc _) false none 0 0).at (sz3 _ _ _ _), ((((Keep.refl w).alloc _).alloc _).alloc _).alloc _⟩
set_option maxHeartbeats 800000 in
theorem idm_zero {w : World} {s s' : Bool} {a a' : Option Addr} {len cap len' cap' n k k' : Nat} (hm : Nm w (.slice a len cap) n k) (hm' : Nm w (.slice a' len' cap') 0 k') (hk : k ≤ 1048575) :
    Calls Tryd.prog 48 #[.agg #[.bool s, .slice a len cap], .agg #[.bool s', .slice a' len' cap']] w (ZPost 0 0 3 w) := by
  obtain ⟨_, _, B2, B3, K⟩ := dm_boxes w s a len cap s' a' len' cap'
  have DM := Lib.hid (divMod_n (hm.keep K) (hm'.keep K) hk)
  rw [show dmE 0 = 3 from rfl] at DM
  unfold dmW at *
  clear hm hm'
  go_enter Tryd.func48, Tryd.ntmps48
  go_wp2_with fail
  refine Calls.mono DM.out ?_
  rintro e w1 ⟨x, y, rfl, _, _, k1⟩
  have C2 := B2.keep k1
  have C3 := B3.keep k1
  obtain ⟨hs1, hs2, r0, r1⟩ := C2.store (K.trans k1) (by omega) (.bool false) (.slice none 0 0)
  have D3 := C3.other (g := w.heap.size + 2) (by omega) 0 1 (.bool false) (.slice none 0 0)
  obtain ⟨hs3, hs4, r2, r3⟩ := D3.store hs1 (by omega) (.bool false) (.slice none 0 0)
  have FIN := Lib.hid (show ZPost 0 0 3 w (.returned (.tuple #[.agg #[.bool false, .slice none 0 0], .agg #[.bool false, .slice none 0 0], .int .i64 3])) _ from ⟨_, _, rfl, ⟨.slice none 0 0, rfl, none, 0, 0, rfl, by rw [show dig (Int.natAbs 0) = [] from dig_zero]; exact Rd.nil _⟩, ⟨.slice none 0 0, rfl, none, 0, 0, rfl, by rw [show dig (Int.natAbs 0) = [] from dig_zero]; exact Rd.nil _⟩, hs3⟩)
  obtain ⟨q0, q1, q2, q3, _⟩ := C2
  obtain ⟨p0, p1, p2, p3, _⟩ := C3
  clear hs1 hs2 hs3 hs4 B2 B3 D3 K k1
  go_wp2
  refine bodyPost_ret (v := .tuple #[.agg #[.bool false, .slice none 0 0], .agg #[.bool false, .slice none 0 0], .int .i64 3]) (by simp [results, Tryd.results48, go_sem, r0, r1, r2, r3]) rfl ?_
  exact FIN.out
set_option maxHeartbeats 1000000 in
theorem idm_0 {w : World} {a a' : Option Addr} {len cap len' cap' n m k k' : Nat} (hm : Nm w (.slice a len cap) n k) (hm' : Nm w (.slice a' len' cap') m k') (hk : k ≤ 1048574) (hk' : k' ≤ 1048574) (h0 : m ≠ 0) :
    Calls Tryd.prog 48 #[.agg #[.bool false, .slice a len cap], .agg #[.bool false, .slice a' len' cap']] w (ZPost (iv false (n / m)) (iv false (n % m)) 0 w) := by
  obtain ⟨B0, B1, B2, B3, K⟩ := dm_boxes w false a len cap false a' len' cap'
  have DM := Lib.hid (divMod_n (hm.keep K) (hm'.keep K) (by omega))
  have HM' := Lib.hid (hm'.keep K)
  have hQ : n / m < BB ^ k := Nat.lt_of_le_of_lt (Nat.div_le_self _ _) hm.lt
  have hR : n % m < BB ^ k' := Nat.lt_of_lt_of_le (Nat.mod_lt _ (by omega)) (Nat.le_of_lt hm'.lt)
  rw [show dmE m = 0 from if_neg h0, show dmR n m = n % m from if_neg h0] at DM
  obtain ⟨zq, hzq⟩ : ∃ z, iv false (n / m) = z := ⟨_, rfl⟩
  obtain ⟨zr, hzr⟩ : ∃ z, iv false (n % m) = z := ⟨_, rfl⟩
  obtain ⟨Q, hQe⟩ : ∃ Q, (n / m) = Q := ⟨_, rfl⟩
  obtain ⟨R, hRe⟩ : ∃ R, (n % m) = R := ⟨_, rfl⟩
  have SQ := Lib.hid (fun w1 u (hu : Cn w1 u Q) => signed_c false hu)
  have SR := Lib.hid (fun w1 u (hu : Cn w1 u R) => signed_c false hu)
  have EQ := Lib.hid hQe
  have ER := Lib.hid hRe
  have hzQ : iv false Q = zq := by rw [← hQe]; exact hzq
  have hzR : iv false R = zr := by rw [← hRe]; exact hzr
  rw [hzQ] at SQ
  rw [hzR] at SR
  rw [hzq, hzr]
  have hd0 : ((dig (n % m)).length = 0) ↔ n % m = 0 := dig_len_pos
  have HB := Lib.hid (And.intro hQ hR)
  unfold dmW at *
  clear hm hm' hzq hzr hQe hRe hQ hR hzQ hzR
  go_enter Tryd.func48, Tryd.ntmps48
  go_wp2_with fail
  refine Calls.mono DM.out ?_
  rintro e w1 ⟨x, y, rfl, hx, hy, k1⟩
  have Kc := K.trans k1
  have C0 := B0.keep k1
  have C1 := B1.keep k1
  have C2 := B2.keep k1
  have C3 := B3.keep k1
  have M1 := Lib.hid (HM'.out.keep k1)
  obtain ⟨ya, yc, rfl, hyr⟩ := hy.form
  obtain ⟨dy, hdy⟩ : ∃ d, (dig (n % m)).length = d := ⟨_, rfl⟩
  have HY := Lib.hid hy
  rw [hdy] at hyr HY hd0 ⊢
  have HDY := Lib.hid hdy
  have y5 := hyr.le_cap
  have y6 := hyr.cap_le
  have HX := Lib.hid hx
  clear B0 B1 B2 B3 K k1 hx hy hyr hdy
  obtain ⟨s0, s1, _, _, _⟩ := C0
  obtain ⟨s2, s3, _, _, _⟩ := C1
  have D2 := C2
  have D3 := C3
  have Kd := Kc
  have X4 := HX.out
  have hy4 := HY.out
  rw [EQ.out] at X4
  rw [ER.out] at hy4
  clear C2 C3 Kc h0 hd0
  go_wp2_with fail
  refine Calls.mono (SQ.out _ _ X4) ?_
  rintro e w5 ⟨uq, rfl, huq, k5⟩
  have Y5 := Lib.hid (hy4.keep k5)
  go_wp2_with fail
  refine Calls.mono (SR.out _ _ Y5.out) ?_
  rintro e w6 ⟨ur, rfl, hur, k6⟩
  have huq6 := huq.keep k6
  have k56 := k5.trans k6
  obtain ⟨xa, xn, xc, lx, rfl, hxr, hxci⟩ := huq6.form
  obtain ⟨za, zn, zc, lz, rfl, hzr, hzci⟩ := hur.form
  have F2 := D2.keep k56
  have F3 := D3.keep k56
  obtain ⟨bq, hbq⟩ : ∃ b, decide (zq < 0) = b := ⟨_, rfl⟩
  obtain ⟨br, hbr⟩ : ∃ b, decide (zr < 0) = b := ⟨_, rfl⟩
  obtain ⟨hs1, hs2, r0, r1⟩ := F2.store (Kd.trans k56) (by omega) (.bool bq) (.slice xa xn xc)
  have G3 := F3.other (g := w.heap.size + 2) (by omega) 0 1 (.bool bq) (.slice xa xn xc)
  obtain ⟨hs3, hs4, r2, r3⟩ := G3.store hs1 (by omega) (.bool br) (.slice za zn zc)
  have hU := hxci _ (hs4 _ _ _ _ (hs2 _ _ _ _ hxr))
  have hV := hzci _ (hs4 _ _ _ _ (hs2 _ _ _ _ hzr))
  rw [hbq] at hU
  rw [hbr] at hV
  have FIN := Lib.hid (show ZPost zq zr 0 w (.returned (.tuple #[.agg #[.bool bq, .slice xa xn xc], .agg #[.bool br, .slice za zn zc], .int .i64 0])) _ from ⟨_, _, rfl, hU, hV, hs3⟩)
  rw [hbq, hbr]
  obtain ⟨q0, q1, q2, q3, _⟩ := F2
  obtain ⟨p0, p1, p2, p3, _⟩ := F3
  clear hs1 hs2 hs3 hs4 D2 D3 G3 Kd k5 k6 k56 huq huq6 hur hxr hzr hxci hzci hbq hbr hU hV
  go_wp2
  refine bodyPost_ret (v := .tuple #[.agg #[.bool bq, .slice xa xn xc], .agg #[.bool br, .slice za zn zc], .int .i64 0]) (by simp [results, Tryd.results48, go_sem, r0, r1, r2, r3]) rfl ?_
  exact FIN.out
set_option maxHeartbeats 1000000 in
theorem idm_1 {w : World} {a a' : Option Addr} {len cap len' cap' n m k k' : Nat} (hm : Nm w (.slice a len cap) n k) (hm' : Nm w (.slice a' len' cap') m k') (hk : k ≤ 1048574) (hk' : k' ≤ 1048574) (h0 : m ≠ 0) :
    Calls Tryd.prog 48 #[.agg #[.bool false, .slice a len cap], .agg #[.bool true, .slice a' len' cap']] w (ZPost (iv true (n / m)) (iv false (n % m)) 0 w) := by
  obtain ⟨B0, B1, B2, B3, K⟩ := dm_boxes w false a len cap true a' len' cap'
  have DM := Lib.hid (divMod_n (hm.keep K) (hm'.keep K) (by omega))
  have HM' := Lib.hid (hm'.keep K)
  have hQ : n / m < BB ^ k := Nat.lt_of_le_of_lt (Nat.div_le_self _ _) hm.lt
  have hR : n % m < BB ^ k' := Nat.lt_of_lt_of_le (Nat.mod_lt _ (by omega)) (Nat.le_of_lt hm'.lt)
  rw [show dmE m = 0 from if_neg h0, show dmR n m = n % m from if_neg h0] at DM
  obtain ⟨zq, hzq⟩ : ∃ z, iv true (n / m) = z := ⟨_, rfl⟩
  obtain ⟨zr, hzr⟩ : ∃ z, iv false (n % m) = z := ⟨_, rfl⟩
  obtain ⟨Q, hQe⟩ : ∃ Q, (n / m) = Q := ⟨_, rfl⟩
  obtain ⟨R, hRe⟩ : ∃ R, (n % m) = R := ⟨_, rfl⟩
  have SQ := Lib.hid (fun w1 u (hu : Cn w1 u Q) => signed_c true hu)
  have SR := Lib.hid (fun w1 u (hu : Cn w1 u R) => signed_c false hu)
  have EQ := Lib.hid hQe
  have ER := Lib.hid hRe
  have hzQ : iv true Q = zq := by rw [← hQe]; exact hzq
  have hzR : iv false R = zr := by rw [← hRe]; exact hzr
  rw [hzQ] at SQ
  rw [hzR] at SR
  rw [hzq, hzr]
  have hd0 : ((dig (n % m)).length = 0) ↔ n % m = 0 := dig_len_pos
  have HB := Lib.hid (And.intro hQ hR)
  unfold dmW at *
  clear hm hm' hzq hzr hQe hRe hQ hR hzQ hzR
  go_enter Tryd.func48, Tryd.ntmps48
  go_wp2_with fail
  refine Calls.mono DM.out ?_
  rintro e w1 ⟨x, y, rfl, hx, hy, k1⟩
  have Kc := K.trans k1
  have C0 := B0.keep k1
  have C1 := B1.keep k1
  have C2 := B2.keep k1
  have C3 := B3.keep k1
  have M1 := Lib.hid (HM'.out.keep k1)
  obtain ⟨ya, yc, rfl, hyr⟩ := hy.form
  obtain ⟨dy, hdy⟩ : ∃ d, (dig (n % m)).length = d := ⟨_, rfl⟩
  have HY := Lib.hid hy
  rw [hdy] at hyr HY hd0 ⊢
  have HDY := Lib.hid hdy
  have y5 := hyr.le_cap
  have y6 := hyr.cap_le
  have HX := Lib.hid hx
  clear B0 B1 B2 B3 K k1 hx hy hyr hdy
  obtain ⟨s0, s1, _, _, _⟩ := C0
  obtain ⟨s2, s3, _, _, _⟩ := C1
  have D2 := C2
  have D3 := C3
  have Kd := Kc
  have X4 := HX.out
  have hy4 := HY.out
  rw [EQ.out] at X4
  rw [ER.out] at hy4
  clear C2 C3 Kc h0 hd0
  go_wp2_with fail
  refine Calls.mono (SQ.out _ _ X4) ?_
  rintro e w5 ⟨uq, rfl, huq, k5⟩
  have Y5 := Lib.hid (hy4.keep k5)
  go_wp2_with fail
  refine Calls.mono (SR.out _ _ Y5.out) ?_
  rintro e w6 ⟨ur, rfl, hur, k6⟩
  have huq6 := huq.keep k6
  have k56 := k5.trans k6
  obtain ⟨xa, xn, xc, lx, rfl, hxr, hxci⟩ := huq6.form
  obtain ⟨za, zn, zc, lz, rfl, hzr, hzci⟩ := hur.form
  have F2 := D2.keep k56
  have F3 := D3.keep k56
  obtain ⟨bq, hbq⟩ : ∃ b, decide (zq < 0) = b := ⟨_, rfl⟩
  obtain ⟨br, hbr⟩ : ∃ b, decide (zr < 0) = b := ⟨_, rfl⟩
  obtain ⟨hs1, hs2, r0, r1⟩ := F2.store (Kd.trans k56) (by omega) (.bool bq) (.slice xa xn xc)
  have G3 := F3.other (g := w.heap.size + 2) (by omega) 0 1 (.bool bq) (.slice xa xn xc)
  obtain ⟨hs3, hs4, r2, r3⟩ := G3.store hs1 (by omega) (.bool br) (.slice za zn zc)
  have hU := hxci _ (hs4 _ _ _ _ (hs2 _ _ _ _ hxr))
  have hV := hzci _ (hs4 _ _ _ _ (hs2 _ _ _ _ hzr))
  rw [hbq] at hU
  rw [hbr] at hV
  have FIN := Lib.hid (show ZPost zq zr 0 w (.returned (.tuple #[.agg #[.bool bq, .slice xa xn xc], .agg #[.bool br, .slice za zn zc], .int .i64 0])) _ from ⟨_, _, rfl, hU, hV, hs3⟩)
  rw [hbq, hbr]
  obtain ⟨q0, q1, q2, q3, _⟩ := F2
  obtain ⟨p0, p1, p2, p3, _⟩ := F3
  clear hs1 hs2 hs3 hs4 D2 D3 G3 Kd k5 k6 k56 huq huq6 hur hxr hzr hxci hzci hbq hbr hU hV
  go_wp2
  refine bodyPost_ret (v := .tuple #[.agg #[.bool bq, .slice xa xn xc], .agg #[.bool br, .slice za zn zc], .int .i64 0]) (by simp [results, Tryd.results48, go_sem, r0, r1, r2, r3]) rfl ?_
  exact FIN.out
set_option maxHeartbeats 1000000 in
theorem idm_2 {w : World} {a a' : Option Addr} {len cap len' cap' n m k k' : Nat} (hm : Nm w (.slice a len cap) n k) (hm' : Nm w (.slice a' len' cap') m k') (hk : k ≤ 1048574) (hk' : k' ≤ 1048574) (h0 : m ≠ 0) (hp : n % m = 0) :
    Calls Tryd.prog 48 #[.agg #[.bool true, .slice a len cap], .agg #[.bool false, .slice a' len' cap']] w (ZPost (iv true (n / m)) (iv false (n % m)) 0 w) := by
  obtain ⟨B0, B1, B2, B3, K⟩ := dm_boxes w true a len cap false a' len' cap'
  have DM := Lib.hid (divMod_n (hm.keep K) (hm'.keep K) (by omega))
  have HM' := Lib.hid (hm'.keep K)
  have hQ : n / m < BB ^ k := Nat.lt_of_le_of_lt (Nat.div_le_self _ _) hm.lt
  have hR : n % m < BB ^ k' := Nat.lt_of_lt_of_le (Nat.mod_lt _ (by omega)) (Nat.le_of_lt hm'.lt)
  rw [show dmE m = 0 from if_neg h0, show dmR n m = n % m from if_neg h0] at DM
  obtain ⟨zq, hzq⟩ : ∃ z, iv true (n / m) = z := ⟨_, rfl⟩
  obtain ⟨zr, hzr⟩ : ∃ z, iv false (n % m) = z := ⟨_, rfl⟩
  obtain ⟨Q, hQe⟩ : ∃ Q, (n / m) = Q := ⟨_, rfl⟩
  obtain ⟨R, hRe⟩ : ∃ R, (n % m) = R := ⟨_, rfl⟩
  have SQ := Lib.hid (fun w1 u (hu : Cn w1 u Q) => signed_c true hu)
  have SR := Lib.hid (fun w1 u (hu : Cn w1 u R) => signed_c false hu)
  have EQ := Lib.hid hQe
  have ER := Lib.hid hRe
  have hzQ : iv true Q = zq := by rw [← hQe]; exact hzq
  have hzR : iv false R = zr := by rw [← hRe]; exact hzr
  rw [hzQ] at SQ
  rw [hzR] at SR
  rw [hzq, hzr]
  have hd0 : ((dig (n % m)).length = 0) ↔ n % m = 0 := dig_len_pos
  have HB := Lib.hid (And.intro hQ hR)
  unfold dmW at *
  clear hm hm' hzq hzr hQe hRe hQ hR hzQ hzR
  go_enter Tryd.func48, Tryd.ntmps48
  go_wp2_with fail
  refine Calls.mono DM.out ?_
  rintro e w1 ⟨x, y, rfl, hx, hy, k1⟩
  have Kc := K.trans k1
  have C0 := B0.keep k1
  have C1 := B1.keep k1
  have C2 := B2.keep k1
  have C3 := B3.keep k1
  have M1 := Lib.hid (HM'.out.keep k1)
  obtain ⟨ya, yc, rfl, hyr⟩ := hy.form
  obtain ⟨dy, hdy⟩ : ∃ d, (dig (n % m)).length = d := ⟨_, rfl⟩
  have HY := Lib.hid hy
  rw [hdy] at hyr HY hd0 ⊢
  have HDY := Lib.hid hdy
  have y5 := hyr.le_cap
  have y6 := hyr.cap_le
  have HX := Lib.hid hx
  clear B0 B1 B2 B3 K k1 hx hy hyr hdy
  have hdz : dy = 0 := hd0.2 hp
  subst hdz
  obtain ⟨s0, s1, _, _, _⟩ := C0
  obtain ⟨s2, s3, _, _, _⟩ := C1
  have D2 := C2
  have D3 := C3
  have Kd := Kc
  have X4 := HX.out
  have hy4 := HY.out
  rw [EQ.out] at X4
  rw [ER.out] at hy4
  clear C2 C3 Kc h0 hd0 hp
  go_wp2_with fail
  refine Calls.mono (SQ.out _ _ X4) ?_
  rintro e w5 ⟨uq, rfl, huq, k5⟩
  have Y5 := Lib.hid (hy4.keep k5)
  go_wp2_with fail
  refine Calls.mono (SR.out _ _ Y5.out) ?_
  rintro e w6 ⟨ur, rfl, hur, k6⟩
  have huq6 := huq.keep k6
  have k56 := k5.trans k6
  obtain ⟨xa, xn, xc, lx, rfl, hxr, hxci⟩ := huq6.form
  obtain ⟨za, zn, zc, lz, rfl, hzr, hzci⟩ := hur.form
  have F2 := D2.keep k56
  have F3 := D3.keep k56
  obtain ⟨bq, hbq⟩ : ∃ b, decide (zq < 0) = b := ⟨_, rfl⟩
  obtain ⟨br, hbr⟩ : ∃ b, decide (zr < 0) = b := ⟨_, rfl⟩
  obtain ⟨hs1, hs2, r0, r1⟩ := F2.store (Kd.trans k56) (by omega) (.bool bq) (.slice xa xn xc)
  have G3 := F3.other (g := w.heap.size + 2) (by omega) 0 1 (.bool bq) (.slice xa xn xc)
  obtain ⟨hs3, hs4, r2, r3⟩ := G3.store hs1 (by omega) (.bool br) (.slice za zn zc)
  have hU := hxci _ (hs4 _ _ _ _ (hs2 _ _ _ _ hxr))
  have hV := hzci _ (hs4 _ _ _ _ (hs2 _ _ _ _ hzr))
  rw [hbq] at hU
  rw [hbr] at hV
  have FIN := Lib.hid (show ZPost zq zr 0 w (.returned (.tuple #[.agg #[.bool bq, .slice xa xn xc], .agg #[.bool br, .slice za zn zc], .int .i64 0])) _ from ⟨_, _, rfl, hU, hV, hs3⟩)
  rw [hbq, hbr]
  obtain ⟨q0, q1, q2, q3, _⟩ := F2
  obtain ⟨p0, p1, p2, p3, _⟩ := F3
  clear hs1 hs2 hs3 hs4 D2 D3 G3 Kd k5 k6 k56 huq huq6 hur hxr hzr hxci hzci hbq hbr hU hV
  go_wp2
  refine bodyPost_ret (v := .tuple #[.agg #[.bool bq, .slice xa xn xc], .agg #[.bool br, .slice za zn zc], .int .i64 0]) (by simp [results, Tryd.results48, go_sem, r0, r1, r2, r3]) rfl ?_
  exact FIN.out
set_option maxHeartbeats 1000000 in
theorem idm_3 {w : World} {a a' : Option Addr} {len cap len' cap' n m k k' : Nat} (hm : Nm w (.slice a len cap) n k) (hm' : Nm w (.slice a' len' cap') m k') (hk : k ≤ 1048574) (hk' : k' ≤ 1048574) (h0 : m ≠ 0) (hp : n % m = 0) :
    Calls Tryd.prog 48 #[.agg #[.bool true, .slice a len cap], .agg #[.bool true, .slice a' len' cap']] w (ZPost (iv false (n / m)) (iv false (n % m)) 0 w) := by
  obtain ⟨B0, B1, B2, B3, K⟩ := dm_boxes w true a len cap true a' len' cap'
  have DM := Lib.hid (divMod_n (hm.keep K) (hm'.keep K) (by omega))
  have HM' := Lib.hid (hm'.keep K)
  have hQ : n / m < BB ^ k := Nat.lt_of_le_of_lt (Nat.div_le_self _ _) hm.lt
  have hR : n % m < BB ^ k' := Nat.lt_of_lt_of_le (Nat.mod_lt _ (by omega)) (Nat.le_of_lt hm'.lt)
  rw [show dmE m = 0 from if_neg h0, show dmR n m = n % m from if_neg h0] at DM
  obtain ⟨zq, hzq⟩ : ∃ z, iv false (n / m) = z := ⟨_, rfl⟩
  obtain ⟨zr, hzr⟩ : ∃ z, iv false (n % m) = z := ⟨_, rfl⟩
  obtain ⟨Q, hQe⟩ : ∃ Q, (n / m) = Q := ⟨_, rfl⟩
  obtain ⟨R, hRe⟩ : ∃ R, (n % m) = R := ⟨_, rfl⟩
  have SQ := Lib.hid (fun w1 u (hu : Cn w1 u Q) => signed_c false hu)
  have SR := Lib.hid (fun w1 u (hu : Cn w1 u R) => signed_c false hu)
  have EQ := Lib.hid hQe
  have ER := Lib.hid hRe
  have hzQ : iv false Q = zq := by rw [← hQe]; exact hzq
  have hzR : iv false R = zr := by rw [← hRe]; exact hzr
  rw [hzQ] at SQ
  rw [hzR] at SR
  rw [hzq, hzr]
  have hd0 : ((dig (n % m)).length = 0) ↔ n % m = 0 := dig_len_pos
  have HB := Lib.hid (And.intro hQ hR)
  unfold dmW at *
  clear hm hm' hzq hzr hQe hRe hQ hR hzQ hzR
  go_enter Tryd.func48, Tryd.ntmps48
  go_wp2_with fail
  refine Calls.mono DM.out ?_
  rintro e w1 ⟨x, y, rfl, hx, hy, k1⟩
  have Kc := K.trans k1
  have C0 := B0.keep k1
  have C1 := B1.keep k1
  have C2 := B2.keep k1
  have C3 := B3.keep k1
  have M1 := Lib.hid (HM'.out.keep k1)
  obtain ⟨ya, yc, rfl, hyr⟩ := hy.form
  obtain ⟨dy, hdy⟩ : ∃ d, (dig (n % m)).length = d := ⟨_, rfl⟩
  have HY := Lib.hid hy
  rw [hdy] at hyr HY hd0 ⊢
  have HDY := Lib.hid hdy
  have y5 := hyr.le_cap
  have y6 := hyr.cap_le
  have HX := Lib.hid hx
  clear B0 B1 B2 B3 K k1 hx hy hyr hdy
  have hdz : dy = 0 := hd0.2 hp
  subst hdz
  obtain ⟨s0, s1, _, _, _⟩ := C0
  obtain ⟨s2, s3, _, _, _⟩ := C1
  have D2 := C2
  have D3 := C3
  have Kd := Kc
  have X4 := HX.out
  have hy4 := HY.out
  rw [EQ.out] at X4
  rw [ER.out] at hy4
  clear C2 C3 Kc h0 hd0 hp
  go_wp2_with fail
  refine Calls.mono (SQ.out _ _ X4) ?_
  rintro e w5 ⟨uq, rfl, huq, k5⟩
  have Y5 := Lib.hid (hy4.keep k5)
  go_wp2_with fail
  refine Calls.mono (SR.out _ _ Y5.out) ?_
  rintro e w6 ⟨ur, rfl, hur, k6⟩
  have huq6 := huq.keep k6
  have k56 := k5.trans k6
  obtain ⟨xa, xn, xc, lx, rfl, hxr, hxci⟩ := huq6.form
  obtain ⟨za, zn, zc, lz, rfl, hzr, hzci⟩ := hur.form
  have F2 := D2.keep k56
  have F3 := D3.keep k56
  obtain ⟨bq, hbq⟩ : ∃ b, decide (zq < 0) = b := ⟨_, rfl⟩
  obtain ⟨br, hbr⟩ : ∃ b, decide (zr < 0) = b := ⟨_, rfl⟩
  obtain ⟨hs1, hs2, r0, r1⟩ := F2.store (Kd.trans k56) (by omega) (.bool bq) (.slice xa xn xc)
  have G3 := F3.other (g := w.heap.size + 2) (by omega) 0 1 (.bool bq) (.slice xa xn xc)
  obtain ⟨hs3, hs4, r2, r3⟩ := G3.store hs1 (by omega) (.bool br) (.slice za zn zc)
  have hU := hxci _ (hs4 _ _ _ _ (hs2 _ _ _ _ hxr))
  have hV := hzci _ (hs4 _ _ _ _ (hs2 _ _ _ _ hzr))
  rw [hbq] at hU
  rw [hbr] at hV
  have FIN := Lib.hid (show ZPost zq zr 0 w (.returned (.tuple #[.agg #[.bool bq, .slice xa xn xc], .agg #[.bool br, .slice za zn zc], .int .i64 0])) _ from ⟨_, _, rfl, hU, hV, hs3⟩)
  rw [hbq, hbr]
  obtain ⟨q0, q1, q2, q3, _⟩ := F2
  obtain ⟨p0, p1, p2, p3, _⟩ := F3
  clear hs1 hs2 hs3 hs4 D2 D3 G3 Kd k5 k6 k56 huq huq6 hur hxr hzr hxci hzci hbq hbr hU hV
  go_wp2
  refine bodyPost_ret (v := .tuple #[.agg #[.bool bq, .slice xa xn xc], .agg #[.bool br, .slice za zn zc], .int .i64 0]) (by simp [results, Tryd.results48, go_sem, r0, r1, r2, r3]) rfl ?_
  exact FIN.out
set_option maxHeartbeats 1000000 in
theorem idm_4 {w : World} {a a' : Option Addr} {len cap len' cap' n m k k' : Nat} (hm : Nm w (.slice a len cap) n k) (hm' : Nm w (.slice a' len' cap') m k') (hk : k ≤ 1048574) (hk' : k' ≤ 1048574) (h0 : m ≠ 0) (hp : n % m ≠ 0) :
    Calls Tryd.prog 48 #[.agg #[.bool true, .slice a len cap], .agg #[.bool false, .slice a' len' cap']] w (ZPost (iv true (n / m + 1)) (iv false (m - n % m)) 0 w) := by
  obtain ⟨B0, B1, B2, B3, K⟩ := dm_boxes w true a len cap false a' len' cap'
  have DM := Lib.hid (divMod_n (hm.keep K) (hm'.keep K) (by omega))
  have HM' := Lib.hid (hm'.keep K)
  have hQ : n / m < BB ^ k := Nat.lt_of_le_of_lt (Nat.div_le_self _ _) hm.lt
  have hR : n % m < BB ^ k' := Nat.lt_of_lt_of_le (Nat.mod_lt _ (by omega)) (Nat.le_of_lt hm'.lt)
  rw [show dmE m = 0 from if_neg h0, show dmR n m = n % m from if_neg h0] at DM
  obtain ⟨zq, hzq⟩ : ∃ z, iv true (n / m + 1) = z := ⟨_, rfl⟩
  obtain ⟨zr, hzr⟩ : ∃ z, iv false (m - n % m) = z := ⟨_, rfl⟩
  obtain ⟨Q, hQe⟩ : ∃ Q, (n / m + 1) = Q := ⟨_, rfl⟩
  obtain ⟨R, hRe⟩ : ∃ R, (m - n % m) = R := ⟨_, rfl⟩
  have SQ := Lib.hid (fun w1 u (hu : Cn w1 u Q) => signed_c true hu)
  have SR := Lib.hid (fun w1 u (hu : Cn w1 u R) => signed_c false hu)
  have EQ := Lib.hid hQe
  have ER := Lib.hid hRe
  have hzQ : iv true Q = zq := by rw [← hQe]; exact hzq
  have hzR : iv false R = zr := by rw [← hRe]; exact hzr
  rw [hzQ] at SQ
  rw [hzR] at SR
  rw [hzq, hzr]
  have hd0 : ((dig (n % m)).length = 0) ↔ n % m = 0 := dig_len_pos
  have HB := Lib.hid (And.intro hQ hR)
  unfold dmW at *
  clear hm hm' hzq hzr hQe hRe hQ hR hzQ hzR
  go_enter Tryd.func48, Tryd.ntmps48
  go_wp2_with fail
  refine Calls.mono DM.out ?_
  rintro e w1 ⟨x, y, rfl, hx, hy, k1⟩
  have Kc := K.trans k1
  have C0 := B0.keep k1
  have C1 := B1.keep k1
  have C2 := B2.keep k1
  have C3 := B3.keep k1
  have M1 := Lib.hid (HM'.out.keep k1)
  obtain ⟨ya, yc, rfl, hyr⟩ := hy.form
  obtain ⟨dy, hdy⟩ : ∃ d, (dig (n % m)).length = d := ⟨_, rfl⟩
  have HY := Lib.hid hy
  rw [hdy] at hyr HY hd0 ⊢
  have HDY := Lib.hid hdy
  have y5 := hyr.le_cap
  have y6 := hyr.cap_le
  have HX := Lib.hid hx
  clear B0 B1 B2 B3 K k1 hx hy hyr hdy
  have hyp0 : 0 < dy := by omega
  have hyd : decide (0 < (dy : Int)) = true := decide_eq_true (by omega)
  have OF := Lib.hid (fun w2 => of_n (w := w2) 1 (by decide))
  obtain ⟨q0, q1, _, _, _⟩ := C0
  clear h0 hp
  go_wp2_with fail
  refine Calls.mono (OF.out _) ?_
  rintro e w2 ⟨v1, rfl, h1, k2⟩
  have AD := Lib.hid (add_n ((HX.out.keep k2).nm HB.out.1) (h1.nm (k := 1) (by decide)) (by omega) (by omega))
  go_wp2_with fail
  refine Calls.mono AD.out ?_
  rintro e w3 ⟨x3, rfl, hx3, k3⟩
  have k23 := k2.trans k3
  have E0 := (show RBox w.heap.size (.bool true) (.slice a len cap) w1 from ⟨q0, q1, ‹_›, ‹_›, ‹_›⟩).keep k23
  obtain ⟨t0, t1, _, _, _⟩ := C1.keep k23
  have M3 := M1.out.keep k23
  have Y3 := HY.out.keep k23
  have SB := Lib.hid (sub_n M3 (Y3.nm HB.out.2) (by omega) (by omega))
  rw [ER.out] at SB
  clear M3 Y3 k2 k3
  go_wp2_with fail
  refine Calls.mono SB.out ?_
  rintro e w4 ⟨y4, rfl, hy4, k4⟩
  have k24 := k23.trans k4
  have X4 := hx3.keep k4
  rw [EQ.out] at X4
  obtain ⟨s0, s1, _, _, _⟩ := E0.keep k4
  obtain ⟨s2, s3, _, _, _⟩ := C1.keep k24
  have D2 := C2.keep k24
  have D3 := C3.keep k24
  have Kd := Kc.trans k24
  clear hx3 k23 k4 k24 Kc C1 C2 C3 E0
  go_wp2_with fail
  refine Calls.mono (SQ.out _ _ X4) ?_
  rintro e w5 ⟨uq, rfl, huq, k5⟩
  have Y5 := Lib.hid (hy4.keep k5)
  go_wp2_with fail
  refine Calls.mono (SR.out _ _ Y5.out) ?_
  rintro e w6 ⟨ur, rfl, hur, k6⟩
  have huq6 := huq.keep k6
  have k56 := k5.trans k6
  obtain ⟨xa, xn, xc, lx, rfl, hxr, hxci⟩ := huq6.form
  obtain ⟨za, zn, zc, lz, rfl, hzr, hzci⟩ := hur.form
  have F2 := D2.keep k56
  have F3 := D3.keep k56
  obtain ⟨bq, hbq⟩ : ∃ b, decide (zq < 0) = b := ⟨_, rfl⟩
  obtain ⟨br, hbr⟩ : ∃ b, decide (zr < 0) = b := ⟨_, rfl⟩
  obtain ⟨hs1, hs2, r0, r1⟩ := F2.store (Kd.trans k56) (by omega) (.bool bq) (.slice xa xn xc)
  have G3 := F3.other (g := w.heap.size + 2) (by omega) 0 1 (.bool bq) (.slice xa xn xc)
  obtain ⟨hs3, hs4, r2, r3⟩ := G3.store hs1 (by omega) (.bool br) (.slice za zn zc)
  have hU := hxci _ (hs4 _ _ _ _ (hs2 _ _ _ _ hxr))
  have hV := hzci _ (hs4 _ _ _ _ (hs2 _ _ _ _ hzr))
  rw [hbq] at hU
  rw [hbr] at hV
  have FIN := Lib.hid (show ZPost zq zr 0 w (.returned (.tuple #[.agg #[.bool bq, .slice xa xn xc], .agg #[.bool br, .slice za zn zc], .int .i64 0])) _ from ⟨_, _, rfl, hU, hV, hs3⟩)
  rw [hbq, hbr]
  obtain ⟨q0, q1, q2, q3, _⟩ := F2
  obtain ⟨p0, p1, p2, p3, _⟩ := F3
  clear hs1 hs2 hs3 hs4 D2 D3 G3 Kd k5 k6 k56 huq huq6 hur hxr hzr hxci hzci hbq hbr hU hV
  go_wp2
  refine bodyPost_ret (v := .tuple #[.agg #[.bool bq, .slice xa xn xc], .agg #[.bool br, .slice za zn zc], .int .i64 0]) (by simp [results, Tryd.results48, go_sem, r0, r1, r2, r3]) rfl ?_
  exact FIN.out
set_option maxHeartbeats 1000000 in
theorem idm_5 {w : World} {a a' : Option Addr} {len cap len' cap' n m k k' : Nat} (hm : Nm w (.slice a len cap) n k) (hm' : Nm w (.slice a' len' cap') m k') (hk : k ≤ 1048574) (hk' : k' ≤ 1048574) (h0 : m ≠ 0) (hp : n % m ≠ 0) :
    Calls Tryd.prog 48 #[.agg #[.bool true, .slice a len cap], .agg #[.bool true, .slice a' len' cap']] w (ZPost (iv false (n / m + 1)) (iv false (m - n % m)) 0 w) := by
  obtain ⟨B0, B1, B2, B3, K⟩ := dm_boxes w true a len cap true a' len' cap'
  have DM := Lib.hid (divMod_n (hm.keep K) (hm'.keep K) (by omega))
  have HM' := Lib.hid (hm'.keep K)
  have hQ : n / m < BB ^ k := Nat.lt_of_le_of_lt (Nat.div_le_self _ _) hm.lt
  have hR : n % m < BB ^ k' := Nat.lt_of_lt_of_le (Nat.mod_lt _ (by omega)) (Nat.le_of_lt hm'.lt)
  rw [show dmE m = 0 from if_neg h0, show dmR n m = n % m from if_neg h0] at DM
  obtain ⟨zq, hzq⟩ : ∃ z, iv false (n / m + 1) = z := ⟨_, rfl⟩
  obtain ⟨zr, hzr⟩ : ∃ z, iv false (m - n % m) = z := ⟨_, rfl⟩
  obtain ⟨Q, hQe⟩ : ∃ Q, (n / m + 1) = Q := ⟨_, rfl⟩
  obtain ⟨R, hRe⟩ : ∃ R, (m - n % m) = R := ⟨_, rfl⟩
  have SQ := Lib.hid (fun w1 u (hu : Cn w1 u Q) => signed_c false hu)
  have SR := Lib.hid (fun w1 u (hu : Cn w1 u R) => signed_c false hu)
  have EQ := Lib.hid hQe
  have ER := Lib.hid hRe
  have hzQ : iv false Q = zq := by rw [← hQe]; exact hzq
  have hzR : iv false R = zr := by rw [← hRe]; exact hzr
  rw [hzQ] at SQ
  rw [hzR] at SR
  rw [hzq, hzr]
  have hd0 : ((dig (n % m)).length = 0) ↔ n % m = 0 := dig_len_pos
  have HB := Lib.hid (And.intro hQ hR)
  unfold dmW at *
  clear hm hm' hzq hzr hQe hRe hQ hR hzQ hzR
  go_enter Tryd.func48, Tryd.ntmps48
  go_wp2_with fail
  refine Calls.mono DM.out ?_
  rintro e w1 ⟨x, y, rfl, hx, hy, k1⟩
  have Kc := K.trans k1
  have C0 := B0.keep k1
  have C1 := B1.keep k1
  have C2 := B2.keep k1
  have C3 := B3.keep k1
  have M1 := Lib.hid (HM'.out.keep k1)
  obtain ⟨ya, yc, rfl, hyr⟩ := hy.form
  obtain ⟨dy, hdy⟩ : ∃ d, (dig (n % m)).length = d := ⟨_, rfl⟩
  have HY := Lib.hid hy
  rw [hdy] at hyr HY hd0 ⊢
  have HDY := Lib.hid hdy
  have y5 := hyr.le_cap
  have y6 := hyr.cap_le
  have HX := Lib.hid hx
  clear B0 B1 B2 B3 K k1 hx hy hyr hdy
  have hyp0 : 0 < dy := by omega
  have hyd : decide (0 < (dy : Int)) = true := decide_eq_true (by omega)
  have OF := Lib.hid (fun w2 => of_n (w := w2) 1 (by decide))
  obtain ⟨q0, q1, _, _, _⟩ := C0
  clear h0 hp
  go_wp2_with fail
  refine Calls.mono (OF.out _) ?_
  rintro e w2 ⟨v1, rfl, h1, k2⟩
  have AD := Lib.hid (add_n ((HX.out.keep k2).nm HB.out.1) (h1.nm (k := 1) (by decide)) (by omega) (by omega))
  go_wp2_with fail
  refine Calls.mono AD.out ?_
  rintro e w3 ⟨x3, rfl, hx3, k3⟩
  have k23 := k2.trans k3
  have E0 := (show RBox w.heap.size (.bool true) (.slice a len cap) w1 from ⟨q0, q1, ‹_›, ‹_›, ‹_›⟩).keep k23
  obtain ⟨t0, t1, _, _, _⟩ := C1.keep k23
  have M3 := M1.out.keep k23
  have Y3 := HY.out.keep k23
  have SB := Lib.hid (sub_n M3 (Y3.nm HB.out.2) (by omega) (by omega))
  rw [ER.out] at SB
  clear M3 Y3 k2 k3
  go_wp2_with fail
  refine Calls.mono SB.out ?_
  rintro e w4 ⟨y4, rfl, hy4, k4⟩
  have k24 := k23.trans k4
  have X4 := hx3.keep k4
  rw [EQ.out] at X4
  obtain ⟨s0, s1, _, _, _⟩ := E0.keep k4
  obtain ⟨s2, s3, _, _, _⟩ := C1.keep k24
  have D2 := C2.keep k24
  have D3 := C3.keep k24
  have Kd := Kc.trans k24
  clear hx3 k23 k4 k24 Kc C1 C2 C3 E0
  go_wp2_with fail
  refine Calls.mono (SQ.out _ _ X4) ?_
  rintro e w5 ⟨uq, rfl, huq, k5⟩
  have Y5 := Lib.hid (hy4.keep k5)
  go_wp2_with fail
  refine Calls.mono (SR.out _ _ Y5.out) ?_
  rintro e w6 ⟨ur, rfl, hur, k6⟩
  have huq6 := huq.keep k6
  have k56 := k5.trans k6
  obtain ⟨xa, xn, xc, lx, rfl, hxr, hxci⟩ := huq6.form
  obtain ⟨za, zn, zc, lz, rfl, hzr, hzci⟩ := hur.form
  have F2 := D2.keep k56
  have F3 := D3.keep k56
  obtain ⟨bq, hbq⟩ : ∃ b, decide (zq < 0) = b := ⟨_, rfl⟩
  obtain ⟨br, hbr⟩ : ∃ b, decide (zr < 0) = b := ⟨_, rfl⟩
  obtain ⟨hs1, hs2, r0, r1⟩ := F2.store (Kd.trans k56) (by omega) (.bool bq) (.slice xa xn xc)
  have G3 := F3.other (g := w.heap.size + 2) (by omega) 0 1 (.bool bq) (.slice xa xn xc)
  obtain ⟨hs3, hs4, r2, r3⟩ := G3.store hs1 (by omega) (.bool br) (.slice za zn zc)
  have hU := hxci _ (hs4 _ _ _ _ (hs2 _ _ _ _ hxr))
  have hV := hzci _ (hs4 _ _ _ _ (hs2 _ _ _ _ hzr))
  rw [hbq] at hU
  rw [hbr] at hV
  have FIN := Lib.hid (show ZPost zq zr 0 w (.returned (.tuple #[.agg #[.bool bq, .slice xa xn xc], .agg #[.bool br, .slice za zn zc], .int .i64 0])) _ from ⟨_, _, rfl, hU, hV, hs3⟩)
  rw [hbq, hbr]
  obtain ⟨q0, q1, q2, q3, _⟩ := F2
  obtain ⟨p0, p1, p2, p3, _⟩ := F3
  clear hs1 hs2 hs3 hs4 D2 D3 G3 Kd k5 k6 k56 huq huq6 hur hxr hzr hxci hzci hbq hbr hU hV
  go_wp2
  refine bodyPost_ret (v := .tuple #[.agg #[.bool bq, .slice xa xn xc], .agg #[.bool br, .slice za zn zc], .int .i64 0]) (by simp [results, Tryd.results48, go_sem, r0, r1, r2, r3]) rfl ?_
  exact FIN.out

theorem edm {x m q r : Int} (hm : 0 < m) (h : r + m * q = x) (h0 : 0 ≤ r) (h1 : r < m) : (x / m = q ∧ x % m = r) ∧ (x / -m = -q ∧ x % -m = r) := by
  have e := (Int.ediv_emod_unique hm).2 ⟨h, h0, h1⟩
  exact ⟨e, by rw [Int.ediv_neg, e.1], by rw [Int.emod_neg, e.2]⟩
theorem dm_pos (n m : Nat) (h : m ≠ 0) : (n : Int) / m = ((n / m : Nat) : Int) ∧ (n : Int) % m = ((n % m : Nat) : Int) ∧ (n : Int) / -(m : Int) = -((n / m : Nat) : Int) ∧ (n : Int) % -(m : Int) = ((n % m : Nat) : Int) := by
  have e := Nat.div_add_mod n m
  have l := Nat.mod_lt n (Nat.pos_of_ne_zero h)
  obtain ⟨h1, h2⟩ := edm (x := n) (m := m) (q := ((n / m : Nat) : Int)) (r := ((n % m : Nat) : Int)) (by omega) (by rw [← Int.natCast_mul, ← Int.natCast_add, Nat.add_comm, e]) (by omega) (by omega)
  exact ⟨h1.1, h1.2, h2.1, h2.2⟩
theorem dm_neg0 (n m : Nat) (h : m ≠ 0) (hp : n % m = 0) : -(n : Int) / m = -((n / m : Nat) : Int) ∧ -(n : Int) % m = 0 ∧ -(n : Int) / -(m : Int) = ((n / m : Nat) : Int) ∧ -(n : Int) % -(m : Int) = 0 := by
  have e := Nat.div_add_mod n m
  obtain ⟨h1, h2⟩ := edm (x := -(n : Int)) (m := m) (q := -((n / m : Nat) : Int)) (r := 0) (by omega) (by
    rw [Int.mul_neg, ← Int.natCast_mul]
    omega) (by omega) (by omega)
  exact ⟨h1.1, h1.2, by rw [h2.1, Int.neg_neg], h2.2⟩
theorem dm_neg1 (n m : Nat) (h : m ≠ 0) (hp : n % m ≠ 0) : -(n : Int) / m = -((n / m + 1 : Nat) : Int) ∧ -(n : Int) % m = ((m - n % m : Nat) : Int) ∧ -(n : Int) / -(m : Int) = ((n / m + 1 : Nat) : Int) ∧ -(n : Int) % -(m : Int) = ((m - n % m : Nat) : Int) := by
  have e := Nat.div_add_mod n m
  have l := Nat.mod_lt n (Nat.pos_of_ne_zero h)
  obtain ⟨h1, h2⟩ := edm (x := -(n : Int)) (m := m) (q := -((n / m + 1 : Nat) : Int)) (r := ((m - n % m : Nat) : Int)) (by omega) (by
    rw [Int.mul_neg, ← Int.natCast_mul, Nat.mul_add, Nat.mul_one]
    omega) (by omega) (by omega)
  exact ⟨h1.1, h1.2, by rw [h2.1, Int.neg_neg], h2.2⟩
theorem ZPost.cast {q r err q' r' err' : Int} {w w' : World} {e : Ending} (h : ZPost q r err w e w') (h1 : q' = q) (h2 : r' = r) (h3 : err' = err) : ZPost q' r' err' w e w' := by
  subst h1 h2 h3; exact h
theorem idivmod_c {w : World} {v u : Value} {s s' : Bool} {n m k k' : Nat} (h : Im w v s n k) (h' : Im w u s' m k') (hk : k ≤ 1048574) (hk' : k' ≤ 1048574) :
    Calls Tryd.prog 48 #[v, u] w (ZPost (zQ (iv s n) (iv s' m)) (zR (iv s n) (iv s' m)) (zE (iv s' m)) w) := by
  obtain ⟨x, rfl, hm⟩ := h
  obtain ⟨a, len, cap, l, rfl, _, _, _⟩ := hm.form
  obtain ⟨y, rfl, hm'⟩ := h'
  obtain ⟨a', len', cap', l', rfl, _, _, _⟩ := hm'.form
  by_cases h0 : m = 0
  · subst h0
    have e0 : iv s' 0 = 0 := by cases s' <;> rfl
    rw [e0]
    exact (idm_zero hm hm' (by omega)).mono fun _ _ hh => hh
  · have e0 : iv s' m ≠ 0 := by cases s' <;> (simp [iv]; omega)
    have eQ : zQ (iv s n) (iv s' m) = iv s n / iv s' m := if_neg e0
    have eR : zR (iv s n) (iv s' m) = iv s n % iv s' m := if_neg e0
    have eE : zE (iv s' m) = 0 := if_neg e0
    rw [eQ, eR, eE]
    cases s
    · obtain ⟨h1, h2, h3, h4⟩ := dm_pos n m h0
      cases s'
      · exact (idm_0 hm hm' hk hk' h0).mono fun _ _ hh => hh.cast h1 h2 rfl
      · exact (idm_1 hm hm' hk hk' h0).mono fun _ _ hh => hh.cast h3 h4 rfl
    · by_cases hp : n % m = 0
      · obtain ⟨h1, h2, h3, h4⟩ := dm_neg0 n m h0 hp
        have hz : iv false (n % m) = 0 := by rw [hp]; rfl
        cases s'
        · exact (idm_2 hm hm' hk hk' h0 hp).mono fun _ _ hh => hh.cast h1 (h2.trans hz.symm) rfl
        · exact (idm_3 hm hm' hk hk' h0 hp).mono fun _ _ hh => hh.cast h3 (h4.trans hz.symm) rfl
      · obtain ⟨h1, h2, h3, h4⟩ := dm_neg1 n m h0 hp
        cases s'
        · exact (idm_4 hm hm' hk hk' h0 hp).mono fun _ _ hh => hh.cast h1 h2 rfl
        · exact (idm_5 hm hm' hk hk' h0 hp).mono fun _ _ hh => hh.cast h3 h4 rfl
/-- the order of two integers -/
def zC (x y : Int) : Int := if x < y then -1 else if x = y then 0 else 1
theorem bcell {W w1 : World} (hb : Below W.heap.size W w1) : ∀ b o v, W.cell? ⟨b, o, none⟩ = some v → w1.cell? ⟨b, o, none⟩ = some v :=
  fun b o v h => (hb.cell (World.block_lt_of_cell? W _ h)).trans h
theorem Keep.drew {w w' : World} (h : Keep w w') : Keep w w'.drew := Below.trans h ⟨rfl, rfl, rfl, Nat.le_refl _, fun _ _ => rfl⟩
theorem sgn_facts (z : Int) : (sgn z = -1 ∧ z < 0) ∨ (sgn z = 0 ∧ z = 0) ∨ (sgn z = 1 ∧ 0 < z) := by
  unfold sgn; split
  · exact .inl ⟨rfl, by omega⟩
  · split
    · exact .inr (.inl ⟨rfl, by omega⟩)
    · exact .inr (.inr ⟨rfl, by omega⟩)
end Go.Proofs.YtnalmjbgkedcoaaDoor
