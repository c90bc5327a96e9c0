/- Walks of layer 2: Make, Neg, Of, Sign, Valid, Same. -/
import Derived.Test.YtjkfnnoakjdgmaaA
namespace Go.Proofs.Ytjkfnnoakjdgmaa
open Go.RowKit
set_option linter.unusedVariables false
theorem sz1 (w : World) (o : Obj) : (w.alloc o).heap.size = w.heap.size + 1 := by simp
theorem sz2 (w : World) (o o' : Obj) : ((w.alloc o).alloc o').heap.size = w.heap.size + 2 := by simp
theorem Nm.form {w : World} {v : Value} {n k : Nat} (h : Nm w v n k) : ∃ a len cap l, v = .slice a len cap ∧ Rd w a len cap l ∧ nv l = n ∧ l.length ≤ k := by
  obtain ⟨l, ⟨a, len, cap, rfl, hr⟩, h1, h2⟩ := h
  exact ⟨a, len, cap, l, rfl, hr, h1, h2⟩
theorem Rd.nm {w : World} {a : Option Addr} {len cap : Nat} {l : List Nat} {k : Nat} (h : Rd w a len cap l) (hk : l.length ≤ k) : Nm w (.slice a len cap) (nv l) k := ⟨l, ⟨a, len, cap, rfl, h⟩, rfl, hk⟩
theorem iv_facts (s : Bool) {n d : Nat} (hd : (dig n).length = d) : decide (iv s n < 0) = (s && decide (0 < d)) ∧ (iv s n).natAbs = n := by
  have h0 : d = 0 ↔ n = 0 := by rw [← hd]; exact dig_len_pos
  cases s
  · refine ⟨?_, by unfold iv; simp⟩
    show decide ((n : Int) < 0) = _
    simp
  · refine ⟨?_, by unfold iv; simp⟩
    show decide (-(n : Int) < 0) = _
    simp only [Bool.true_and]
    congr 1
    apply propext
    omega
theorem natMake_c {w : World} {v : Value} {n k : Nat} (h : Nm w v n k) (hk : k ≤ 1048576) : Calls Try.prog 38 #[v] w fun e w' => ∃ a d c, e = .returned (.slice a d c) ∧ (dig n).length = d ∧ Rd w' a d c (dig n) ∧ Keep w w' := by
  refine (rmake_n h hk).mono ?_
  rintro e w' ⟨u, rfl, hu, kk⟩
  obtain ⟨a, cap, rfl, hr⟩ := hu.form
  exact ⟨a, _, cap, rfl, rfl, hr, kk⟩
set_option maxHeartbeats 400000 in
theorem rimake_c {w : World} {v : Value} {n k : Nat} (s : Bool) (h : Nm w v n k) (hk : k ≤ 1048576) : Calls Try.prog 13 #[.bool s, v] w (IPostZ (iv s n) w) := by
  have H := Lib.hid (h.keep ((Keep.refl w).alloc (.cells #[.bool false, .slice none 0 0] 25)))
  clear h
  have key : ∀ (b : Bool) (d : Nat), (dig n).length = d → b = (s && decide (0 < d)) → ∀ a0 c0 w1, Rd w1 a0 d c0 (dig n) → Keep (w.alloc (.cells #[.bool false, .slice none 0 0] 25)) w1 →
      IPostZ (iv s n) w (.returned (.agg #[.bool b, .slice a0 d c0])) ((w1.setCell ⟨w.heap.size, 0, none⟩ (.bool b)).setCell ⟨w.heap.size, 1, none⟩ (.slice a0 d c0)) := by
    intro b d hd hb a0 c0 w1 hr k1
    have B1 := (RBox.new w false none 0 0).keep k1
    obtain ⟨hs1, hs2, _, _⟩ := B1.store (((Keep.refl w).alloc _).trans k1) (Nat.le_refl _) (.bool b) (.slice a0 d c0)
    obtain ⟨f1, f2⟩ := iv_facts s hd
    refine ⟨_, rfl, ⟨.slice a0 d c0, by rw [f1, ← hb], ?_⟩, hs1⟩
    rw [f2]
    exact ⟨a0, d, c0, rfl, hs2 _ _ _ _ hr⟩
  have KEY := Lib.hid key
  clear key
  go_enter Try.func13, Try.ntmps13
  go_wp2_with fail
  refine Calls.mono (natMake_c H.out hk) ?_
  rintro e w1 ⟨a0, d, c0, rfl, hd, hr, k1⟩
  have B1 := (RBox.new w false none 0 0).keep k1
  have q5 := hr.le_cap
  have q6 := hr.cap_le
  cases s
  · have FIN := Lib.hid (KEY.out false d hd rfl a0 c0 w1 hr k1)
    obtain ⟨_, _, r0, r1⟩ := B1.store (((Keep.refl w).alloc _).trans k1) (Nat.le_refl _) (.bool false) (.slice a0 d c0)
    obtain ⟨q0, q1, q2, q3, _⟩ := B1
    clear hr k1 hd
    go_wp2
    refine bodyPost_ret (v := .agg #[.bool false, .slice a0 d c0]) (by simp [results, Try.results13, go_sem, r0, r1]) rfl ?_
    exact FIN.out
  · by_cases h0 : d = 0
    · subst h0
      have FIN := Lib.hid (KEY.out false 0 hd (by simp) a0 c0 w1 hr k1)
      obtain ⟨_, _, r0, r1⟩ := B1.store (((Keep.refl w).alloc _).trans k1) (Nat.le_refl _) (.bool false) (.slice a0 0 c0)
      obtain ⟨q0, q1, q2, q3, _⟩ := B1
      clear hr k1 hd
      go_wp2
      refine bodyPost_ret (v := .agg #[.bool false, .slice a0 0 c0]) (by simp [results, Try.results13, go_sem, r0, r1]) rfl ?_
      exact FIN.out
    · have hd1 : decide (0 < (d : Int)) = true := decide_eq_true (by omega)
      have hd2 : decide (0 < d) = true := decide_eq_true (by omega)
      have FIN := Lib.hid (KEY.out true d hd (by simp; omega) a0 c0 w1 hr k1)
      obtain ⟨_, _, r0, r1⟩ := B1.store (((Keep.refl w).alloc _).trans k1) (Nat.le_refl _) (.bool true) (.slice a0 d c0)
      obtain ⟨q0, q1, q2, q3, _⟩ := B1
      clear hr k1 hd
      go_wp2
      refine bodyPost_ret (v := .agg #[.bool true, .slice a0 d c0]) (by simp [results, Try.results13, go_sem, r0, r1]) rfl ?_
      exact FIN.out
set_option maxHeartbeats 400000 in
theorem ineg_c {w : World} {v : Value} {s : Bool} {n k : Nat} (h : Im w v s n k) (hk : k ≤ 1048576) : Calls Try.prog 27 #[v] w (IPostZ (-(iv s n)) w) := by
  obtain ⟨m, rfl, hm⟩ := h
  obtain ⟨a, len, cap, l, rfl, hr, hn, hl⟩ := hm.form
  obtain ⟨z, hz⟩ : ∃ z, -(iv s n) = z := ⟨_, rfl⟩
  have hzz : iv (!s) n = z := by rw [← hz]; cases s <;> simp [iv]
  have K1 : Keep w ((w.alloc (.cells #[.bool s, .slice a len cap] 25)).alloc (.cells #[.bool false, .slice none 0 0] 25)) := ((Keep.refl w).alloc _).alloc _
  have B1 : RBox (w.heap.size + 1) (.bool false) (.slice none 0 0) ((w.alloc (.cells #[.bool s, .slice a len cap] 25)).alloc (.cells #[.bool false, .slice none 0 0] 25)) := (RBox.new (w.alloc _) false none 0 0).at (sz1 _ _)
  have MK := Lib.hid (imake_c (!s) (hm.keep K1) hk)
  rw [hzz] at MK
  rw [hz]
  clear hm hr hn hl hz hzz
  go_enter Try.func27, Try.ntmps27
  go_wp2_with fail
  refine Calls.mono MK.out ?_
  rintro e w2 ⟨u, rfl, hu, k2⟩
  obtain ⟨a0, d0, c0, l0, rfl, hr, hci⟩ := hu.form
  have B2 := B1.keep k2
  have K2 := K1.trans k2
  obtain ⟨hs1, hs2, r0, r1⟩ := B2.store K2 (Nat.le_succ _) (.bool (decide (z < 0))) (.slice a0 d0 c0)
  have FIN := Lib.hid (show IPostZ z w (.returned (.agg #[.bool (decide (z < 0)), .slice a0 d0 c0])) _ from ⟨_, rfl, hci _ (hs2 _ _ _ _ hr), hs1⟩)
  obtain ⟨q0, q1, q2, q3, _⟩ := B2
  obtain ⟨sb, hsb⟩ : ∃ b, decide (z < 0) = b := ⟨_, rfl⟩
  rw [hsb] at FIN r0 r1 ⊢
  clear hs1 hs2 hr hci hu k2 B1 K1 K2 hsb
  go_wp2
  refine bodyPost_ret (v := .agg #[.bool sb, .slice a0 d0 c0]) (by simp [results, Try.results27, go_sem, r0, r1]) rfl ?_
  exact FIN.out
set_option maxHeartbeats 400000 in
theorem rineg_c {w : World} {v : Value} {s : Bool} {n k : Nat} (h : Im w v s n k) (hk : k ≤ 1048576) : Calls Try.prog 34 #[v] w (IPostZ (-(iv s n)) w) := by
  obtain ⟨m, rfl, hm⟩ := h
  obtain ⟨a, len, cap, l, rfl, hr, hn, hl⟩ := hm.form
  obtain ⟨z, hz⟩ : ∃ z, -(iv s n) = z := ⟨_, rfl⟩
  have hzz : iv (!s) n = z := by rw [← hz]; cases s <;> simp [iv]
  have K1 : Keep w ((w.alloc (.cells #[.bool s, .slice a len cap] 25)).alloc (.cells #[.bool false, .slice none 0 0] 25)) := ((Keep.refl w).alloc _).alloc _
  have B1 : RBox (w.heap.size + 1) (.bool false) (.slice none 0 0) ((w.alloc (.cells #[.bool s, .slice a len cap] 25)).alloc (.cells #[.bool false, .slice none 0 0] 25)) := (RBox.new (w.alloc _) false none 0 0).at (sz1 _ _)
  have MK := Lib.hid (rimake_c (!s) (hm.keep K1) hk)
  rw [hzz] at MK
  rw [hz]
  clear hm hr hn hl hz hzz
  go_enter Try.func34, Try.ntmps34
  go_wp2_with fail
  refine Calls.mono MK.out ?_
  rintro e w2 ⟨u, rfl, hu, k2⟩
  obtain ⟨a0, d0, c0, l0, rfl, hr, hci⟩ := hu.form
  have B2 := B1.keep k2
  have K2 := K1.trans k2
  obtain ⟨hs1, hs2, r0, r1⟩ := B2.store K2 (Nat.le_succ _) (.bool (decide (z < 0))) (.slice a0 d0 c0)
  have FIN := Lib.hid (show IPostZ z w (.returned (.agg #[.bool (decide (z < 0)), .slice a0 d0 c0])) _ from ⟨_, rfl, hci _ (hs2 _ _ _ _ hr), hs1⟩)
  obtain ⟨q0, q1, q2, q3, _⟩ := B2
  obtain ⟨sb, hsb⟩ : ∃ b, decide (z < 0) = b := ⟨_, rfl⟩
  rw [hsb] at FIN r0 r1 ⊢
  clear hs1 hs2 hr hci hu k2 B1 K1 K2 hsb
  go_wp2
  refine bodyPost_ret (v := .agg #[.bool sb, .slice a0 d0 c0]) (by simp [results, Try.results34, go_sem, r0, r1]) rfl ?_
  exact FIN.out
set_option maxHeartbeats 400000 in
theorem iof_c_0 (x : Int) (w : World) (h1 : -9223372036854775808 ≤ x) (h2 : x ≤ 9223372036854775807) (hx : x < 0) : Calls Try.prog 19 #[.int .i64 x] w (IPostZ x w) := by
  have K1 : Keep w (w.alloc (.cells #[.bool false, .slice none 0 0] 25)) := (Keep.refl w).alloc _
  have B1 := RBox.new w false none 0 0
  obtain ⟨n, hn⟩ : ∃ n, x.natAbs = n := ⟨_, rfl⟩
  have e1 : IntKind.u64.wrap (-IntKind.u64.wrap x) = (n : Nat) := by simp [IntKind.wrap, IntKind.bits, IntKind.signed]; omega
  have OF := Lib.hid (fun w1 => of_n (w := w1) n (by omega))
  have hdec : decide (x < 0) = true := by simp; omega
  have HN := Lib.hid hn
  clear hn
  go_enter Try.func19, Try.ntmps19
  go_wp2_with fail
  refine Calls.mono (OF.out _) ?_
  rintro e w2 ⟨u, rfl, hu, k2⟩
  have B2 := B1.keep k2
  have K2 := K1.trans k2
  obtain ⟨a0, c0, rfl, hr⟩ := hu.form
  obtain ⟨hs1, hs2, r0, r1⟩ := B2.store K2 (Nat.le_refl _) (.bool true) (.slice a0 (dig n).length c0)
  have FIN := Lib.hid (show IPostZ x w (.returned (.agg #[.bool true, .slice a0 (dig n).length c0])) _ from ⟨_, rfl, ⟨.slice a0 (dig n).length c0, by rw [hdec], by rw [HN.out]; exact ⟨a0, _, c0, rfl, hs2 _ _ _ _ hr⟩⟩, hs1⟩)
  obtain ⟨q0, q1, q2, q3, _⟩ := B2
  obtain ⟨d, hd⟩ : ∃ d, (dig n).length = d := ⟨_, rfl⟩
  rw [hd] at FIN r1 ⊢
  clear hs1 hs2 hr hu k2 B1 K1 K2 hd
  go_wp2
  refine bodyPost_ret (v := .agg #[.bool true, .slice a0 d c0]) (by simp [results, Try.results19, go_sem, r0, r1]) rfl ?_
  exact FIN.out
set_option maxHeartbeats 400000 in
theorem iof_c_1 (x : Int) (w : World) (h1 : -9223372036854775808 ≤ x) (h2 : x ≤ 9223372036854775807) (hx : ¬ x < 0) : Calls Try.prog 19 #[.int .i64 x] w (IPostZ x w) := by
  have K1 : Keep w (w.alloc (.cells #[.bool false, .slice none 0 0] 25)) := (Keep.refl w).alloc _
  have B1 := RBox.new w false none 0 0
  obtain ⟨n, hn⟩ : ∃ n, x.natAbs = n := ⟨_, rfl⟩
  have e1 : IntKind.u64.wrap x = (n : Nat) := by simp [IntKind.wrap, IntKind.bits, IntKind.signed]; omega
  have OF := Lib.hid (fun w1 => of_n (w := w1) n (by omega))
  have hdec : decide (x < 0) = false := by simp; omega
  have HN := Lib.hid hn
  clear hn
  go_enter Try.func19, Try.ntmps19
  go_wp2_with fail
  refine Calls.mono (OF.out _) ?_
  rintro e w2 ⟨u, rfl, hu, k2⟩
  have B2 := B1.keep k2
  have K2 := K1.trans k2
  obtain ⟨a0, c0, rfl, hr⟩ := hu.form
  obtain ⟨hs1, hs2, r0, r1⟩ := B2.store K2 (Nat.le_refl _) (.bool false) (.slice a0 (dig n).length c0)
  have FIN := Lib.hid (show IPostZ x w (.returned (.agg #[.bool false, .slice a0 (dig n).length c0])) _ from ⟨_, rfl, ⟨.slice a0 (dig n).length c0, by rw [hdec], by rw [HN.out]; exact ⟨a0, _, c0, rfl, hs2 _ _ _ _ hr⟩⟩, hs1⟩)
  obtain ⟨q0, q1, q2, q3, _⟩ := B2
  obtain ⟨d, hd⟩ : ∃ d, (dig n).length = d := ⟨_, rfl⟩
  rw [hd] at FIN r1 ⊢
  clear hs1 hs2 hr hu k2 B1 K1 K2 hd
  go_wp2
  refine bodyPost_ret (v := .agg #[.bool false, .slice a0 d c0]) (by simp [results, Try.results19, go_sem, r0, r1]) rfl ?_
  exact FIN.out
theorem iof_c (x : Int) (w : World) (h1 : -9223372036854775808 ≤ x) (h2 : x ≤ 9223372036854775807) : Calls Try.prog 19 #[.int .i64 x] w (IPostZ x w) := by
  by_cases hx : x < 0
  · exact iof_c_0 x w h1 h2 hx
  · exact iof_c_1 x w h1 h2 hx
set_option maxHeartbeats 400000 in
theorem riof_c_0 (x : Int) (w : World) (h1 : -9223372036854775808 ≤ x) (h2 : x ≤ 9223372036854775807) (hx : x < 0) : Calls Try.prog 21 #[.int .i64 x] w (IPostZ x w) := by
  have K1 : Keep w (w.alloc (.cells #[.bool false, .slice none 0 0] 25)) := (Keep.refl w).alloc _
  have B1 := RBox.new w false none 0 0
  obtain ⟨n, hn⟩ : ∃ n, x.natAbs = n := ⟨_, rfl⟩
  have e1 : IntKind.u64.wrap (-IntKind.u64.wrap x) = (n : Nat) := by simp [IntKind.wrap, IntKind.bits, IntKind.signed]; omega
  have OF := Lib.hid (fun w1 => rof_n (w := w1) n (by omega))
  have hdec : decide (x < 0) = true := by simp; omega
  have MK := Lib.hid (fun w1 u (hu : Cn w1 u n) => rimake_c true (hu.nm (k := 2) (by rw [show BB ^ 2 = 18446744073709551616 from by decide]; omega)) (by omega))
  have hiv : iv true n = x := by unfold iv; simp; omega
  rw [hiv] at MK
  clear hiv
  have HN := Lib.hid hn
  clear hn
  go_enter Try.func21, Try.ntmps21
  go_wp2_with fail
  refine Calls.mono (OF.out _) ?_
  rintro e w2 ⟨u, rfl, hu, k2⟩
  have B2 := B1.keep k2
  have K2 := K1.trans k2
  have HU := Lib.hid (MK.out _ _ hu)
  clear hu k2 B1 K1
  go_wp2_with fail
  refine Calls.mono HU.out ?_
  rintro e w3 ⟨u, rfl, hu, k3⟩
  obtain ⟨a0, d0, c0, l0, rfl, hr, hci⟩ := hu.form
  have B3 := B2.keep k3
  have K3 := K2.trans k3
  obtain ⟨hs1, hs2, r0, r1⟩ := B3.store K3 (Nat.le_refl _) (.bool (decide (x < 0))) (.slice a0 d0 c0)
  have FIN := Lib.hid (show IPostZ x w (.returned (.agg #[.bool (decide (x < 0)), .slice a0 d0 c0])) _ from ⟨_, rfl, hci _ (hs2 _ _ _ _ hr), hs1⟩)
  obtain ⟨q0, q1, q2, q3, _⟩ := B3
  rw [hdec] at FIN r0 r1 ⊢
  clear hs1 hs2 hr hci hu k3 B2 K2 K3
  go_wp2
  refine bodyPost_ret (v := .agg #[.bool true, .slice a0 d0 c0]) (by simp [results, Try.results21, go_sem, r0, r1]) rfl ?_
  exact FIN.out
set_option maxHeartbeats 400000 in
theorem riof_c_1 (x : Int) (w : World) (h1 : -9223372036854775808 ≤ x) (h2 : x ≤ 9223372036854775807) (hx : ¬ x < 0) : Calls Try.prog 21 #[.int .i64 x] w (IPostZ x w) := by
  have K1 : Keep w (w.alloc (.cells #[.bool false, .slice none 0 0] 25)) := (Keep.refl w).alloc _
  have B1 := RBox.new w false none 0 0
  obtain ⟨n, hn⟩ : ∃ n, x.natAbs = n := ⟨_, rfl⟩
  have e1 : IntKind.u64.wrap x = (n : Nat) := by simp [IntKind.wrap, IntKind.bits, IntKind.signed]; omega
  have OF := Lib.hid (fun w1 => rof_n (w := w1) n (by omega))
  have hdec : decide (x < 0) = false := by simp; omega
  have MK := Lib.hid (fun w1 u (hu : Cn w1 u n) => rimake_c false (hu.nm (k := 2) (by rw [show BB ^ 2 = 18446744073709551616 from by decide]; omega)) (by omega))
  have hiv : iv false n = x := by unfold iv; simp; omega
  rw [hiv] at MK
  clear hiv
  have HN := Lib.hid hn
  clear hn
  go_enter Try.func21, Try.ntmps21
  go_wp2_with fail
  refine Calls.mono (OF.out _) ?_
  rintro e w2 ⟨u, rfl, hu, k2⟩
  have B2 := B1.keep k2
  have K2 := K1.trans k2
  have HU := Lib.hid (MK.out _ _ hu)
  clear hu k2 B1 K1
  go_wp2_with fail
  refine Calls.mono HU.out ?_
  rintro e w3 ⟨u, rfl, hu, k3⟩
  obtain ⟨a0, d0, c0, l0, rfl, hr, hci⟩ := hu.form
  have B3 := B2.keep k3
  have K3 := K2.trans k3
  obtain ⟨hs1, hs2, r0, r1⟩ := B3.store K3 (Nat.le_refl _) (.bool (decide (x < 0))) (.slice a0 d0 c0)
  have FIN := Lib.hid (show IPostZ x w (.returned (.agg #[.bool (decide (x < 0)), .slice a0 d0 c0])) _ from ⟨_, rfl, hci _ (hs2 _ _ _ _ hr), hs1⟩)
  obtain ⟨q0, q1, q2, q3, _⟩ := B3
  rw [hdec] at FIN r0 r1 ⊢
  clear hs1 hs2 hr hci hu k3 B2 K2 K3
  go_wp2
  refine bodyPost_ret (v := .agg #[.bool false, .slice a0 d0 c0]) (by simp [results, Try.results21, go_sem, r0, r1]) rfl ?_
  exact FIN.out
theorem riof_c (x : Int) (w : World) (h1 : -9223372036854775808 ≤ x) (h2 : x ≤ 9223372036854775807) : Calls Try.prog 21 #[.int .i64 x] w (IPostZ x w) := by
  by_cases hx : x < 0
  · exact riof_c_0 x w h1 h2 hx
  · exact riof_c_1 x w h1 h2 hx
end Go.Proofs.Ytjkfnnoakjdgmaa
