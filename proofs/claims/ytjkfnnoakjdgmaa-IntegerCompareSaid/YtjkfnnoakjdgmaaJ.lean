/- Walks of layer 2: Mul, Add and the reference's. -/
import Derived.Test.YtjkfnnoakjdgmaaI
namespace Go.Proofs.Ytjkfnnoakjdgmaa
open Go.RowKit
set_option linter.unusedVariables false
theorem rmul_n {w : World} {v u : Value} {n m k j : Nat} (h : Nm w v n k) (h' : Nm w u m j) (hk : k + j ≤ 1048575) :
    Calls Try.prog 52 #[v, u] w fun e w' => ∃ x, e = .returned x ∧ Cn w' x (n * m) ∧ Keep w w' := by
  obtain ⟨l, ⟨a, len, cap, rfl, hr⟩, rfl, hl⟩ := h
  obtain ⟨l', ⟨a', len', cap', rfl, hr'⟩, rfl, hl'⟩ := h'
  exact (rmul_c _ _ _ _ _ _ _ _ w hr hr' (by rw [← hr.len_eq, ← hr'.len_eq]; omega)).mono fun _ _ h => h.cn
/-- the three boxes of an operation -/
theorem op_boxes (w : World) (s : Bool) (a : Option Addr) (n c : Nat) (s' : Bool) (a' : Option Addr) (n' c' : Nat) :
    RBox w.heap.size (.bool s) (.slice a n c) (((w.alloc (.cells #[.bool s, .slice a n c] 25)).alloc (.cells #[.bool s', .slice a' n' c'] 25)).alloc (.cells #[.bool false, .slice none 0 0] 25)) ∧
    RBox (w.heap.size + 1) (.bool s') (.slice a' n' c') (((w.alloc (.cells #[.bool s, .slice a n c] 25)).alloc (.cells #[.bool s', .slice a' n' c'] 25)).alloc (.cells #[.bool false, .slice none 0 0] 25)) ∧
    RBox (w.heap.size + 2) (.bool false) (.slice none 0 0) (((w.alloc (.cells #[.bool s, .slice a n c] 25)).alloc (.cells #[.bool s', .slice a' n' c'] 25)).alloc (.cells #[.bool false, .slice none 0 0] 25)) ∧
    Keep w (((w.alloc (.cells #[.bool s, .slice a n c] 25)).alloc (.cells #[.bool s', .slice a' n' c'] 25)).alloc (.cells #[.bool false, .slice none 0 0] 25)) :=
  ⟨(RBox.new w s a n c).keep (((Keep.refl _).alloc _).alloc _), ((RBox.new (w.alloc _) s' a' n' c').at (sz1 _ _)).keep ((Keep.refl _).alloc _), (RBox.new ((w.alloc _).alloc _) false none 0 0).at (sz2 _ _ _), (((Keep.refl w).alloc _).alloc _).alloc _⟩
theorem mul_lt {n m k j : Nat} (h : n < BB ^ k) (h' : m < BB ^ j) : n * m < BB ^ (k + j) := by
  rw [Nat.pow_add]
  exact Nat.mul_lt_mul'' h h'
theorem add_lt2 {n m k j : Nat} (h : n < BB ^ k) (h' : m < BB ^ j) : n + m < BB ^ (k + j + 1) := by
  have h1 : BB ^ k ≤ BB ^ (k + j) := Nat.pow_le_pow_right BB_pos (by omega)
  have h2 : BB ^ j ≤ BB ^ (k + j) := Nat.pow_le_pow_right BB_pos (by omega)
  have h3 : BB ^ (k + j + 1) = BB ^ (k + j) * BB := Nat.pow_succ ..
  have h4 : BB ^ (k + j) * 2 ≤ BB ^ (k + j) * BB := Nat.mul_le_mul_left _ (by decide)
  omega
set_option maxHeartbeats 1000000 in
theorem rimul_0 {w : World} {a a2 : Option Addr} {len cap len2 cap2 n m k k2 : Nat} {z : Int} (hm : Nm w (.slice a len cap) n k) (hm2 : Nm w (.slice a2 len2 cap2) m k2) (hk : k ≤ 500000) (hk2 : k2 ≤ 500000) (hz : iv false (n * m) = z) :
    Calls Try.prog 29 #[.agg #[.bool false, .slice a len cap], .agg #[.bool false, .slice a2 len2 cap2]] w (IPostZ z w) := by
  obtain ⟨B0, B1, B2, K⟩ := op_boxes w false a len cap false a2 len2 cap2
  have Kd : Keep w (((w.alloc (.cells #[.bool false, .slice a len cap] 25)).alloc (.cells #[.bool false, .slice a2 len2 cap2] 25)).alloc (.cells #[.bool false, .slice none 0 0] 25)).drew := K.drew
  have C1 := Lib.hid (rmul_n ((hm.keep Kd)) ((hm2.keep Kd)) (by omega))
  have C2 := Lib.hid (fun w1 u (hu : Cn w1 u (n * m)) => rimake_c false (hu.nm (mul_lt hm.lt hm2.lt)) (by omega))
  rw [hz] at C2
  have KB : Hid (∀ w1, Keep ((((w.alloc (.cells #[.bool false, .slice a len cap] 25)).alloc (.cells #[.bool false, .slice a2 len2 cap2] 25)).alloc (.cells #[.bool false, .slice none 0 0] 25)).drew) w1 → (w1.cell? ⟨w.heap.size, 0, none⟩ = some (.bool false) ∧ w1.cell? ⟨w.heap.size, 1, none⟩ = some (.slice a len cap) ∧ w1.cell? ⟨(w.heap.size + 1), 0, none⟩ = some (.bool false) ∧ w1.cell? ⟨(w.heap.size + 1), 1, none⟩ = some (.slice a2 len2 cap2)) ∧ Hid (RBox (w.heap.size + 1 + 1) (.bool false) (.slice none 0 0) w1) ∧ Hid (Keep w w1) ∧ Hid (RBox w.heap.size (.bool false) (.slice a len cap) w1 ∧ RBox (w.heap.size + 1) (.bool false) (.slice a2 len2 cap2) w1)) := Lib.hid (by
    intro w1 hb
    have kk : Keep (((w.alloc (.cells #[.bool false, .slice a len cap] 25)).alloc (.cells #[.bool false, .slice a2 len2 cap2] 25)).alloc (.cells #[.bool false, .slice none 0 0] 25)) w1 := (keep_drew _).trans hb
    exact ⟨⟨(B0.keep kk).c0, (B0.keep kk).c1, (B1.keep kk).c0, (B1.keep kk).c1⟩, Lib.hid (B2.keep kk), Lib.hid (K.trans kk), Lib.hid ⟨B0.keep kk, B1.keep kk⟩⟩)
  clear hm hm2 K Kd B0 B1 B2 hz
  go_enter Try.func29, Try.ntmps29
  go_wp2
  go_region_held3 (fun w' => w'.cell? ⟨w.heap.size, 0, none⟩ = some (.bool false) ∧ w'.cell? ⟨w.heap.size, 1, none⟩ = some (.slice a len cap) ∧ w'.cell? ⟨(w.heap.size + 1), 0, none⟩ = some (.bool false) ∧ w'.cell? ⟨(w.heap.size + 1), 1, none⟩ = some (.slice a2 len2 cap2)) (first | exact ⟨y0, y1, y2, y3⟩ | exact ⟨t0, t1, t2, t3⟩ | exact ⟨s0, s1, s2_, s3⟩ | go_keep)
    (first
      | (go_at_call 52; ((with_reducible refine Calls.mono C1.out ?_); rintro e w1 ⟨x, rfl, hx, k1⟩; obtain ⟨⟨s0, s1, s2_, s3⟩, R1, bw, RB⟩ := KB.out _ k1; have HX := Lib.hid hx; clear hx k1))
      | (go_at_call 13; ((with_reducible refine Calls.mono (C2.out _ _ HX.out) ?_); rintro e w2 ⟨u, rfl, hu, k2⟩; have t0 := bcell k2 _ _ _ s0; have t1 := bcell k2 _ _ _ s1; have t2 := bcell k2 _ _ _ s2_; have t3 := bcell k2 _ _ _ s3; have R2 := Lib.hid (R1.out.keep k2); have bw2 := Lib.hid (bw.out.trans k2); obtain ⟨a0, d0, c0, l0, rfl, hr, hci⟩ := hu.form; obtain ⟨sb, hsb⟩ : ∃ b, decide (z < 0) = b := ⟨_, rfl⟩; rw [hsb] at hci ⊢; obtain ⟨hs1, hs2, r0, r1⟩ := R2.out.store bw2.out (by omega) (.bool sb) (.slice a0 d0 c0); have FIN := Lib.hid (show IPostZ z w (.returned (.agg #[.bool sb, .slice a0 d0 c0])) _ from ⟨_, rfl, hci _ (hs2 _ _ _ _ hr), hs1⟩); have Y0 := (RB.out.1.keep k2).other (g := w.heap.size + 1 + 1) (by omega) 0 1 (.bool sb) (.slice a0 d0 c0); have Y1 := (RB.out.2.keep k2).other (g := w.heap.size + 1 + 1) (by omega) 0 1 (.bool sb) (.slice a0 d0 c0); obtain ⟨y0, y1, _, _, _⟩ := Y0; obtain ⟨y2, y3, _, _, _⟩ := Y1; obtain ⟨q0, q1, q2, q3, _⟩ := R2.out; clear hs1 hs2 hr hci hu k2 hsb)))
  all_goals
    go_wp2
    refine bodyPost_ret (v := .agg #[.bool sb, .slice a0 d0 c0]) (by simp [results, Try.results29, go_sem, r0, r1]) rfl ?_
    exact FIN.out
set_option maxHeartbeats 1000000 in
theorem rimul_1 {w : World} {a a2 : Option Addr} {len cap len2 cap2 n m k k2 : Nat} {z : Int} (hm : Nm w (.slice a len cap) n k) (hm2 : Nm w (.slice a2 len2 cap2) m k2) (hk : k ≤ 500000) (hk2 : k2 ≤ 500000) (hz : iv true (n * m) = z) :
    Calls Try.prog 29 #[.agg #[.bool false, .slice a len cap], .agg #[.bool true, .slice a2 len2 cap2]] w (IPostZ z w) := by
  obtain ⟨B0, B1, B2, K⟩ := op_boxes w false a len cap true a2 len2 cap2
  have Kd : Keep w (((w.alloc (.cells #[.bool false, .slice a len cap] 25)).alloc (.cells #[.bool true, .slice a2 len2 cap2] 25)).alloc (.cells #[.bool false, .slice none 0 0] 25)).drew := K.drew
  have C1 := Lib.hid (rmul_n ((hm.keep Kd)) ((hm2.keep Kd)) (by omega))
  have C2 := Lib.hid (fun w1 u (hu : Cn w1 u (n * m)) => rimake_c true (hu.nm (mul_lt hm.lt hm2.lt)) (by omega))
  rw [hz] at C2
  have KB : Hid (∀ w1, Keep ((((w.alloc (.cells #[.bool false, .slice a len cap] 25)).alloc (.cells #[.bool true, .slice a2 len2 cap2] 25)).alloc (.cells #[.bool false, .slice none 0 0] 25)).drew) w1 → (w1.cell? ⟨w.heap.size, 0, none⟩ = some (.bool false) ∧ w1.cell? ⟨w.heap.size, 1, none⟩ = some (.slice a len cap) ∧ w1.cell? ⟨(w.heap.size + 1), 0, none⟩ = some (.bool true) ∧ w1.cell? ⟨(w.heap.size + 1), 1, none⟩ = some (.slice a2 len2 cap2)) ∧ Hid (RBox (w.heap.size + 1 + 1) (.bool false) (.slice none 0 0) w1) ∧ Hid (Keep w w1) ∧ Hid (RBox w.heap.size (.bool false) (.slice a len cap) w1 ∧ RBox (w.heap.size + 1) (.bool true) (.slice a2 len2 cap2) w1)) := Lib.hid (by
    intro w1 hb
    have kk : Keep (((w.alloc (.cells #[.bool false, .slice a len cap] 25)).alloc (.cells #[.bool true, .slice a2 len2 cap2] 25)).alloc (.cells #[.bool false, .slice none 0 0] 25)) w1 := (keep_drew _).trans hb
    exact ⟨⟨(B0.keep kk).c0, (B0.keep kk).c1, (B1.keep kk).c0, (B1.keep kk).c1⟩, Lib.hid (B2.keep kk), Lib.hid (K.trans kk), Lib.hid ⟨B0.keep kk, B1.keep kk⟩⟩)
  clear hm hm2 K Kd B0 B1 B2 hz
  go_enter Try.func29, Try.ntmps29
  go_wp2
  go_region_held3 (fun w' => w'.cell? ⟨w.heap.size, 0, none⟩ = some (.bool false) ∧ w'.cell? ⟨w.heap.size, 1, none⟩ = some (.slice a len cap) ∧ w'.cell? ⟨(w.heap.size + 1), 0, none⟩ = some (.bool true) ∧ w'.cell? ⟨(w.heap.size + 1), 1, none⟩ = some (.slice a2 len2 cap2)) (first | exact ⟨y0, y1, y2, y3⟩ | exact ⟨t0, t1, t2, t3⟩ | exact ⟨s0, s1, s2_, s3⟩ | go_keep)
    (first
      | (go_at_call 52; ((with_reducible refine Calls.mono C1.out ?_); rintro e w1 ⟨x, rfl, hx, k1⟩; obtain ⟨⟨s0, s1, s2_, s3⟩, R1, bw, RB⟩ := KB.out _ k1; have HX := Lib.hid hx; clear hx k1))
      | (go_at_call 13; ((with_reducible refine Calls.mono (C2.out _ _ HX.out) ?_); rintro e w2 ⟨u, rfl, hu, k2⟩; have t0 := bcell k2 _ _ _ s0; have t1 := bcell k2 _ _ _ s1; have t2 := bcell k2 _ _ _ s2_; have t3 := bcell k2 _ _ _ s3; have R2 := Lib.hid (R1.out.keep k2); have bw2 := Lib.hid (bw.out.trans k2); obtain ⟨a0, d0, c0, l0, rfl, hr, hci⟩ := hu.form; obtain ⟨sb, hsb⟩ : ∃ b, decide (z < 0) = b := ⟨_, rfl⟩; rw [hsb] at hci ⊢; obtain ⟨hs1, hs2, r0, r1⟩ := R2.out.store bw2.out (by omega) (.bool sb) (.slice a0 d0 c0); have FIN := Lib.hid (show IPostZ z w (.returned (.agg #[.bool sb, .slice a0 d0 c0])) _ from ⟨_, rfl, hci _ (hs2 _ _ _ _ hr), hs1⟩); have Y0 := (RB.out.1.keep k2).other (g := w.heap.size + 1 + 1) (by omega) 0 1 (.bool sb) (.slice a0 d0 c0); have Y1 := (RB.out.2.keep k2).other (g := w.heap.size + 1 + 1) (by omega) 0 1 (.bool sb) (.slice a0 d0 c0); obtain ⟨y0, y1, _, _, _⟩ := Y0; obtain ⟨y2, y3, _, _, _⟩ := Y1; obtain ⟨q0, q1, q2, q3, _⟩ := R2.out; clear hs1 hs2 hr hci hu k2 hsb)))
  all_goals
    go_wp2
    refine bodyPost_ret (v := .agg #[.bool sb, .slice a0 d0 c0]) (by simp [results, Try.results29, go_sem, r0, r1]) rfl ?_
    exact FIN.out
set_option maxHeartbeats 1000000 in
theorem rimul_2 {w : World} {a a2 : Option Addr} {len cap len2 cap2 n m k k2 : Nat} {z : Int} (hm : Nm w (.slice a len cap) n k) (hm2 : Nm w (.slice a2 len2 cap2) m k2) (hk : k ≤ 500000) (hk2 : k2 ≤ 500000) (hz : iv true (n * m) = z) :
    Calls Try.prog 29 #[.agg #[.bool true, .slice a len cap], .agg #[.bool false, .slice a2 len2 cap2]] w (IPostZ z w) := by
  obtain ⟨B0, B1, B2, K⟩ := op_boxes w true a len cap false a2 len2 cap2
  have Kd : Keep w (((w.alloc (.cells #[.bool true, .slice a len cap] 25)).alloc (.cells #[.bool false, .slice a2 len2 cap2] 25)).alloc (.cells #[.bool false, .slice none 0 0] 25)).drew := K.drew
  have C1 := Lib.hid (rmul_n ((hm.keep Kd)) ((hm2.keep Kd)) (by omega))
  have C2 := Lib.hid (fun w1 u (hu : Cn w1 u (n * m)) => rimake_c true (hu.nm (mul_lt hm.lt hm2.lt)) (by omega))
  rw [hz] at C2
  have KB : Hid (∀ w1, Keep ((((w.alloc (.cells #[.bool true, .slice a len cap] 25)).alloc (.cells #[.bool false, .slice a2 len2 cap2] 25)).alloc (.cells #[.bool false, .slice none 0 0] 25)).drew) w1 → (w1.cell? ⟨w.heap.size, 0, none⟩ = some (.bool true) ∧ w1.cell? ⟨w.heap.size, 1, none⟩ = some (.slice a len cap) ∧ w1.cell? ⟨(w.heap.size + 1), 0, none⟩ = some (.bool false) ∧ w1.cell? ⟨(w.heap.size + 1), 1, none⟩ = some (.slice a2 len2 cap2)) ∧ Hid (RBox (w.heap.size + 1 + 1) (.bool false) (.slice none 0 0) w1) ∧ Hid (Keep w w1) ∧ Hid (RBox w.heap.size (.bool true) (.slice a len cap) w1 ∧ RBox (w.heap.size + 1) (.bool false) (.slice a2 len2 cap2) w1)) := Lib.hid (by
    intro w1 hb
    have kk : Keep (((w.alloc (.cells #[.bool true, .slice a len cap] 25)).alloc (.cells #[.bool false, .slice a2 len2 cap2] 25)).alloc (.cells #[.bool false, .slice none 0 0] 25)) w1 := (keep_drew _).trans hb
    exact ⟨⟨(B0.keep kk).c0, (B0.keep kk).c1, (B1.keep kk).c0, (B1.keep kk).c1⟩, Lib.hid (B2.keep kk), Lib.hid (K.trans kk), Lib.hid ⟨B0.keep kk, B1.keep kk⟩⟩)
  clear hm hm2 K Kd B0 B1 B2 hz
  go_enter Try.func29, Try.ntmps29
  go_wp2
  go_region_held3 (fun w' => w'.cell? ⟨w.heap.size, 0, none⟩ = some (.bool true) ∧ w'.cell? ⟨w.heap.size, 1, none⟩ = some (.slice a len cap) ∧ w'.cell? ⟨(w.heap.size + 1), 0, none⟩ = some (.bool false) ∧ w'.cell? ⟨(w.heap.size + 1), 1, none⟩ = some (.slice a2 len2 cap2)) (first | exact ⟨y0, y1, y2, y3⟩ | exact ⟨t0, t1, t2, t3⟩ | exact ⟨s0, s1, s2_, s3⟩ | go_keep)
    (first
      | (go_at_call 52; ((with_reducible refine Calls.mono C1.out ?_); rintro e w1 ⟨x, rfl, hx, k1⟩; obtain ⟨⟨s0, s1, s2_, s3⟩, R1, bw, RB⟩ := KB.out _ k1; have HX := Lib.hid hx; clear hx k1))
      | (go_at_call 13; ((with_reducible refine Calls.mono (C2.out _ _ HX.out) ?_); rintro e w2 ⟨u, rfl, hu, k2⟩; have t0 := bcell k2 _ _ _ s0; have t1 := bcell k2 _ _ _ s1; have t2 := bcell k2 _ _ _ s2_; have t3 := bcell k2 _ _ _ s3; have R2 := Lib.hid (R1.out.keep k2); have bw2 := Lib.hid (bw.out.trans k2); obtain ⟨a0, d0, c0, l0, rfl, hr, hci⟩ := hu.form; obtain ⟨sb, hsb⟩ : ∃ b, decide (z < 0) = b := ⟨_, rfl⟩; rw [hsb] at hci ⊢; obtain ⟨hs1, hs2, r0, r1⟩ := R2.out.store bw2.out (by omega) (.bool sb) (.slice a0 d0 c0); have FIN := Lib.hid (show IPostZ z w (.returned (.agg #[.bool sb, .slice a0 d0 c0])) _ from ⟨_, rfl, hci _ (hs2 _ _ _ _ hr), hs1⟩); have Y0 := (RB.out.1.keep k2).other (g := w.heap.size + 1 + 1) (by omega) 0 1 (.bool sb) (.slice a0 d0 c0); have Y1 := (RB.out.2.keep k2).other (g := w.heap.size + 1 + 1) (by omega) 0 1 (.bool sb) (.slice a0 d0 c0); obtain ⟨y0, y1, _, _, _⟩ := Y0; obtain ⟨y2, y3, _, _, _⟩ := Y1; obtain ⟨q0, q1, q2, q3, _⟩ := R2.out; clear hs1 hs2 hr hci hu k2 hsb)))
  all_goals
    go_wp2
    refine bodyPost_ret (v := .agg #[.bool sb, .slice a0 d0 c0]) (by simp [results, Try.results29, go_sem, r0, r1]) rfl ?_
    exact FIN.out
set_option maxHeartbeats 1000000 in
theorem rimul_3 {w : World} {a a2 : Option Addr} {len cap len2 cap2 n m k k2 : Nat} {z : Int} (hm : Nm w (.slice a len cap) n k) (hm2 : Nm w (.slice a2 len2 cap2) m k2) (hk : k ≤ 500000) (hk2 : k2 ≤ 500000) (hz : iv false (n * m) = z) :
    Calls Try.prog 29 #[.agg #[.bool true, .slice a len cap], .agg #[.bool true, .slice a2 len2 cap2]] w (IPostZ z w) := by
  obtain ⟨B0, B1, B2, K⟩ := op_boxes w true a len cap true a2 len2 cap2
  have Kd : Keep w (((w.alloc (.cells #[.bool true, .slice a len cap] 25)).alloc (.cells #[.bool true, .slice a2 len2 cap2] 25)).alloc (.cells #[.bool false, .slice none 0 0] 25)).drew := K.drew
  have C1 := Lib.hid (rmul_n ((hm.keep Kd)) ((hm2.keep Kd)) (by omega))
  have C2 := Lib.hid (fun w1 u (hu : Cn w1 u (n * m)) => rimake_c false (hu.nm (mul_lt hm.lt hm2.lt)) (by omega))
  rw [hz] at C2
  have KB : Hid (∀ w1, Keep ((((w.alloc (.cells #[.bool true, .slice a len cap] 25)).alloc (.cells #[.bool true, .slice a2 len2 cap2] 25)).alloc (.cells #[.bool false, .slice none 0 0] 25)).drew) w1 → (w1.cell? ⟨w.heap.size, 0, none⟩ = some (.bool true) ∧ w1.cell? ⟨w.heap.size, 1, none⟩ = some (.slice a len cap) ∧ w1.cell? ⟨(w.heap.size + 1), 0, none⟩ = some (.bool true) ∧ w1.cell? ⟨(w.heap.size + 1), 1, none⟩ = some (.slice a2 len2 cap2)) ∧ Hid (RBox (w.heap.size + 1 + 1) (.bool false) (.slice none 0 0) w1) ∧ Hid (Keep w w1) ∧ Hid (RBox w.heap.size (.bool true) (.slice a len cap) w1 ∧ RBox (w.heap.size + 1) (.bool true) (.slice a2 len2 cap2) w1)) := Lib.hid (by
    intro w1 hb
    have kk : Keep (((w.alloc (.cells #[.bool true, .slice a len cap] 25)).alloc (.cells #[.bool true, .slice a2 len2 cap2] 25)).alloc (.cells #[.bool false, .slice none 0 0] 25)) w1 := (keep_drew _).trans hb
    exact ⟨⟨(B0.keep kk).c0, (B0.keep kk).c1, (B1.keep kk).c0, (B1.keep kk).c1⟩, Lib.hid (B2.keep kk), Lib.hid (K.trans kk), Lib.hid ⟨B0.keep kk, B1.keep kk⟩⟩)
  clear hm hm2 K Kd B0 B1 B2 hz
  go_enter Try.func29, Try.ntmps29
  go_wp2
  go_region_held3 (fun w' => w'.cell? ⟨w.heap.size, 0, none⟩ = some (.bool true) ∧ w'.cell? ⟨w.heap.size, 1, none⟩ = some (.slice a len cap) ∧ w'.cell? ⟨(w.heap.size + 1), 0, none⟩ = some (.bool true) ∧ w'.cell? ⟨(w.heap.size + 1), 1, none⟩ = some (.slice a2 len2 cap2)) (first | exact ⟨y0, y1, y2, y3⟩ | exact ⟨t0, t1, t2, t3⟩ | exact ⟨s0, s1, s2_, s3⟩ | go_keep)
    (first
      | (go_at_call 52; ((with_reducible refine Calls.mono C1.out ?_); rintro e w1 ⟨x, rfl, hx, k1⟩; obtain ⟨⟨s0, s1, s2_, s3⟩, R1, bw, RB⟩ := KB.out _ k1; have HX := Lib.hid hx; clear hx k1))
      | (go_at_call 13; ((with_reducible refine Calls.mono (C2.out _ _ HX.out) ?_); rintro e w2 ⟨u, rfl, hu, k2⟩; have t0 := bcell k2 _ _ _ s0; have t1 := bcell k2 _ _ _ s1; have t2 := bcell k2 _ _ _ s2_; have t3 := bcell k2 _ _ _ s3; have R2 := Lib.hid (R1.out.keep k2); have bw2 := Lib.hid (bw.out.trans k2); obtain ⟨a0, d0, c0, l0, rfl, hr, hci⟩ := hu.form; obtain ⟨sb, hsb⟩ : ∃ b, decide (z < 0) = b := ⟨_, rfl⟩; rw [hsb] at hci ⊢; obtain ⟨hs1, hs2, r0, r1⟩ := R2.out.store bw2.out (by omega) (.bool sb) (.slice a0 d0 c0); have FIN := Lib.hid (show IPostZ z w (.returned (.agg #[.bool sb, .slice a0 d0 c0])) _ from ⟨_, rfl, hci _ (hs2 _ _ _ _ hr), hs1⟩); have Y0 := (RB.out.1.keep k2).other (g := w.heap.size + 1 + 1) (by omega) 0 1 (.bool sb) (.slice a0 d0 c0); have Y1 := (RB.out.2.keep k2).other (g := w.heap.size + 1 + 1) (by omega) 0 1 (.bool sb) (.slice a0 d0 c0); obtain ⟨y0, y1, _, _, _⟩ := Y0; obtain ⟨y2, y3, _, _, _⟩ := Y1; obtain ⟨q0, q1, q2, q3, _⟩ := R2.out; clear hs1 hs2 hr hci hu k2 hsb)))
  all_goals
    go_wp2
    refine bodyPost_ret (v := .agg #[.bool sb, .slice a0 d0 c0]) (by simp [results, Try.results29, go_sem, r0, r1]) rfl ?_
    exact FIN.out
set_option maxHeartbeats 1000000 in
theorem imul_0 {w : World} {a a2 : Option Addr} {len cap len2 cap2 n m k k2 : Nat} {z : Int} (hm : Nm w (.slice a len cap) n k) (hm2 : Nm w (.slice a2 len2 cap2) m k2) (hk : k ≤ 500000) (hk2 : k2 ≤ 500000) (hsm : k < 48 ∨ k2 < 48) (hz : iv false (n * m) = z) :
    Calls Try.prog 28 #[.agg #[.bool false, .slice a len cap], .agg #[.bool false, .slice a2 len2 cap2]] w (IPostZ z w) := by
  obtain ⟨B0, B1, B2, K⟩ := op_boxes w false a len cap false a2 len2 cap2
  have Kd : Keep w (((w.alloc (.cells #[.bool false, .slice a len cap] 25)).alloc (.cells #[.bool false, .slice a2 len2 cap2] 25)).alloc (.cells #[.bool false, .slice none 0 0] 25)).drew := K.drew
  have C1 := Lib.hid (mul_n ((hm.keep Kd)) ((hm2.keep Kd)) (by omega) (by omega) hsm)
  have C2 := Lib.hid (fun w1 u (hu : Cn w1 u (n * m)) => signed_c false hu)
  rw [hz] at C2
  have KB : Hid (∀ w1, Keep ((((w.alloc (.cells #[.bool false, .slice a len cap] 25)).alloc (.cells #[.bool false, .slice a2 len2 cap2] 25)).alloc (.cells #[.bool false, .slice none 0 0] 25)).drew) w1 → (w1.cell? ⟨w.heap.size, 0, none⟩ = some (.bool false) ∧ w1.cell? ⟨w.heap.size, 1, none⟩ = some (.slice a len cap) ∧ w1.cell? ⟨(w.heap.size + 1), 0, none⟩ = some (.bool false) ∧ w1.cell? ⟨(w.heap.size + 1), 1, none⟩ = some (.slice a2 len2 cap2)) ∧ Hid (RBox (w.heap.size + 1 + 1) (.bool false) (.slice none 0 0) w1) ∧ Hid (Keep w w1) ∧ Hid (RBox w.heap.size (.bool false) (.slice a len cap) w1 ∧ RBox (w.heap.size + 1) (.bool false) (.slice a2 len2 cap2) w1)) := Lib.hid (by
    intro w1 hb
    have kk : Keep (((w.alloc (.cells #[.bool false, .slice a len cap] 25)).alloc (.cells #[.bool false, .slice a2 len2 cap2] 25)).alloc (.cells #[.bool false, .slice none 0 0] 25)) w1 := (keep_drew _).trans hb
    exact ⟨⟨(B0.keep kk).c0, (B0.keep kk).c1, (B1.keep kk).c0, (B1.keep kk).c1⟩, Lib.hid (B2.keep kk), Lib.hid (K.trans kk), Lib.hid ⟨B0.keep kk, B1.keep kk⟩⟩)
  clear hm hm2 K Kd B0 B1 B2 hz
  go_enter Try.func28, Try.ntmps28
  go_wp2
  go_region_held3 (fun w' => w'.cell? ⟨w.heap.size, 0, none⟩ = some (.bool false) ∧ w'.cell? ⟨w.heap.size, 1, none⟩ = some (.slice a len cap) ∧ w'.cell? ⟨(w.heap.size + 1), 0, none⟩ = some (.bool false) ∧ w'.cell? ⟨(w.heap.size + 1), 1, none⟩ = some (.slice a2 len2 cap2)) (first | exact ⟨y0, y1, y2, y3⟩ | exact ⟨t0, t1, t2, t3⟩ | exact ⟨s0, s1, s2_, s3⟩ | go_keep)
    (first
      | (go_at_call 51; ((with_reducible refine Calls.mono C1.out ?_); rintro e w1 ⟨x, rfl, hx, k1⟩; obtain ⟨⟨s0, s1, s2_, s3⟩, R1, bw, RB⟩ := KB.out _ k1; have HX := Lib.hid hx; clear hx k1))
      | (go_at_call 35; ((with_reducible refine Calls.mono (C2.out _ _ HX.out) ?_); rintro e w2 ⟨u, rfl, hu, k2⟩; have t0 := bcell k2 _ _ _ s0; have t1 := bcell k2 _ _ _ s1; have t2 := bcell k2 _ _ _ s2_; have t3 := bcell k2 _ _ _ s3; have R2 := Lib.hid (R1.out.keep k2); have bw2 := Lib.hid (bw.out.trans k2); obtain ⟨a0, d0, c0, l0, rfl, hr, hci⟩ := hu.form; obtain ⟨sb, hsb⟩ : ∃ b, decide (z < 0) = b := ⟨_, rfl⟩; rw [hsb] at hci ⊢; obtain ⟨hs1, hs2, r0, r1⟩ := R2.out.store bw2.out (by omega) (.bool sb) (.slice a0 d0 c0); have FIN := Lib.hid (show IPostZ z w (.returned (.agg #[.bool sb, .slice a0 d0 c0])) _ from ⟨_, rfl, hci _ (hs2 _ _ _ _ hr), hs1⟩); have Y0 := (RB.out.1.keep k2).other (g := w.heap.size + 1 + 1) (by omega) 0 1 (.bool sb) (.slice a0 d0 c0); have Y1 := (RB.out.2.keep k2).other (g := w.heap.size + 1 + 1) (by omega) 0 1 (.bool sb) (.slice a0 d0 c0); obtain ⟨y0, y1, _, _, _⟩ := Y0; obtain ⟨y2, y3, _, _, _⟩ := Y1; obtain ⟨q0, q1, q2, q3, _⟩ := R2.out; clear hs1 hs2 hr hci hu k2 hsb)))
  all_goals
    go_wp2
    refine bodyPost_ret (v := .agg #[.bool sb, .slice a0 d0 c0]) (by simp [results, Try.results28, go_sem, r0, r1]) rfl ?_
    exact FIN.out
set_option maxHeartbeats 1000000 in
theorem imul_1 {w : World} {a a2 : Option Addr} {len cap len2 cap2 n m k k2 : Nat} {z : Int} (hm : Nm w (.slice a len cap) n k) (hm2 : Nm w (.slice a2 len2 cap2) m k2) (hk : k ≤ 500000) (hk2 : k2 ≤ 500000) (hsm : k < 48 ∨ k2 < 48) (hz : iv true (n * m) = z) :
    Calls Try.prog 28 #[.agg #[.bool false, .slice a len cap], .agg #[.bool true, .slice a2 len2 cap2]] w (IPostZ z w) := by
  obtain ⟨B0, B1, B2, K⟩ := op_boxes w false a len cap true a2 len2 cap2
  have Kd : Keep w (((w.alloc (.cells #[.bool false, .slice a len cap] 25)).alloc (.cells #[.bool true, .slice a2 len2 cap2] 25)).alloc (.cells #[.bool false, .slice none 0 0] 25)).drew := K.drew
  have C1 := Lib.hid (mul_n ((hm.keep Kd)) ((hm2.keep Kd)) (by omega) (by omega) hsm)
  have C2 := Lib.hid (fun w1 u (hu : Cn w1 u (n * m)) => signed_c true hu)
  rw [hz] at C2
  have KB : Hid (∀ w1, Keep ((((w.alloc (.cells #[.bool false, .slice a len cap] 25)).alloc (.cells #[.bool true, .slice a2 len2 cap2] 25)).alloc (.cells #[.bool false, .slice none 0 0] 25)).drew) w1 → (w1.cell? ⟨w.heap.size, 0, none⟩ = some (.bool false) ∧ w1.cell? ⟨w.heap.size, 1, none⟩ = some (.slice a len cap) ∧ w1.cell? ⟨(w.heap.size + 1), 0, none⟩ = some (.bool true) ∧ w1.cell? ⟨(w.heap.size + 1), 1, none⟩ = some (.slice a2 len2 cap2)) ∧ Hid (RBox (w.heap.size + 1 + 1) (.bool false) (.slice none 0 0) w1) ∧ Hid (Keep w w1) ∧ Hid (RBox w.heap.size (.bool false) (.slice a len cap) w1 ∧ RBox (w.heap.size + 1) (.bool true) (.slice a2 len2 cap2) w1)) := Lib.hid (by
    intro w1 hb
    have kk : Keep (((w.alloc (.cells #[.bool false, .slice a len cap] 25)).alloc (.cells #[.bool true, .slice a2 len2 cap2] 25)).alloc (.cells #[.bool false, .slice none 0 0] 25)) w1 := (keep_drew _).trans hb
    exact ⟨⟨(B0.keep kk).c0, (B0.keep kk).c1, (B1.keep kk).c0, (B1.keep kk).c1⟩, Lib.hid (B2.keep kk), Lib.hid (K.trans kk), Lib.hid ⟨B0.keep kk, B1.keep kk⟩⟩)
  clear hm hm2 K Kd B0 B1 B2 hz
  go_enter Try.func28, Try.ntmps28
  go_wp2
  go_region_held3 (fun w' => w'.cell? ⟨w.heap.size, 0, none⟩ = some (.bool false) ∧ w'.cell? ⟨w.heap.size, 1, none⟩ = some (.slice a len cap) ∧ w'.cell? ⟨(w.heap.size + 1), 0, none⟩ = some (.bool true) ∧ w'.cell? ⟨(w.heap.size + 1), 1, none⟩ = some (.slice a2 len2 cap2)) (first | exact ⟨y0, y1, y2, y3⟩ | exact ⟨t0, t1, t2, t3⟩ | exact ⟨s0, s1, s2_, s3⟩ | go_keep)
    (first
      | (go_at_call 51; ((with_reducible refine Calls.mono C1.out ?_); rintro e w1 ⟨x, rfl, hx, k1⟩; obtain ⟨⟨s0, s1, s2_, s3⟩, R1, bw, RB⟩ := KB.out _ k1; have HX := Lib.hid hx; clear hx k1))
      | (go_at_call 35; ((with_reducible refine Calls.mono (C2.out _ _ HX.out) ?_); rintro e w2 ⟨u, rfl, hu, k2⟩; have t0 := bcell k2 _ _ _ s0; have t1 := bcell k2 _ _ _ s1; have t2 := bcell k2 _ _ _ s2_; have t3 := bcell k2 _ _ _ s3; have R2 := Lib.hid (R1.out.keep k2); have bw2 := Lib.hid (bw.out.trans k2); obtain ⟨a0, d0, c0, l0, rfl, hr, hci⟩ := hu.form; obtain ⟨sb, hsb⟩ : ∃ b, decide (z < 0) = b := ⟨_, rfl⟩; rw [hsb] at hci ⊢; obtain ⟨hs1, hs2, r0, r1⟩ := R2.out.store bw2.out (by omega) (.bool sb) (.slice a0 d0 c0); have FIN := Lib.hid (show IPostZ z w (.returned (.agg #[.bool sb, .slice a0 d0 c0])) _ from ⟨_, rfl, hci _ (hs2 _ _ _ _ hr), hs1⟩); have Y0 := (RB.out.1.keep k2).other (g := w.heap.size + 1 + 1) (by omega) 0 1 (.bool sb) (.slice a0 d0 c0); have Y1 := (RB.out.2.keep k2).other (g := w.heap.size + 1 + 1) (by omega) 0 1 (.bool sb) (.slice a0 d0 c0); obtain ⟨y0, y1, _, _, _⟩ := Y0; obtain ⟨y2, y3, _, _, _⟩ := Y1; obtain ⟨q0, q1, q2, q3, _⟩ := R2.out; clear hs1 hs2 hr hci hu k2 hsb)))
  all_goals
    go_wp2
    refine bodyPost_ret (v := .agg #[.bool sb, .slice a0 d0 c0]) (by simp [results, Try.results28, go_sem, r0, r1]) rfl ?_
    exact FIN.out
set_option maxHeartbeats 1000000 in
theorem imul_2 {w : World} {a a2 : Option Addr} {len cap len2 cap2 n m k k2 : Nat} {z : Int} (hm : Nm w (.slice a len cap) n k) (hm2 : Nm w (.slice a2 len2 cap2) m k2) (hk : k ≤ 500000) (hk2 : k2 ≤ 500000) (hsm : k < 48 ∨ k2 < 48) (hz : iv true (n * m) = z) :
    Calls Try.prog 28 #[.agg #[.bool true, .slice a len cap], .agg #[.bool false, .slice a2 len2 cap2]] w (IPostZ z w) := by
  obtain ⟨B0, B1, B2, K⟩ := op_boxes w true a len cap false a2 len2 cap2
  have Kd : Keep w (((w.alloc (.cells #[.bool true, .slice a len cap] 25)).alloc (.cells #[.bool false, .slice a2 len2 cap2] 25)).alloc (.cells #[.bool false, .slice none 0 0] 25)).drew := K.drew
  have C1 := Lib.hid (mul_n ((hm.keep Kd)) ((hm2.keep Kd)) (by omega) (by omega) hsm)
  have C2 := Lib.hid (fun w1 u (hu : Cn w1 u (n * m)) => signed_c true hu)
  rw [hz] at C2
  have KB : Hid (∀ w1, Keep ((((w.alloc (.cells #[.bool true, .slice a len cap] 25)).alloc (.cells #[.bool false, .slice a2 len2 cap2] 25)).alloc (.cells #[.bool false, .slice none 0 0] 25)).drew) w1 → (w1.cell? ⟨w.heap.size, 0, none⟩ = some (.bool true) ∧ w1.cell? ⟨w.heap.size, 1, none⟩ = some (.slice a len cap) ∧ w1.cell? ⟨(w.heap.size + 1), 0, none⟩ = some (.bool false) ∧ w1.cell? ⟨(w.heap.size + 1), 1, none⟩ = some (.slice a2 len2 cap2)) ∧ Hid (RBox (w.heap.size + 1 + 1) (.bool false) (.slice none 0 0) w1) ∧ Hid (Keep w w1) ∧ Hid (RBox w.heap.size (.bool true) (.slice a len cap) w1 ∧ RBox (w.heap.size + 1) (.bool false) (.slice a2 len2 cap2) w1)) := Lib.hid (by
    intro w1 hb
    have kk : Keep (((w.alloc (.cells #[.bool true, .slice a len cap] 25)).alloc (.cells #[.bool false, .slice a2 len2 cap2] 25)).alloc (.cells #[.bool false, .slice none 0 0] 25)) w1 := (keep_drew _).trans hb
    exact ⟨⟨(B0.keep kk).c0, (B0.keep kk).c1, (B1.keep kk).c0, (B1.keep kk).c1⟩, Lib.hid (B2.keep kk), Lib.hid (K.trans kk), Lib.hid ⟨B0.keep kk, B1.keep kk⟩⟩)
  clear hm hm2 K Kd B0 B1 B2 hz
  go_enter Try.func28, Try.ntmps28
  go_wp2
  go_region_held3 (fun w' => w'.cell? ⟨w.heap.size, 0, none⟩ = some (.bool true) ∧ w'.cell? ⟨w.heap.size, 1, none⟩ = some (.slice a len cap) ∧ w'.cell? ⟨(w.heap.size + 1), 0, none⟩ = some (.bool false) ∧ w'.cell? ⟨(w.heap.size + 1), 1, none⟩ = some (.slice a2 len2 cap2)) (first | exact ⟨y0, y1, y2, y3⟩ | exact ⟨t0, t1, t2, t3⟩ | exact ⟨s0, s1, s2_, s3⟩ | go_keep)
    (first
      | (go_at_call 51; ((with_reducible refine Calls.mono C1.out ?_); rintro e w1 ⟨x, rfl, hx, k1⟩; obtain ⟨⟨s0, s1, s2_, s3⟩, R1, bw, RB⟩ := KB.out _ k1; have HX := Lib.hid hx; clear hx k1))
      | (go_at_call 35; ((with_reducible refine Calls.mono (C2.out _ _ HX.out) ?_); rintro e w2 ⟨u, rfl, hu, k2⟩; have t0 := bcell k2 _ _ _ s0; have t1 := bcell k2 _ _ _ s1; have t2 := bcell k2 _ _ _ s2_; have t3 := bcell k2 _ _ _ s3; have R2 := Lib.hid (R1.out.keep k2); have bw2 := Lib.hid (bw.out.trans k2); obtain ⟨a0, d0, c0, l0, rfl, hr, hci⟩ := hu.form; obtain ⟨sb, hsb⟩ : ∃ b, decide (z < 0) = b := ⟨_, rfl⟩; rw [hsb] at hci ⊢; obtain ⟨hs1, hs2, r0, r1⟩ := R2.out.store bw2.out (by omega) (.bool sb) (.slice a0 d0 c0); have FIN := Lib.hid (show IPostZ z w (.returned (.agg #[.bool sb, .slice a0 d0 c0])) _ from ⟨_, rfl, hci _ (hs2 _ _ _ _ hr), hs1⟩); have Y0 := (RB.out.1.keep k2).other (g := w.heap.size + 1 + 1) (by omega) 0 1 (.bool sb) (.slice a0 d0 c0); have Y1 := (RB.out.2.keep k2).other (g := w.heap.size + 1 + 1) (by omega) 0 1 (.bool sb) (.slice a0 d0 c0); obtain ⟨y0, y1, _, _, _⟩ := Y0; obtain ⟨y2, y3, _, _, _⟩ := Y1; obtain ⟨q0, q1, q2, q3, _⟩ := R2.out; clear hs1 hs2 hr hci hu k2 hsb)))
  all_goals
    go_wp2
    refine bodyPost_ret (v := .agg #[.bool sb, .slice a0 d0 c0]) (by simp [results, Try.results28, go_sem, r0, r1]) rfl ?_
    exact FIN.out
set_option maxHeartbeats 1000000 in
theorem imul_3 {w : World} {a a2 : Option Addr} {len cap len2 cap2 n m k k2 : Nat} {z : Int} (hm : Nm w (.slice a len cap) n k) (hm2 : Nm w (.slice a2 len2 cap2) m k2) (hk : k ≤ 500000) (hk2 : k2 ≤ 500000) (hsm : k < 48 ∨ k2 < 48) (hz : iv false (n * m) = z) :
    Calls Try.prog 28 #[.agg #[.bool true, .slice a len cap], .agg #[.bool true, .slice a2 len2 cap2]] w (IPostZ z w) := by
  obtain ⟨B0, B1, B2, K⟩ := op_boxes w true a len cap true a2 len2 cap2
  have Kd : Keep w (((w.alloc (.cells #[.bool true, .slice a len cap] 25)).alloc (.cells #[.bool true, .slice a2 len2 cap2] 25)).alloc (.cells #[.bool false, .slice none 0 0] 25)).drew := K.drew
  have C1 := Lib.hid (mul_n ((hm.keep Kd)) ((hm2.keep Kd)) (by omega) (by omega) hsm)
  have C2 := Lib.hid (fun w1 u (hu : Cn w1 u (n * m)) => signed_c false hu)
  rw [hz] at C2
  have KB : Hid (∀ w1, Keep ((((w.alloc (.cells #[.bool true, .slice a len cap] 25)).alloc (.cells #[.bool true, .slice a2 len2 cap2] 25)).alloc (.cells #[.bool false, .slice none 0 0] 25)).drew) w1 → (w1.cell? ⟨w.heap.size, 0, none⟩ = some (.bool true) ∧ w1.cell? ⟨w.heap.size, 1, none⟩ = some (.slice a len cap) ∧ w1.cell? ⟨(w.heap.size + 1), 0, none⟩ = some (.bool true) ∧ w1.cell? ⟨(w.heap.size + 1), 1, none⟩ = some (.slice a2 len2 cap2)) ∧ Hid (RBox (w.heap.size + 1 + 1) (.bool false) (.slice none 0 0) w1) ∧ Hid (Keep w w1) ∧ Hid (RBox w.heap.size (.bool true) (.slice a len cap) w1 ∧ RBox (w.heap.size + 1) (.bool true) (.slice a2 len2 cap2) w1)) := Lib.hid (by
    intro w1 hb
    have kk : Keep (((w.alloc (.cells #[.bool true, .slice a len cap] 25)).alloc (.cells #[.bool true, .slice a2 len2 cap2] 25)).alloc (.cells #[.bool false, .slice none 0 0] 25)) w1 := (keep_drew _).trans hb
    exact ⟨⟨(B0.keep kk).c0, (B0.keep kk).c1, (B1.keep kk).c0, (B1.keep kk).c1⟩, Lib.hid (B2.keep kk), Lib.hid (K.trans kk), Lib.hid ⟨B0.keep kk, B1.keep kk⟩⟩)
  clear hm hm2 K Kd B0 B1 B2 hz
  go_enter Try.func28, Try.ntmps28
  go_wp2
  go_region_held3 (fun w' => w'.cell? ⟨w.heap.size, 0, none⟩ = some (.bool true) ∧ w'.cell? ⟨w.heap.size, 1, none⟩ = some (.slice a len cap) ∧ w'.cell? ⟨(w.heap.size + 1), 0, none⟩ = some (.bool true) ∧ w'.cell? ⟨(w.heap.size + 1), 1, none⟩ = some (.slice a2 len2 cap2)) (first | exact ⟨y0, y1, y2, y3⟩ | exact ⟨t0, t1, t2, t3⟩ | exact ⟨s0, s1, s2_, s3⟩ | go_keep)
    (first
      | (go_at_call 51; ((with_reducible refine Calls.mono C1.out ?_); rintro e w1 ⟨x, rfl, hx, k1⟩; obtain ⟨⟨s0, s1, s2_, s3⟩, R1, bw, RB⟩ := KB.out _ k1; have HX := Lib.hid hx; clear hx k1))
      | (go_at_call 35; ((with_reducible refine Calls.mono (C2.out _ _ HX.out) ?_); rintro e w2 ⟨u, rfl, hu, k2⟩; have t0 := bcell k2 _ _ _ s0; have t1 := bcell k2 _ _ _ s1; have t2 := bcell k2 _ _ _ s2_; have t3 := bcell k2 _ _ _ s3; have R2 := Lib.hid (R1.out.keep k2); have bw2 := Lib.hid (bw.out.trans k2); obtain ⟨a0, d0, c0, l0, rfl, hr, hci⟩ := hu.form; obtain ⟨sb, hsb⟩ : ∃ b, decide (z < 0) = b := ⟨_, rfl⟩; rw [hsb] at hci ⊢; obtain ⟨hs1, hs2, r0, r1⟩ := R2.out.store bw2.out (by omega) (.bool sb) (.slice a0 d0 c0); have FIN := Lib.hid (show IPostZ z w (.returned (.agg #[.bool sb, .slice a0 d0 c0])) _ from ⟨_, rfl, hci _ (hs2 _ _ _ _ hr), hs1⟩); have Y0 := (RB.out.1.keep k2).other (g := w.heap.size + 1 + 1) (by omega) 0 1 (.bool sb) (.slice a0 d0 c0); have Y1 := (RB.out.2.keep k2).other (g := w.heap.size + 1 + 1) (by omega) 0 1 (.bool sb) (.slice a0 d0 c0); obtain ⟨y0, y1, _, _, _⟩ := Y0; obtain ⟨y2, y3, _, _, _⟩ := Y1; obtain ⟨q0, q1, q2, q3, _⟩ := R2.out; clear hs1 hs2 hr hci hu k2 hsb)))
  all_goals
    go_wp2
    refine bodyPost_ret (v := .agg #[.bool sb, .slice a0 d0 c0]) (by simp [results, Try.results28, go_sem, r0, r1]) rfl ?_
    exact FIN.out
set_option maxHeartbeats 1000000 in
theorem riadd_0 {w : World} {a a2 : Option Addr} {len cap len2 cap2 n m k k2 : Nat} {z : Int} (hm : Nm w (.slice a len cap) n k) (hm2 : Nm w (.slice a2 len2 cap2) m k2) (hk : k ≤ 500000) (hk2 : k2 ≤ 500000) (hz : iv false (n + m) = z) :
    Calls Try.prog 24 #[.agg #[.bool false, .slice a len cap], .agg #[.bool false, .slice a2 len2 cap2]] w (IPostZ z w) := by
  obtain ⟨B0, B1, B2, K⟩ := op_boxes w false a len cap false a2 len2 cap2
  have Kd : Keep w (((w.alloc (.cells #[.bool false, .slice a len cap] 25)).alloc (.cells #[.bool false, .slice a2 len2 cap2] 25)).alloc (.cells #[.bool false, .slice none 0 0] 25)).drew := K.drew
  have C1 := Lib.hid (radd_n ((hm.keep Kd)) ((hm2.keep Kd)) (by omega) (by omega))
  have C2 := Lib.hid (fun w1 u (hu : Cn w1 u (n + m)) => rimake_c false (hu.nm (add_lt2 hm.lt hm2.lt)) (by omega))
  rw [hz] at C2
  have KB : Hid (∀ w1, Keep ((((w.alloc (.cells #[.bool false, .slice a len cap] 25)).alloc (.cells #[.bool false, .slice a2 len2 cap2] 25)).alloc (.cells #[.bool false, .slice none 0 0] 25)).drew) w1 → (w1.cell? ⟨w.heap.size, 0, none⟩ = some (.bool false) ∧ w1.cell? ⟨w.heap.size, 1, none⟩ = some (.slice a len cap) ∧ w1.cell? ⟨(w.heap.size + 1), 0, none⟩ = some (.bool false) ∧ w1.cell? ⟨(w.heap.size + 1), 1, none⟩ = some (.slice a2 len2 cap2)) ∧ Hid (RBox (w.heap.size + 1 + 1) (.bool false) (.slice none 0 0) w1) ∧ Hid (Keep w w1) ∧ Hid (RBox w.heap.size (.bool false) (.slice a len cap) w1 ∧ RBox (w.heap.size + 1) (.bool false) (.slice a2 len2 cap2) w1)) := Lib.hid (by
    intro w1 hb
    have kk : Keep (((w.alloc (.cells #[.bool false, .slice a len cap] 25)).alloc (.cells #[.bool false, .slice a2 len2 cap2] 25)).alloc (.cells #[.bool false, .slice none 0 0] 25)) w1 := (keep_drew _).trans hb
    exact ⟨⟨(B0.keep kk).c0, (B0.keep kk).c1, (B1.keep kk).c0, (B1.keep kk).c1⟩, Lib.hid (B2.keep kk), Lib.hid (K.trans kk), Lib.hid ⟨B0.keep kk, B1.keep kk⟩⟩)
  clear hm hm2 K Kd B0 B1 B2 hz
  go_enter Try.func24, Try.ntmps24
  go_wp2
  go_region_held3 (fun w' => w'.cell? ⟨w.heap.size, 0, none⟩ = some (.bool false) ∧ w'.cell? ⟨w.heap.size, 1, none⟩ = some (.slice a len cap) ∧ w'.cell? ⟨(w.heap.size + 1), 0, none⟩ = some (.bool false) ∧ w'.cell? ⟨(w.heap.size + 1), 1, none⟩ = some (.slice a2 len2 cap2)) (first | exact ⟨y0, y1, y2, y3⟩ | exact ⟨t0, t1, t2, t3⟩ | exact ⟨s0, s1, s2_, s3⟩ | go_keep)
    (first
      | (go_at_call 49; ((with_reducible refine Calls.mono C1.out ?_); rintro e w1 ⟨x, rfl, hx, k1⟩; obtain ⟨⟨s0, s1, s2_, s3⟩, R1, bw, RB⟩ := KB.out _ k1; have HX := Lib.hid hx; clear hx k1))
      | (go_at_call 13; ((with_reducible refine Calls.mono (C2.out _ _ HX.out) ?_); rintro e w2 ⟨u, rfl, hu, k2⟩; have t0 := bcell k2 _ _ _ s0; have t1 := bcell k2 _ _ _ s1; have t2 := bcell k2 _ _ _ s2_; have t3 := bcell k2 _ _ _ s3; have R2 := Lib.hid (R1.out.keep k2); have bw2 := Lib.hid (bw.out.trans k2); obtain ⟨a0, d0, c0, l0, rfl, hr, hci⟩ := hu.form; obtain ⟨sb, hsb⟩ : ∃ b, decide (z < 0) = b := ⟨_, rfl⟩; rw [hsb] at hci ⊢; obtain ⟨hs1, hs2, r0, r1⟩ := R2.out.store bw2.out (by omega) (.bool sb) (.slice a0 d0 c0); have FIN := Lib.hid (show IPostZ z w (.returned (.agg #[.bool sb, .slice a0 d0 c0])) _ from ⟨_, rfl, hci _ (hs2 _ _ _ _ hr), hs1⟩); have Y0 := (RB.out.1.keep k2).other (g := w.heap.size + 1 + 1) (by omega) 0 1 (.bool sb) (.slice a0 d0 c0); have Y1 := (RB.out.2.keep k2).other (g := w.heap.size + 1 + 1) (by omega) 0 1 (.bool sb) (.slice a0 d0 c0); obtain ⟨y0, y1, _, _, _⟩ := Y0; obtain ⟨y2, y3, _, _, _⟩ := Y1; obtain ⟨q0, q1, q2, q3, _⟩ := R2.out; clear hs1 hs2 hr hci hu k2 hsb)))
  all_goals
    go_wp2
    refine bodyPost_ret (v := .agg #[.bool sb, .slice a0 d0 c0]) (by simp [results, Try.results24, go_sem, r0, r1]) rfl ?_
    exact FIN.out
set_option maxHeartbeats 1000000 in
theorem riadd_1 {w : World} {a a2 : Option Addr} {len cap len2 cap2 n m k k2 : Nat} {z : Int} (hm : Nm w (.slice a len cap) n k) (hm2 : Nm w (.slice a2 len2 cap2) m k2) (hk : k ≤ 500000) (hk2 : k2 ≤ 500000) (hz : iv true (n + m) = z) :
    Calls Try.prog 24 #[.agg #[.bool true, .slice a len cap], .agg #[.bool true, .slice a2 len2 cap2]] w (IPostZ z w) := by
  obtain ⟨B0, B1, B2, K⟩ := op_boxes w true a len cap true a2 len2 cap2
  have Kd : Keep w (((w.alloc (.cells #[.bool true, .slice a len cap] 25)).alloc (.cells #[.bool true, .slice a2 len2 cap2] 25)).alloc (.cells #[.bool false, .slice none 0 0] 25)).drew := K.drew
  have C1 := Lib.hid (radd_n ((hm.keep Kd)) ((hm2.keep Kd)) (by omega) (by omega))
  have C2 := Lib.hid (fun w1 u (hu : Cn w1 u (n + m)) => rimake_c true (hu.nm (add_lt2 hm.lt hm2.lt)) (by omega))
  rw [hz] at C2
  have KB : Hid (∀ w1, Keep ((((w.alloc (.cells #[.bool true, .slice a len cap] 25)).alloc (.cells #[.bool true, .slice a2 len2 cap2] 25)).alloc (.cells #[.bool false, .slice none 0 0] 25)).drew) w1 → (w1.cell? ⟨w.heap.size, 0, none⟩ = some (.bool true) ∧ w1.cell? ⟨w.heap.size, 1, none⟩ = some (.slice a len cap) ∧ w1.cell? ⟨(w.heap.size + 1), 0, none⟩ = some (.bool true) ∧ w1.cell? ⟨(w.heap.size + 1), 1, none⟩ = some (.slice a2 len2 cap2)) ∧ Hid (RBox (w.heap.size + 1 + 1) (.bool false) (.slice none 0 0) w1) ∧ Hid (Keep w w1) ∧ Hid (RBox w.heap.size (.bool true) (.slice a len cap) w1 ∧ RBox (w.heap.size + 1) (.bool true) (.slice a2 len2 cap2) w1)) := Lib.hid (by
    intro w1 hb
    have kk : Keep (((w.alloc (.cells #[.bool true, .slice a len cap] 25)).alloc (.cells #[.bool true, .slice a2 len2 cap2] 25)).alloc (.cells #[.bool false, .slice none 0 0] 25)) w1 := (keep_drew _).trans hb
    exact ⟨⟨(B0.keep kk).c0, (B0.keep kk).c1, (B1.keep kk).c0, (B1.keep kk).c1⟩, Lib.hid (B2.keep kk), Lib.hid (K.trans kk), Lib.hid ⟨B0.keep kk, B1.keep kk⟩⟩)
  clear hm hm2 K Kd B0 B1 B2 hz
  go_enter Try.func24, Try.ntmps24
  go_wp2
  go_region_held3 (fun w' => w'.cell? ⟨w.heap.size, 0, none⟩ = some (.bool true) ∧ w'.cell? ⟨w.heap.size, 1, none⟩ = some (.slice a len cap) ∧ w'.cell? ⟨(w.heap.size + 1), 0, none⟩ = some (.bool true) ∧ w'.cell? ⟨(w.heap.size + 1), 1, none⟩ = some (.slice a2 len2 cap2)) (first | exact ⟨y0, y1, y2, y3⟩ | exact ⟨t0, t1, t2, t3⟩ | exact ⟨s0, s1, s2_, s3⟩ | go_keep)
    (first
      | (go_at_call 49; ((with_reducible refine Calls.mono C1.out ?_); rintro e w1 ⟨x, rfl, hx, k1⟩; obtain ⟨⟨s0, s1, s2_, s3⟩, R1, bw, RB⟩ := KB.out _ k1; have HX := Lib.hid hx; clear hx k1))
      | (go_at_call 13; ((with_reducible refine Calls.mono (C2.out _ _ HX.out) ?_); rintro e w2 ⟨u, rfl, hu, k2⟩; have t0 := bcell k2 _ _ _ s0; have t1 := bcell k2 _ _ _ s1; have t2 := bcell k2 _ _ _ s2_; have t3 := bcell k2 _ _ _ s3; have R2 := Lib.hid (R1.out.keep k2); have bw2 := Lib.hid (bw.out.trans k2); obtain ⟨a0, d0, c0, l0, rfl, hr, hci⟩ := hu.form; obtain ⟨sb, hsb⟩ : ∃ b, decide (z < 0) = b := ⟨_, rfl⟩; rw [hsb] at hci ⊢; obtain ⟨hs1, hs2, r0, r1⟩ := R2.out.store bw2.out (by omega) (.bool sb) (.slice a0 d0 c0); have FIN := Lib.hid (show IPostZ z w (.returned (.agg #[.bool sb, .slice a0 d0 c0])) _ from ⟨_, rfl, hci _ (hs2 _ _ _ _ hr), hs1⟩); have Y0 := (RB.out.1.keep k2).other (g := w.heap.size + 1 + 1) (by omega) 0 1 (.bool sb) (.slice a0 d0 c0); have Y1 := (RB.out.2.keep k2).other (g := w.heap.size + 1 + 1) (by omega) 0 1 (.bool sb) (.slice a0 d0 c0); obtain ⟨y0, y1, _, _, _⟩ := Y0; obtain ⟨y2, y3, _, _, _⟩ := Y1; obtain ⟨q0, q1, q2, q3, _⟩ := R2.out; clear hs1 hs2 hr hci hu k2 hsb)))
  all_goals
    go_wp2
    refine bodyPost_ret (v := .agg #[.bool sb, .slice a0 d0 c0]) (by simp [results, Try.results24, go_sem, r0, r1]) rfl ?_
    exact FIN.out
set_option maxHeartbeats 1000000 in
theorem iadd_0 {w : World} {a a2 : Option Addr} {len cap len2 cap2 n m k k2 : Nat} {z : Int} (hm : Nm w (.slice a len cap) n k) (hm2 : Nm w (.slice a2 len2 cap2) m k2) (hk : k ≤ 500000) (hk2 : k2 ≤ 500000) (hz : iv false (n + m) = z) :
    Calls Try.prog 23 #[.agg #[.bool false, .slice a len cap], .agg #[.bool false, .slice a2 len2 cap2]] w (IPostZ z w) := by
  obtain ⟨B0, B1, B2, K⟩ := op_boxes w false a len cap false a2 len2 cap2
  have Kd : Keep w (((w.alloc (.cells #[.bool false, .slice a len cap] 25)).alloc (.cells #[.bool false, .slice a2 len2 cap2] 25)).alloc (.cells #[.bool false, .slice none 0 0] 25)).drew := K.drew
  have C1 := Lib.hid (add_n ((hm.keep Kd)) ((hm2.keep Kd)) (by omega) (by omega))
  have C2 := Lib.hid (fun w1 u (hu : Cn w1 u (n + m)) => signed_c false hu)
  rw [hz] at C2
  have KB : Hid (∀ w1, Keep ((((w.alloc (.cells #[.bool false, .slice a len cap] 25)).alloc (.cells #[.bool false, .slice a2 len2 cap2] 25)).alloc (.cells #[.bool false, .slice none 0 0] 25)).drew) w1 → (w1.cell? ⟨w.heap.size, 0, none⟩ = some (.bool false) ∧ w1.cell? ⟨w.heap.size, 1, none⟩ = some (.slice a len cap) ∧ w1.cell? ⟨(w.heap.size + 1), 0, none⟩ = some (.bool false) ∧ w1.cell? ⟨(w.heap.size + 1), 1, none⟩ = some (.slice a2 len2 cap2)) ∧ Hid (RBox (w.heap.size + 1 + 1) (.bool false) (.slice none 0 0) w1) ∧ Hid (Keep w w1) ∧ Hid (RBox w.heap.size (.bool false) (.slice a len cap) w1 ∧ RBox (w.heap.size + 1) (.bool false) (.slice a2 len2 cap2) w1)) := Lib.hid (by
    intro w1 hb
    have kk : Keep (((w.alloc (.cells #[.bool false, .slice a len cap] 25)).alloc (.cells #[.bool false, .slice a2 len2 cap2] 25)).alloc (.cells #[.bool false, .slice none 0 0] 25)) w1 := (keep_drew _).trans hb
    exact ⟨⟨(B0.keep kk).c0, (B0.keep kk).c1, (B1.keep kk).c0, (B1.keep kk).c1⟩, Lib.hid (B2.keep kk), Lib.hid (K.trans kk), Lib.hid ⟨B0.keep kk, B1.keep kk⟩⟩)
  clear hm hm2 K Kd B0 B1 B2 hz
  go_enter Try.func23, Try.ntmps23
  go_wp2
  go_region_held3 (fun w' => w'.cell? ⟨w.heap.size, 0, none⟩ = some (.bool false) ∧ w'.cell? ⟨w.heap.size, 1, none⟩ = some (.slice a len cap) ∧ w'.cell? ⟨(w.heap.size + 1), 0, none⟩ = some (.bool false) ∧ w'.cell? ⟨(w.heap.size + 1), 1, none⟩ = some (.slice a2 len2 cap2)) (first | exact ⟨y0, y1, y2, y3⟩ | exact ⟨t0, t1, t2, t3⟩ | exact ⟨s0, s1, s2_, s3⟩ | go_keep)
    (first
      | (go_at_call 46; ((with_reducible refine Calls.mono C1.out ?_); rintro e w1 ⟨x, rfl, hx, k1⟩; obtain ⟨⟨s0, s1, s2_, s3⟩, R1, bw, RB⟩ := KB.out _ k1; have HX := Lib.hid hx; clear hx k1))
      | (go_at_call 35; ((with_reducible refine Calls.mono (C2.out _ _ HX.out) ?_); rintro e w2 ⟨u, rfl, hu, k2⟩; have t0 := bcell k2 _ _ _ s0; have t1 := bcell k2 _ _ _ s1; have t2 := bcell k2 _ _ _ s2_; have t3 := bcell k2 _ _ _ s3; have R2 := Lib.hid (R1.out.keep k2); have bw2 := Lib.hid (bw.out.trans k2); obtain ⟨a0, d0, c0, l0, rfl, hr, hci⟩ := hu.form; obtain ⟨sb, hsb⟩ : ∃ b, decide (z < 0) = b := ⟨_, rfl⟩; rw [hsb] at hci ⊢; obtain ⟨hs1, hs2, r0, r1⟩ := R2.out.store bw2.out (by omega) (.bool sb) (.slice a0 d0 c0); have FIN := Lib.hid (show IPostZ z w (.returned (.agg #[.bool sb, .slice a0 d0 c0])) _ from ⟨_, rfl, hci _ (hs2 _ _ _ _ hr), hs1⟩); have Y0 := (RB.out.1.keep k2).other (g := w.heap.size + 1 + 1) (by omega) 0 1 (.bool sb) (.slice a0 d0 c0); have Y1 := (RB.out.2.keep k2).other (g := w.heap.size + 1 + 1) (by omega) 0 1 (.bool sb) (.slice a0 d0 c0); obtain ⟨y0, y1, _, _, _⟩ := Y0; obtain ⟨y2, y3, _, _, _⟩ := Y1; obtain ⟨q0, q1, q2, q3, _⟩ := R2.out; clear hs1 hs2 hr hci hu k2 hsb)))
  all_goals
    go_wp2
    refine bodyPost_ret (v := .agg #[.bool sb, .slice a0 d0 c0]) (by simp [results, Try.results23, go_sem, r0, r1]) rfl ?_
    exact FIN.out
set_option maxHeartbeats 1000000 in
theorem iadd_1 {w : World} {a a2 : Option Addr} {len cap len2 cap2 n m k k2 : Nat} {z : Int} (hm : Nm w (.slice a len cap) n k) (hm2 : Nm w (.slice a2 len2 cap2) m k2) (hk : k ≤ 500000) (hk2 : k2 ≤ 500000) (hz : iv true (n + m) = z) :
    Calls Try.prog 23 #[.agg #[.bool true, .slice a len cap], .agg #[.bool true, .slice a2 len2 cap2]] w (IPostZ z w) := by
  obtain ⟨B0, B1, B2, K⟩ := op_boxes w true a len cap true a2 len2 cap2
  have Kd : Keep w (((w.alloc (.cells #[.bool true, .slice a len cap] 25)).alloc (.cells #[.bool true, .slice a2 len2 cap2] 25)).alloc (.cells #[.bool false, .slice none 0 0] 25)).drew := K.drew
  have C1 := Lib.hid (add_n ((hm.keep Kd)) ((hm2.keep Kd)) (by omega) (by omega))
  have C2 := Lib.hid (fun w1 u (hu : Cn w1 u (n + m)) => signed_c true hu)
  rw [hz] at C2
  have KB : Hid (∀ w1, Keep ((((w.alloc (.cells #[.bool true, .slice a len cap] 25)).alloc (.cells #[.bool true, .slice a2 len2 cap2] 25)).alloc (.cells #[.bool false, .slice none 0 0] 25)).drew) w1 → (w1.cell? ⟨w.heap.size, 0, none⟩ = some (.bool true) ∧ w1.cell? ⟨w.heap.size, 1, none⟩ = some (.slice a len cap) ∧ w1.cell? ⟨(w.heap.size + 1), 0, none⟩ = some (.bool true) ∧ w1.cell? ⟨(w.heap.size + 1), 1, none⟩ = some (.slice a2 len2 cap2)) ∧ Hid (RBox (w.heap.size + 1 + 1) (.bool false) (.slice none 0 0) w1) ∧ Hid (Keep w w1) ∧ Hid (RBox w.heap.size (.bool true) (.slice a len cap) w1 ∧ RBox (w.heap.size + 1) (.bool true) (.slice a2 len2 cap2) w1)) := Lib.hid (by
    intro w1 hb
    have kk : Keep (((w.alloc (.cells #[.bool true, .slice a len cap] 25)).alloc (.cells #[.bool true, .slice a2 len2 cap2] 25)).alloc (.cells #[.bool false, .slice none 0 0] 25)) w1 := (keep_drew _).trans hb
    exact ⟨⟨(B0.keep kk).c0, (B0.keep kk).c1, (B1.keep kk).c0, (B1.keep kk).c1⟩, Lib.hid (B2.keep kk), Lib.hid (K.trans kk), Lib.hid ⟨B0.keep kk, B1.keep kk⟩⟩)
  clear hm hm2 K Kd B0 B1 B2 hz
  go_enter Try.func23, Try.ntmps23
  go_wp2
  go_region_held3 (fun w' => w'.cell? ⟨w.heap.size, 0, none⟩ = some (.bool true) ∧ w'.cell? ⟨w.heap.size, 1, none⟩ = some (.slice a len cap) ∧ w'.cell? ⟨(w.heap.size + 1), 0, none⟩ = some (.bool true) ∧ w'.cell? ⟨(w.heap.size + 1), 1, none⟩ = some (.slice a2 len2 cap2)) (first | exact ⟨y0, y1, y2, y3⟩ | exact ⟨t0, t1, t2, t3⟩ | exact ⟨s0, s1, s2_, s3⟩ | go_keep)
    (first
      | (go_at_call 46; ((with_reducible refine Calls.mono C1.out ?_); rintro e w1 ⟨x, rfl, hx, k1⟩; obtain ⟨⟨s0, s1, s2_, s3⟩, R1, bw, RB⟩ := KB.out _ k1; have HX := Lib.hid hx; clear hx k1))
      | (go_at_call 35; ((with_reducible refine Calls.mono (C2.out _ _ HX.out) ?_); rintro e w2 ⟨u, rfl, hu, k2⟩; have t0 := bcell k2 _ _ _ s0; have t1 := bcell k2 _ _ _ s1; have t2 := bcell k2 _ _ _ s2_; have t3 := bcell k2 _ _ _ s3; have R2 := Lib.hid (R1.out.keep k2); have bw2 := Lib.hid (bw.out.trans k2); obtain ⟨a0, d0, c0, l0, rfl, hr, hci⟩ := hu.form; obtain ⟨sb, hsb⟩ : ∃ b, decide (z < 0) = b := ⟨_, rfl⟩; rw [hsb] at hci ⊢; obtain ⟨hs1, hs2, r0, r1⟩ := R2.out.store bw2.out (by omega) (.bool sb) (.slice a0 d0 c0); have FIN := Lib.hid (show IPostZ z w (.returned (.agg #[.bool sb, .slice a0 d0 c0])) _ from ⟨_, rfl, hci _ (hs2 _ _ _ _ hr), hs1⟩); have Y0 := (RB.out.1.keep k2).other (g := w.heap.size + 1 + 1) (by omega) 0 1 (.bool sb) (.slice a0 d0 c0); have Y1 := (RB.out.2.keep k2).other (g := w.heap.size + 1 + 1) (by omega) 0 1 (.bool sb) (.slice a0 d0 c0); obtain ⟨y0, y1, _, _, _⟩ := Y0; obtain ⟨y2, y3, _, _, _⟩ := Y1; obtain ⟨q0, q1, q2, q3, _⟩ := R2.out; clear hs1 hs2 hr hci hu k2 hsb)))
  all_goals
    go_wp2
    refine bodyPost_ret (v := .agg #[.bool sb, .slice a0 d0 c0]) (by simp [results, Try.results23, go_sem, r0, r1]) rfl ?_
    exact FIN.out
end Go.Proofs.Ytjkfnnoakjdgmaa
