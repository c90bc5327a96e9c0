/- Carried over from another seat by program (portn.py). -/
import Derived.Test.YtnalmjbgkedcoaaDoorIG
namespace Go.Proofs.YtnalmjbgkedcoaaDoor
open Go.RowKit
set_option linter.unusedVariables false
theorem keep_new (w : World) (o : Obj) : Keep w (w.alloc o).drew := ((Keep.refl w).alloc o).drew
theorem keep_drew (w : World) : Keep w w.drew := (Keep.refl w).drew
theorem rmul_n {w : World} {v u : Value} {n m k j : Nat} (h : Nm w v n k) (h' : Nm w u m j) (hk : k + j ≤ 1048575) :
    Calls Tryd.prog 54 #[v, u] w fun e w' => ∃ x, e = .returned x ∧ Cn w' x (n * m) ∧ Keep w w' := by
  obtain ⟨l, ⟨a, len, cap, rfl, hr⟩, rfl, hl⟩ := h
  obtain ⟨l', ⟨a', len', cap', rfl, hr'⟩, rfl, hl'⟩ := h'
  exact (rmul_c _ _ _ _ _ _ _ _ w hr hr' (by rw [← hr.len_eq, ← hr'.len_eq]; omega)).mono fun _ _ h => h.cn
/-- the three boxes of an operation -/
theorem op_boxes (w : World) (s : Bool) (a : Option Addr) (n c : Nat) (s' : Bool) (a' : Option Addr) (n' c' : Nat) :
    RBox w.heap.size (.bool s) (.slice a n c) (((w.alloc (.cells #[.bool s, .slice a n c] 51)).alloc (.cells #[.bool s', .slice a' n' c'] 51)).alloc (.cells #[.bool false, .slice none 0 0] 51)) ∧
    RBox (w.heap.size + 1) (.bool s') (.slice a' n' c') (((w.alloc (.cells #[.bool s, .slice a n c] 51)).alloc (.cells #[.bool s', .slice a' n' c'] 51)).alloc (.cells #[.bool false, .slice none 0 0] 51)) ∧
    RBox (w.heap.size + 2) (.bool false) (.slice none 0 0) (((w.alloc (.cells #[.bool s, .slice a n c] 51)).alloc (.cells #[.bool s', .slice a' n' c'] 51)).alloc (.cells #[.bool false, .slice none 0 0] 51)) ∧
    Keep w (((w.alloc (.cells #[.bool s, .slice a n c] 51)).alloc (.cells #[.bool s', .slice a' n' c'] 51)).alloc (.cells #[.bool false, .slice none 0 0] 51)) :=
  ⟨(RBox.new w s a n c).keep (((Keep.refl _).alloc _).alloc _), ((RBox.new (w.alloc _) s' a' n' c').at (sz1 _ _)).keep ((Keep.refl _).alloc _), (RBox.new ((w.alloc _).alloc _) false none 0 0).at (sz2 _ _ _), (((Keep.refl w).alloc _).alloc _).alloc _⟩
theorem mul_lt {n m k j : Nat} (h : n < BB ^ k) (h' : m < BB ^ j) : n * m < BB ^ (k + j) := by
  rw [Nat.pow_add]
  exact Nat.mul_lt_mul'' h h'
theorem add_lt2 {n m k j : Nat} (h : n < BB ^ k) (h' : m < BB ^ j) : n + m < BB ^ (k + j + 1) := by
  have h1 : BB ^ k ≤ BB ^ (k + j) := Nat.pow_le_pow_right BB_pos (by omega)
  have h2 : BB ^ j ≤ BB ^ (k + j) := Nat.pow_le_pow_right BB_pos (by omega)
  have h3 : BB ^ (k + j + 1) = BB ^ (k + j) * BB := Nat.pow_succ ..
  have h4 : BB ^ (k + j) * 2 ≤ BB ^ (k + j) * BB := Nat.mul_le_mul_left _ (by decide)
  omega
set_option maxHeartbeats 1000000 in
theorem riadd_0 {w : World} {a a2 : Option Addr} {len cap len2 cap2 n m k k2 : Nat} {z : Int} (hm : Nm w (.slice a len cap) n k) (hm2 : Nm w (.slice a2 len2 cap2) m k2) (hk : k ≤ 500000) (hk2 : k2 ≤ 500000) (hz : iv false (n + m) = z) :
    Calls Tryd.prog 56 #[.agg #[.bool false, .slice a len cap], .agg #[.bool false, .slice a2 len2 cap2]] w (IPostZ z w) := by
  obtain ⟨B0, B1, B2, K⟩ := op_boxes w false a len cap false a2 len2 cap2
  have Kd : Keep w (((w.alloc (.cells #[.bool false, .slice a len cap] 51)).alloc (.cells #[.bool false, .slice a2 len2 cap2] 51)).alloc (.cells #[.bool false, .slice none 0 0] 51)).drew := K.drew
  have C1 := Lib.hid (radd_n ((hm.keep Kd)) ((hm2.keep Kd)) (by omega) (by omega))
  have C2 := Lib.hid (fun w1 u (hu : Cn w1 u (n + m)) => rimake_c false (hu.nm (add_lt2 hm.lt hm2.lt)) (by omega))
  rw [hz] at C2
  have KB : Hid (∀ w1, Keep ((((w.alloc (.cells #[.bool false, .slice a len cap] 51)).alloc (.cells #[.bool false, .slice a2 len2 cap2] 51)).alloc (.cells #[.bool false, .slice none 0 0] 51)).drew) w1 → (w1.cell? ⟨w.heap.size, 0, none⟩ = some (.bool false) ∧ w1.cell? ⟨w.heap.size, 1, none⟩ = some (.slice a len cap) ∧ w1.cell? ⟨(w.heap.size + 1), 0, none⟩ = some (.bool false) ∧ w1.cell? ⟨(w.heap.size + 1), 1, none⟩ = some (.slice a2 len2 cap2)) ∧ Hid (RBox (w.heap.size + 1 + 1) (.bool false) (.slice none 0 0) w1) ∧ Hid (Keep w w1) ∧ Hid (RBox w.heap.size (.bool false) (.slice a len cap) w1 ∧ RBox (w.heap.size + 1) (.bool false) (.slice a2 len2 cap2) w1)) := Lib.hid (by
    intro w1 hb
    have kk : Keep (((w.alloc (.cells #[.bool false, .slice a len cap] 51)).alloc (.cells #[.bool false, .slice a2 len2 cap2] 51)).alloc (.cells #[.bool false, .slice none 0 0] 51)) w1 := (keep_drew _).trans hb
    exact ⟨⟨(B0.keep kk).c0, (B0.keep kk).c1, (B1.keep kk).c0, (B1.keep kk).c1⟩, Lib.hid (B2.keep kk), Lib.hid (K.trans kk), Lib.hid ⟨B0.keep kk, B1.keep kk⟩⟩)
  clear hm hm2 K Kd B0 B1 B2 hz
  go_enter Tryd.func56, Tryd.ntmps56
  go_wp2
  go_region_held3 (fun w' => w'.cell? ⟨w.heap.size, 0, none⟩ = some (.bool false) ∧ w'.cell? ⟨w.heap.size, 1, none⟩ = some (.slice a len cap) ∧ w'.cell? ⟨(w.heap.size + 1), 0, none⟩ = some (.bool false) ∧ w'.cell? ⟨(w.heap.size + 1), 1, none⟩ = some (.slice a2 len2 cap2)) (first | exact ⟨y0, y1, y2, y3⟩ | exact ⟨t0, t1, t2, t3⟩ | exact ⟨s0, s1, s2_, s3⟩ | go_keep)
    (first
      | (go_at_call 74; ((with_reducible refine Calls.mono C1.out ?_); rintro e w1 ⟨x, rfl, hx, k1⟩; obtain ⟨⟨s0, s1, s2_, s3⟩, R1, bw, RB⟩ := KB.out _ k1; have HX := Lib.hid hx; clear hx k1))
      | (go_at_call 59; ((with_reducible refine Calls.mono (C2.out _ _ HX.out) ?_); rintro e w2 ⟨u, rfl, hu, k2⟩; have t0 := bcell k2 _ _ _ s0; have t1 := bcell k2 _ _ _ s1; have t2 := bcell k2 _ _ _ s2_; have t3 := bcell k2 _ _ _ s3; have R2 := Lib.hid (R1.out.keep k2); have bw2 := Lib.hid (bw.out.trans k2); obtain ⟨a0, d0, c0, l0, rfl, hr, hci⟩ := hu.form; obtain ⟨sb, hsb⟩ : ∃ b, decide (z < 0) = b := ⟨_, rfl⟩; rw [hsb] at hci ⊢; obtain ⟨hs1, hs2, r0, r1⟩ := R2.out.store bw2.out (by omega) (.bool sb) (.slice a0 d0 c0); have FIN := Lib.hid (show IPostZ z w (.returned (.agg #[.bool sb, .slice a0 d0 c0])) _ from ⟨_, rfl, hci _ (hs2 _ _ _ _ hr), hs1⟩); have Y0 := (RB.out.1.keep k2).other (g := w.heap.size + 1 + 1) (by omega) 0 1 (.bool sb) (.slice a0 d0 c0); have Y1 := (RB.out.2.keep k2).other (g := w.heap.size + 1 + 1) (by omega) 0 1 (.bool sb) (.slice a0 d0 c0); obtain ⟨y0, y1, _, _, _⟩ := Y0; obtain ⟨y2, y3, _, _, _⟩ := Y1; obtain ⟨q0, q1, q2, q3, _⟩ := R2.out; clear hs1 hs2 hr hci hu k2 hsb)))
  all_goals
    go_wp2
    refine bodyPost_ret (v := .agg #[.bool sb, .slice a0 d0 c0]) (by simp [results, Tryd.results56, go_sem, r0, r1]) rfl ?_
    exact FIN.out
set_option maxHeartbeats 1000000 in
theorem riadd_1 {w : World} {a a2 : Option Addr} {len cap len2 cap2 n m k k2 : Nat} {z : Int} (hm : Nm w (.slice a len cap) n k) (hm2 : Nm w (.slice a2 len2 cap2) m k2) (hk : k ≤ 500000) (hk2 : k2 ≤ 500000) (hz : iv true (n + m) = z) :
    Calls Tryd.prog 56 #[.agg #[.bool true, .slice a len cap], .agg #[.bool true, .slice a2 len2 cap2]] w (IPostZ z w) := by
  obtain ⟨B0, B1, B2, K⟩ := op_boxes w true a len cap true a2 len2 cap2
  have Kd : Keep w (((w.alloc (.cells #[.bool true, .slice a len cap] 51)).alloc (.cells #[.bool true, .slice a2 len2 cap2] 51)).alloc (.cells #[.bool false, .slice none 0 0] 51)).drew := K.drew
  have C1 := Lib.hid (radd_n ((hm.keep Kd)) ((hm2.keep Kd)) (by omega) (by omega))
  have C2 := Lib.hid (fun w1 u (hu : Cn w1 u (n + m)) => rimake_c true (hu.nm (add_lt2 hm.lt hm2.lt)) (by omega))
  rw [hz] at C2
  have KB : Hid (∀ w1, Keep ((((w.alloc (.cells #[.bool true, .slice a len cap] 51)).alloc (.cells #[.bool true, .slice a2 len2 cap2] 51)).alloc (.cells #[.bool false, .slice none 0 0] 51)).drew) w1 → (w1.cell? ⟨w.heap.size, 0, none⟩ = some (.bool true) ∧ w1.cell? ⟨w.heap.size, 1, none⟩ = some (.slice a len cap) ∧ w1.cell? ⟨(w.heap.size + 1), 0, none⟩ = some (.bool true) ∧ w1.cell? ⟨(w.heap.size + 1), 1, none⟩ = some (.slice a2 len2 cap2)) ∧ Hid (RBox (w.heap.size + 1 + 1) (.bool false) (.slice none 0 0) w1) ∧ Hid (Keep w w1) ∧ Hid (RBox w.heap.size (.bool true) (.slice a len cap) w1 ∧ RBox (w.heap.size + 1) (.bool true) (.slice a2 len2 cap2) w1)) := Lib.hid (by
    intro w1 hb
    have kk : Keep (((w.alloc (.cells #[.bool true, .slice a len cap] 51)).alloc (.cells #[.bool true, .slice a2 len2 cap2] 51)).alloc (.cells #[.bool false, .slice none 0 0] 51)) w1 := (keep_drew _).trans hb
    exact ⟨⟨(B0.keep kk).c0, (B0.keep kk).c1, (B1.keep kk).c0, (B1.keep kk).c1⟩, Lib.hid (B2.keep kk), Lib.hid (K.trans kk), Lib.hid ⟨B0.keep kk, B1.keep kk⟩⟩)
  clear hm hm2 K Kd B0 B1 B2 hz
  go_enter Tryd.func56, Tryd.ntmps56
  go_wp2
  go_region_held3 (fun w' => w'.cell? ⟨w.heap.size, 0, none⟩ = some (.bool true) ∧ w'.cell? ⟨w.heap.size, 1, none⟩ = some (.slice a len cap) ∧ w'.cell? ⟨(w.heap.size + 1), 0, none⟩ = some (.bool true) ∧ w'.cell? ⟨(w.heap.size + 1), 1, none⟩ = some (.slice a2 len2 cap2)) (first | exact ⟨y0, y1, y2, y3⟩ | exact ⟨t0, t1, t2, t3⟩ | exact ⟨s0, s1, s2_, s3⟩ | go_keep)
    (first
      | (go_at_call 74; ((with_reducible refine Calls.mono C1.out ?_); rintro e w1 ⟨x, rfl, hx, k1⟩; obtain ⟨⟨s0, s1, s2_, s3⟩, R1, bw, RB⟩ := KB.out _ k1; have HX := Lib.hid hx; clear hx k1))
      | (go_at_call 59; ((with_reducible refine Calls.mono (C2.out _ _ HX.out) ?_); rintro e w2 ⟨u, rfl, hu, k2⟩; have t0 := bcell k2 _ _ _ s0; have t1 := bcell k2 _ _ _ s1; have t2 := bcell k2 _ _ _ s2_; have t3 := bcell k2 _ _ _ s3; have R2 := Lib.hid (R1.out.keep k2); have bw2 := Lib.hid (bw.out.trans k2); obtain ⟨a0, d0, c0, l0, rfl, hr, hci⟩ := hu.form; obtain ⟨sb, hsb⟩ : ∃ b, decide (z < 0) = b := ⟨_, rfl⟩; rw [hsb] at hci ⊢; obtain ⟨hs1, hs2, r0, r1⟩ := R2.out.store bw2.out (by omega) (.bool sb) (.slice a0 d0 c0); have FIN := Lib.hid (show IPostZ z w (.returned (.agg #[.bool sb, .slice a0 d0 c0])) _ from ⟨_, rfl, hci _ (hs2 _ _ _ _ hr), hs1⟩); have Y0 := (RB.out.1.keep k2).other (g := w.heap.size + 1 + 1) (by omega) 0 1 (.bool sb) (.slice a0 d0 c0); have Y1 := (RB.out.2.keep k2).other (g := w.heap.size + 1 + 1) (by omega) 0 1 (.bool sb) (.slice a0 d0 c0); obtain ⟨y0, y1, _, _, _⟩ := Y0; obtain ⟨y2, y3, _, _, _⟩ := Y1; obtain ⟨q0, q1, q2, q3, _⟩ := R2.out; clear hs1 hs2 hr hci hu k2 hsb)))
  all_goals
    go_wp2
    refine bodyPost_ret (v := .agg #[.bool sb, .slice a0 d0 c0]) (by simp [results, Tryd.results56, go_sem, r0, r1]) rfl ?_
    exact FIN.out
set_option maxHeartbeats 1000000 in
theorem iadd_0 {w : World} {a a2 : Option Addr} {len cap len2 cap2 n m k k2 : Nat} {z : Int} (hm : Nm w (.slice a len cap) n k) (hm2 : Nm w (.slice a2 len2 cap2) m k2) (hk : k ≤ 500000) (hk2 : k2 ≤ 500000) (hz : iv false (n + m) = z) :
    Calls Tryd.prog 51 #[.agg #[.bool false, .slice a len cap], .agg #[.bool false, .slice a2 len2 cap2]] w (IPostZ z w) := by
  obtain ⟨B0, B1, B2, K⟩ := op_boxes w false a len cap false a2 len2 cap2
  have Kd : Keep w (((w.alloc (.cells #[.bool false, .slice a len cap] 51)).alloc (.cells #[.bool false, .slice a2 len2 cap2] 51)).alloc (.cells #[.bool false, .slice none 0 0] 51)).drew := K.drew
  have C1 := Lib.hid (add_n ((hm.keep Kd)) ((hm2.keep Kd)) (by omega) (by omega))
  have C2 := Lib.hid (fun w1 u (hu : Cn w1 u (n + m)) => signed_c false hu)
  rw [hz] at C2
  have KB : Hid (∀ w1, Keep ((((w.alloc (.cells #[.bool false, .slice a len cap] 51)).alloc (.cells #[.bool false, .slice a2 len2 cap2] 51)).alloc (.cells #[.bool false, .slice none 0 0] 51)).drew) w1 → (w1.cell? ⟨w.heap.size, 0, none⟩ = some (.bool false) ∧ w1.cell? ⟨w.heap.size, 1, none⟩ = some (.slice a len cap) ∧ w1.cell? ⟨(w.heap.size + 1), 0, none⟩ = some (.bool false) ∧ w1.cell? ⟨(w.heap.size + 1), 1, none⟩ = some (.slice a2 len2 cap2)) ∧ Hid (RBox (w.heap.size + 1 + 1) (.bool false) (.slice none 0 0) w1) ∧ Hid (Keep w w1) ∧ Hid (RBox w.heap.size (.bool false) (.slice a len cap) w1 ∧ RBox (w.heap.size + 1) (.bool false) (.slice a2 len2 cap2) w1)) := Lib.hid (by
    intro w1 hb
    have kk : Keep (((w.alloc (.cells #[.bool false, .slice a len cap] 51)).alloc (.cells #[.bool false, .slice a2 len2 cap2] 51)).alloc (.cells #[.bool false, .slice none 0 0] 51)) w1 := (keep_drew _).trans hb
    exact ⟨⟨(B0.keep kk).c0, (B0.keep kk).c1, (B1.keep kk).c0, (B1.keep kk).c1⟩, Lib.hid (B2.keep kk), Lib.hid (K.trans kk), Lib.hid ⟨B0.keep kk, B1.keep kk⟩⟩)
  clear hm hm2 K Kd B0 B1 B2 hz
  go_enter Tryd.func51, Tryd.ntmps51
  go_wp2
  go_region_held3 (fun w' => w'.cell? ⟨w.heap.size, 0, none⟩ = some (.bool false) ∧ w'.cell? ⟨w.heap.size, 1, none⟩ = some (.slice a len cap) ∧ w'.cell? ⟨(w.heap.size + 1), 0, none⟩ = some (.bool false) ∧ w'.cell? ⟨(w.heap.size + 1), 1, none⟩ = some (.slice a2 len2 cap2)) (first | exact ⟨y0, y1, y2, y3⟩ | exact ⟨t0, t1, t2, t3⟩ | exact ⟨s0, s1, s2_, s3⟩ | go_keep)
    (first
      | (go_at_call 69; ((with_reducible refine Calls.mono C1.out ?_); rintro e w1 ⟨x, rfl, hx, k1⟩; obtain ⟨⟨s0, s1, s2_, s3⟩, R1, bw, RB⟩ := KB.out _ k1; have HX := Lib.hid hx; clear hx k1))
      | (go_at_call 71; ((with_reducible refine Calls.mono (C2.out _ _ HX.out) ?_); rintro e w2 ⟨u, rfl, hu, k2⟩; have t0 := bcell k2 _ _ _ s0; have t1 := bcell k2 _ _ _ s1; have t2 := bcell k2 _ _ _ s2_; have t3 := bcell k2 _ _ _ s3; have R2 := Lib.hid (R1.out.keep k2); have bw2 := Lib.hid (bw.out.trans k2); obtain ⟨a0, d0, c0, l0, rfl, hr, hci⟩ := hu.form; obtain ⟨sb, hsb⟩ : ∃ b, decide (z < 0) = b := ⟨_, rfl⟩; rw [hsb] at hci ⊢; obtain ⟨hs1, hs2, r0, r1⟩ := R2.out.store bw2.out (by omega) (.bool sb) (.slice a0 d0 c0); have FIN := Lib.hid (show IPostZ z w (.returned (.agg #[.bool sb, .slice a0 d0 c0])) _ from ⟨_, rfl, hci _ (hs2 _ _ _ _ hr), hs1⟩); have Y0 := (RB.out.1.keep k2).other (g := w.heap.size + 1 + 1) (by omega) 0 1 (.bool sb) (.slice a0 d0 c0); have Y1 := (RB.out.2.keep k2).other (g := w.heap.size + 1 + 1) (by omega) 0 1 (.bool sb) (.slice a0 d0 c0); obtain ⟨y0, y1, _, _, _⟩ := Y0; obtain ⟨y2, y3, _, _, _⟩ := Y1; obtain ⟨q0, q1, q2, q3, _⟩ := R2.out; clear hs1 hs2 hr hci hu k2 hsb)))
  all_goals
    go_wp2
    refine bodyPost_ret (v := .agg #[.bool sb, .slice a0 d0 c0]) (by simp [results, Tryd.results51, go_sem, r0, r1]) rfl ?_
    exact FIN.out
set_option maxHeartbeats 1000000 in
theorem iadd_1 {w : World} {a a2 : Option Addr} {len cap len2 cap2 n m k k2 : Nat} {z : Int} (hm : Nm w (.slice a len cap) n k) (hm2 : Nm w (.slice a2 len2 cap2) m k2) (hk : k ≤ 500000) (hk2 : k2 ≤ 500000) (hz : iv true (n + m) = z) :
    Calls Tryd.prog 51 #[.agg #[.bool true, .slice a len cap], .agg #[.bool true, .slice a2 len2 cap2]] w (IPostZ z w) := by
  obtain ⟨B0, B1, B2, K⟩ := op_boxes w true a len cap true a2 len2 cap2
  have Kd : Keep w (((w.alloc (.cells #[.bool true, .slice a len cap] 51)).alloc (.cells #[.bool true, .slice a2 len2 cap2] 51)).alloc (.cells #[.bool false, .slice none 0 0] 51)).drew := K.drew
  have C1 := Lib.hid (add_n ((hm.keep Kd)) ((hm2.keep Kd)) (by omega) (by omega))
  have C2 := Lib.hid (fun w1 u (hu : Cn w1 u (n + m)) => signed_c true hu)
  rw [hz] at C2
  have KB : Hid (∀ w1, Keep ((((w.alloc (.cells #[.bool true, .slice a len cap] 51)).alloc (.cells #[.bool true, .slice a2 len2 cap2] 51)).alloc (.cells #[.bool false, .slice none 0 0] 51)).drew) w1 → (w1.cell? ⟨w.heap.size, 0, none⟩ = some (.bool true) ∧ w1.cell? ⟨w.heap.size, 1, none⟩ = some (.slice a len cap) ∧ w1.cell? ⟨(w.heap.size + 1), 0, none⟩ = some (.bool true) ∧ w1.cell? ⟨(w.heap.size + 1), 1, none⟩ = some (.slice a2 len2 cap2)) ∧ Hid (RBox (w.heap.size + 1 + 1) (.bool false) (.slice none 0 0) w1) ∧ Hid (Keep w w1) ∧ Hid (RBox w.heap.size (.bool true) (.slice a len cap) w1 ∧ RBox (w.heap.size + 1) (.bool true) (.slice a2 len2 cap2) w1)) := Lib.hid (by
    intro w1 hb
    have kk : Keep (((w.alloc (.cells #[.bool true, .slice a len cap] 51)).alloc (.cells #[.bool true, .slice a2 len2 cap2] 51)).alloc (.cells #[.bool false, .slice none 0 0] 51)) w1 := (keep_drew _).trans hb
    exact ⟨⟨(B0.keep kk).c0, (B0.keep kk).c1, (B1.keep kk).c0, (B1.keep kk).c1⟩, Lib.hid (B2.keep kk), Lib.hid (K.trans kk), Lib.hid ⟨B0.keep kk, B1.keep kk⟩⟩)
  clear hm hm2 K Kd B0 B1 B2 hz
  go_enter Tryd.func51, Tryd.ntmps51
  go_wp2
  go_region_held3 (fun w' => w'.cell? ⟨w.heap.size, 0, none⟩ = some (.bool true) ∧ w'.cell? ⟨w.heap.size, 1, none⟩ = some (.slice a len cap) ∧ w'.cell? ⟨(w.heap.size + 1), 0, none⟩ = some (.bool true) ∧ w'.cell? ⟨(w.heap.size + 1), 1, none⟩ = some (.slice a2 len2 cap2)) (first | exact ⟨y0, y1, y2, y3⟩ | exact ⟨t0, t1, t2, t3⟩ | exact ⟨s0, s1, s2_, s3⟩ | go_keep)
    (first
      | (go_at_call 69; ((with_reducible refine Calls.mono C1.out ?_); rintro e w1 ⟨x, rfl, hx, k1⟩; obtain ⟨⟨s0, s1, s2_, s3⟩, R1, bw, RB⟩ := KB.out _ k1; have HX := Lib.hid hx; clear hx k1))
      | (go_at_call 71; ((with_reducible refine Calls.mono (C2.out _ _ HX.out) ?_); rintro e w2 ⟨u, rfl, hu, k2⟩; have t0 := bcell k2 _ _ _ s0; have t1 := bcell k2 _ _ _ s1; have t2 := bcell k2 _ _ _ s2_; have t3 := bcell k2 _ _ _ s3; have R2 := Lib.hid (R1.out.keep k2); have bw2 := Lib.hid (bw.out.trans k2); obtain ⟨a0, d0, c0, l0, rfl, hr, hci⟩ := hu.form; obtain ⟨sb, hsb⟩ : ∃ b, decide (z < 0) = b := ⟨_, rfl⟩; rw [hsb] at hci ⊢; obtain ⟨hs1, hs2, r0, r1⟩ := R2.out.store bw2.out (by omega) (.bool sb) (.slice a0 d0 c0); have FIN := Lib.hid (show IPostZ z w (.returned (.agg #[.bool sb, .slice a0 d0 c0])) _ from ⟨_, rfl, hci _ (hs2 _ _ _ _ hr), hs1⟩); have Y0 := (RB.out.1.keep k2).other (g := w.heap.size + 1 + 1) (by omega) 0 1 (.bool sb) (.slice a0 d0 c0); have Y1 := (RB.out.2.keep k2).other (g := w.heap.size + 1 + 1) (by omega) 0 1 (.bool sb) (.slice a0 d0 c0); obtain ⟨y0, y1, _, _, _⟩ := Y0; obtain ⟨y2, y3, _, _, _⟩ := Y1; obtain ⟨q0, q1, q2, q3, _⟩ := R2.out; clear hs1 hs2 hr hci hu k2 hsb)))
  all_goals
    go_wp2
    refine bodyPost_ret (v := .agg #[.bool sb, .slice a0 d0 c0]) (by simp [results, Tryd.results51, go_sem, r0, r1]) rfl ?_
    exact FIN.out

set_option maxHeartbeats 1000000 in
theorem iaddx_0 {w : World} {a a2 : Option Addr} {len cap len2 cap2 n m k k2 : Nat} {z : Int} (hm : Nm w (.slice a len cap) n k) (hm2 : Nm w (.slice a2 len2 cap2) m k2) (hk : k ≤ 500000) (hk2 : k2 ≤ 500000) (h : m ≤ n) (hz : iv false (n - m) = z) :
    Calls Tryd.prog 51 #[.agg #[.bool false, .slice a len cap], .agg #[.bool true, .slice a2 len2 cap2]] w (IPostZ z w) := by
  obtain ⟨B0, B1, B2, K⟩ := op_boxes w false a len cap true a2 len2 cap2
  have M1_0 := Lib.hid (hm.keep K)
  have M2_0 := Lib.hid (hm2.keep K)
  have HLT := Lib.hid (And.intro hm.lt hm2.lt)
  obtain ⟨c, hc⟩ : ∃ c, cmpv n m = c := ⟨_, rfl⟩
  have HC := Lib.hid hc
  have hc0 : decide (0 ≤ c) = true := decide_eq_true (by rw [← hc]; unfold cmpv; split <;> (try split) <;> omega)
  have hc1 : 0 ≤ c := of_decide_eq_true hc0
  clear hc
  have HZ := Lib.hid hz
  clear hm hm2 hz
  go_enter Tryd.func51, Tryd.ntmps51
  go_wp2_with fail
  refine Calls.mono ((by have H := cmp_n M1_0.out M2_0.out; rw [HC.out] at H; exact H)) ?_
  rintro e w1 ⟨rfl, k1⟩
  have B0' := B0.keep k1
  have B1' := B1.keep k1
  have B2' := B2.keep k1
  have K' := K.trans k1
  have M1_1 := Lib.hid (M1_0.out.keep k1)
  have M2_1 := Lib.hid (M2_0.out.keep k1)
  obtain ⟨x1_0, x1_1, _, _, _⟩ := id B0'
  obtain ⟨y1_0, y1_1, _, _, _⟩ := id B1'
  clear B0 B1 B2 K M1_0 M2_0 k1
  go_wp2_with fail
  refine Calls.mono (sub_n M1_1.out M2_1.out (by omega) (by omega)) ?_
  rintro e w2 ⟨x, rfl, hx, k2⟩
  have B0'' := B0'.keep k2
  have B1'' := B1'.keep k2
  have B2'' := B2'.keep k2
  have K'' := K'.trans k2
  have M1_2 := Lib.hid (M1_1.out.keep k2)
  have M2_2 := Lib.hid (M2_1.out.keep k2)
  obtain ⟨x2_0, x2_1, _, _, _⟩ := id B0''
  obtain ⟨y2_0, y2_1, _, _, _⟩ := id B1''
  clear B0' B1' B2' K' M1_1 M2_1 k2
  go_wp2_with fail
  refine Calls.mono ((by have H := signed_c false hx; rw [HZ.out] at H; exact H)) ?_
  rintro e w3 ⟨u, rfl, hu, k3⟩
  clear hx
  have B0''' := B0''.keep k3
  have B1''' := B1''.keep k3
  have B2''' := B2''.keep k3
  have K''' := K''.trans k3
  clear B0'' B1'' B2'' K'' M1_2 M2_2 k3
  obtain ⟨a0, d0, c0, l0, rfl, hr, hci⟩ := hu.form
  obtain ⟨sb, hsb⟩ : ∃ b, decide (z < 0) = b := ⟨_, rfl⟩
  rw [hsb] at hci ⊢
  obtain ⟨hs1, hs2, r0, r1⟩ := B2'''.store K''' (by omega) (.bool sb) (.slice a0 d0 c0)
  have FIN := Lib.hid (show IPostZ z w (.returned (.agg #[.bool sb, .slice a0 d0 c0])) _ from ⟨_, rfl, hci _ (hs2 _ _ _ _ hr), hs1⟩)
  obtain ⟨q0, q1, q2, q3, _⟩ := B2'''
  obtain ⟨x0, x1, _, _, _⟩ := B0'''
  obtain ⟨y0, y1, _, _, _⟩ := B1'''
  clear hs1 hs2 hr hci hu hsb K'''
  go_wp2
  refine bodyPost_ret (v := .agg #[.bool sb, .slice a0 d0 c0]) (by simp [results, Tryd.results51, go_sem, r0, r1]) rfl ?_
  exact FIN.out
set_option maxHeartbeats 1000000 in
theorem iaddy_0 {w : World} {a a2 : Option Addr} {len cap len2 cap2 n m k k2 : Nat} {z : Int} (hm : Nm w (.slice a len cap) n k) (hm2 : Nm w (.slice a2 len2 cap2) m k2) (hk : k ≤ 500000) (hk2 : k2 ≤ 500000) (h : n < m) (hz : iv true (m - n) = z) :
    Calls Tryd.prog 51 #[.agg #[.bool false, .slice a len cap], .agg #[.bool true, .slice a2 len2 cap2]] w (IPostZ z w) := by
  obtain ⟨B0, B1, B2, K⟩ := op_boxes w false a len cap true a2 len2 cap2
  have M1_0 := Lib.hid (hm.keep K)
  have M2_0 := Lib.hid (hm2.keep K)
  have HLT := Lib.hid (And.intro hm.lt hm2.lt)
  obtain ⟨c, hc⟩ : ∃ c, cmpv n m = c := ⟨_, rfl⟩
  have HC := Lib.hid hc
  have hc1 : ¬ 0 ≤ c := by rw [← hc, cmpv_lt h]; omega
  have hc0 : decide (0 ≤ c) = false := decide_eq_false hc1
  clear hc
  have HZ := Lib.hid hz
  clear hm hm2 hz
  go_enter Tryd.func51, Tryd.ntmps51
  go_wp2_with fail
  refine Calls.mono ((by have H := cmp_n M1_0.out M2_0.out; rw [HC.out] at H; exact H)) ?_
  rintro e w1 ⟨rfl, k1⟩
  have B0' := B0.keep k1
  have B1' := B1.keep k1
  have B2' := B2.keep k1
  have K' := K.trans k1
  have M1_1 := Lib.hid (M1_0.out.keep k1)
  have M2_1 := Lib.hid (M2_0.out.keep k1)
  obtain ⟨x1_0, x1_1, _, _, _⟩ := id B0'
  obtain ⟨y1_0, y1_1, _, _, _⟩ := id B1'
  clear B0 B1 B2 K M1_0 M2_0 k1
  go_wp2_with fail
  refine Calls.mono (sub_n M2_1.out M1_1.out (by omega) (by omega)) ?_
  rintro e w2 ⟨x, rfl, hx, k2⟩
  have B0'' := B0'.keep k2
  have B1'' := B1'.keep k2
  have B2'' := B2'.keep k2
  have K'' := K'.trans k2
  have M1_2 := Lib.hid (M1_1.out.keep k2)
  have M2_2 := Lib.hid (M2_1.out.keep k2)
  obtain ⟨x2_0, x2_1, _, _, _⟩ := id B0''
  obtain ⟨y2_0, y2_1, _, _, _⟩ := id B1''
  clear B0' B1' B2' K' M1_1 M2_1 k2
  go_wp2_with fail
  refine Calls.mono ((by have H := signed_c true hx; rw [HZ.out] at H; exact H)) ?_
  rintro e w3 ⟨u, rfl, hu, k3⟩
  clear hx
  have B0''' := B0''.keep k3
  have B1''' := B1''.keep k3
  have B2''' := B2''.keep k3
  have K''' := K''.trans k3
  clear B0'' B1'' B2'' K'' M1_2 M2_2 k3
  obtain ⟨a0, d0, c0, l0, rfl, hr, hci⟩ := hu.form
  obtain ⟨sb, hsb⟩ : ∃ b, decide (z < 0) = b := ⟨_, rfl⟩
  rw [hsb] at hci ⊢
  obtain ⟨hs1, hs2, r0, r1⟩ := B2'''.store K''' (by omega) (.bool sb) (.slice a0 d0 c0)
  have FIN := Lib.hid (show IPostZ z w (.returned (.agg #[.bool sb, .slice a0 d0 c0])) _ from ⟨_, rfl, hci _ (hs2 _ _ _ _ hr), hs1⟩)
  obtain ⟨q0, q1, q2, q3, _⟩ := B2'''
  obtain ⟨x0, x1, _, _, _⟩ := B0'''
  obtain ⟨y0, y1, _, _, _⟩ := B1'''
  clear hs1 hs2 hr hci hu hsb K'''
  go_wp2
  refine bodyPost_ret (v := .agg #[.bool sb, .slice a0 d0 c0]) (by simp [results, Tryd.results51, go_sem, r0, r1]) rfl ?_
  exact FIN.out
set_option maxHeartbeats 1000000 in
theorem riaddx_0 {w : World} {a a2 : Option Addr} {len cap len2 cap2 n m k k2 : Nat} {z : Int} (hm : Nm w (.slice a len cap) n k) (hm2 : Nm w (.slice a2 len2 cap2) m k2) (hk : k ≤ 500000) (hk2 : k2 ≤ 500000) (h : m ≤ n) (hz : iv false (n - m) = z) :
    Calls Tryd.prog 56 #[.agg #[.bool false, .slice a len cap], .agg #[.bool true, .slice a2 len2 cap2]] w (IPostZ z w) := by
  obtain ⟨B0, B1, B2, K⟩ := op_boxes w false a len cap true a2 len2 cap2
  have M1_0 := Lib.hid (hm.keep K)
  have M2_0 := Lib.hid (hm2.keep K)
  have HLT := Lib.hid (And.intro hm.lt hm2.lt)
  have HE : Hid (subE n m = 0) := Lib.hid (if_neg (by omega))
  have HZ := Lib.hid hz
  clear hm hm2 hz
  go_enter Tryd.func56, Tryd.ntmps56
  go_wp2_with fail
  refine Calls.mono ((by have H := rsub_n M1_0.out M2_0.out (by omega) (by omega); rw [HE.out] at H; exact H)) ?_
  rintro e w1 ⟨x, rfl, hx, k1⟩
  have B0' := B0.keep k1
  have B1' := B1.keep k1
  have B2' := B2.keep k1
  have K' := K.trans k1
  have M1_1 := Lib.hid (M1_0.out.keep k1)
  have M2_1 := Lib.hid (M2_0.out.keep k1)
  obtain ⟨x1_0, x1_1, _, _, _⟩ := id B0'
  obtain ⟨y1_0, y1_1, _, _, _⟩ := id B1'
  clear B0 B1 B2 K M1_0 M2_0 k1
  go_wp2_with fail
  refine Calls.mono ((by have H := rimake_c false (hx.nm (Nat.lt_of_le_of_lt (Nat.sub_le _ _) HLT.out.1)) (by omega); rw [HZ.out] at H; exact H)) ?_
  rintro e w2 ⟨u, rfl, hu, k2⟩
  clear hx
  have B0'' := B0'.keep k2
  have B1'' := B1'.keep k2
  have B2'' := B2'.keep k2
  have K'' := K'.trans k2
  clear B0' B1' B2' K' M1_1 M2_1 k2
  obtain ⟨a0, d0, c0, l0, rfl, hr, hci⟩ := hu.form
  obtain ⟨sb, hsb⟩ : ∃ b, decide (z < 0) = b := ⟨_, rfl⟩
  rw [hsb] at hci ⊢
  obtain ⟨hs1, hs2, r0, r1⟩ := B2''.store K'' (by omega) (.bool sb) (.slice a0 d0 c0)
  have FIN := Lib.hid (show IPostZ z w (.returned (.agg #[.bool sb, .slice a0 d0 c0])) _ from ⟨_, rfl, hci _ (hs2 _ _ _ _ hr), hs1⟩)
  obtain ⟨q0, q1, q2, q3, _⟩ := B2''
  obtain ⟨x0, x1, _, _, _⟩ := B0''
  obtain ⟨y0, y1, _, _, _⟩ := B1''
  clear hs1 hs2 hr hci hu hsb K''
  go_wp2
  refine bodyPost_ret (v := .agg #[.bool sb, .slice a0 d0 c0]) (by simp [results, Tryd.results56, go_sem, r0, r1]) rfl ?_
  exact FIN.out
set_option maxHeartbeats 1000000 in
theorem riaddy_0 {w : World} {a a2 : Option Addr} {len cap len2 cap2 n m k k2 : Nat} {z : Int} (hm : Nm w (.slice a len cap) n k) (hm2 : Nm w (.slice a2 len2 cap2) m k2) (hk : k ≤ 500000) (hk2 : k2 ≤ 500000) (h : n < m) (hz : iv true (m - n) = z) :
    Calls Tryd.prog 56 #[.agg #[.bool false, .slice a len cap], .agg #[.bool true, .slice a2 len2 cap2]] w (IPostZ z w) := by
  obtain ⟨B0, B1, B2, K⟩ := op_boxes w false a len cap true a2 len2 cap2
  have M1_0 := Lib.hid (hm.keep K)
  have M2_0 := Lib.hid (hm2.keep K)
  have HLT := Lib.hid (And.intro hm.lt hm2.lt)
  have HE : Hid (subE n m = 2) := Lib.hid (if_pos h)
  have HZ := Lib.hid hz
  clear hm hm2 hz
  go_enter Tryd.func56, Tryd.ntmps56
  go_wp2_with fail
  refine Calls.mono ((by have H := rsub_n M1_0.out M2_0.out (by omega) (by omega); rw [HE.out] at H; exact H)) ?_
  rintro e w1 ⟨x1, rfl, hx1, k1⟩
  clear hx1
  have B0' := B0.keep k1
  have B1' := B1.keep k1
  have B2' := B2.keep k1
  have K' := K.trans k1
  have M1_1 := Lib.hid (M1_0.out.keep k1)
  have M2_1 := Lib.hid (M2_0.out.keep k1)
  obtain ⟨x1_0, x1_1, _, _, _⟩ := id B0'
  obtain ⟨y1_0, y1_1, _, _, _⟩ := id B1'
  clear B0 B1 B2 K M1_0 M2_0 k1
  go_wp2_with fail
  refine Calls.mono (rsub_n M2_1.out M1_1.out (by omega) (by omega)) ?_
  rintro e w2 ⟨x, rfl, hx, k2⟩
  have B0'' := B0'.keep k2
  have B1'' := B1'.keep k2
  have B2'' := B2'.keep k2
  have K'' := K'.trans k2
  have M1_2 := Lib.hid (M1_1.out.keep k2)
  have M2_2 := Lib.hid (M2_1.out.keep k2)
  obtain ⟨x2_0, x2_1, _, _, _⟩ := id B0''
  obtain ⟨y2_0, y2_1, _, _, _⟩ := id B1''
  clear B0' B1' B2' K' M1_1 M2_1 k2
  go_wp2_with fail
  refine Calls.mono ((by have H := rimake_c true (hx.nm (Nat.lt_of_le_of_lt (Nat.sub_le _ _) HLT.out.2)) (by omega); rw [HZ.out] at H; exact H)) ?_
  rintro e w3 ⟨u, rfl, hu, k3⟩
  clear hx
  have B0''' := B0''.keep k3
  have B1''' := B1''.keep k3
  have B2''' := B2''.keep k3
  have K''' := K''.trans k3
  clear B0'' B1'' B2'' K'' M1_2 M2_2 k3
  obtain ⟨a0, d0, c0, l0, rfl, hr, hci⟩ := hu.form
  obtain ⟨sb, hsb⟩ : ∃ b, decide (z < 0) = b := ⟨_, rfl⟩
  rw [hsb] at hci ⊢
  obtain ⟨hs1, hs2, r0, r1⟩ := B2'''.store K''' (by omega) (.bool sb) (.slice a0 d0 c0)
  have FIN := Lib.hid (show IPostZ z w (.returned (.agg #[.bool sb, .slice a0 d0 c0])) _ from ⟨_, rfl, hci _ (hs2 _ _ _ _ hr), hs1⟩)
  obtain ⟨q0, q1, q2, q3, _⟩ := B2'''
  obtain ⟨x0, x1, _, _, _⟩ := B0'''
  obtain ⟨y0, y1, _, _, _⟩ := B1'''
  clear hs1 hs2 hr hci hu hsb K'''
  go_wp2
  refine bodyPost_ret (v := .agg #[.bool sb, .slice a0 d0 c0]) (by simp [results, Tryd.results56, go_sem, r0, r1]) rfl ?_
  exact FIN.out
set_option maxHeartbeats 1000000 in
theorem iaddx_1 {w : World} {a a2 : Option Addr} {len cap len2 cap2 n m k k2 : Nat} {z : Int} (hm : Nm w (.slice a len cap) n k) (hm2 : Nm w (.slice a2 len2 cap2) m k2) (hk : k ≤ 500000) (hk2 : k2 ≤ 500000) (h : m ≤ n) (hz : iv true (n - m) = z) :
    Calls Tryd.prog 51 #[.agg #[.bool true, .slice a len cap], .agg #[.bool false, .slice a2 len2 cap2]] w (IPostZ z w) := by
  obtain ⟨B0, B1, B2, K⟩ := op_boxes w true a len cap false a2 len2 cap2
  have M1_0 := Lib.hid (hm.keep K)
  have M2_0 := Lib.hid (hm2.keep K)
  have HLT := Lib.hid (And.intro hm.lt hm2.lt)
  obtain ⟨c, hc⟩ : ∃ c, cmpv n m = c := ⟨_, rfl⟩
  have HC := Lib.hid hc
  have hc0 : decide (0 ≤ c) = true := decide_eq_true (by rw [← hc]; unfold cmpv; split <;> (try split) <;> omega)
  have hc1 : 0 ≤ c := of_decide_eq_true hc0
  clear hc
  have HZ := Lib.hid hz
  clear hm hm2 hz
  go_enter Tryd.func51, Tryd.ntmps51
  go_wp2_with fail
  refine Calls.mono ((by have H := cmp_n M1_0.out M2_0.out; rw [HC.out] at H; exact H)) ?_
  rintro e w1 ⟨rfl, k1⟩
  have B0' := B0.keep k1
  have B1' := B1.keep k1
  have B2' := B2.keep k1
  have K' := K.trans k1
  have M1_1 := Lib.hid (M1_0.out.keep k1)
  have M2_1 := Lib.hid (M2_0.out.keep k1)
  obtain ⟨x1_0, x1_1, _, _, _⟩ := id B0'
  obtain ⟨y1_0, y1_1, _, _, _⟩ := id B1'
  clear B0 B1 B2 K M1_0 M2_0 k1
  go_wp2_with fail
  refine Calls.mono (sub_n M1_1.out M2_1.out (by omega) (by omega)) ?_
  rintro e w2 ⟨x, rfl, hx, k2⟩
  have B0'' := B0'.keep k2
  have B1'' := B1'.keep k2
  have B2'' := B2'.keep k2
  have K'' := K'.trans k2
  have M1_2 := Lib.hid (M1_1.out.keep k2)
  have M2_2 := Lib.hid (M2_1.out.keep k2)
  obtain ⟨x2_0, x2_1, _, _, _⟩ := id B0''
  obtain ⟨y2_0, y2_1, _, _, _⟩ := id B1''
  clear B0' B1' B2' K' M1_1 M2_1 k2
  go_wp2_with fail
  refine Calls.mono ((by have H := signed_c true hx; rw [HZ.out] at H; exact H)) ?_
  rintro e w3 ⟨u, rfl, hu, k3⟩
  clear hx
  have B0''' := B0''.keep k3
  have B1''' := B1''.keep k3
  have B2''' := B2''.keep k3
  have K''' := K''.trans k3
  clear B0'' B1'' B2'' K'' M1_2 M2_2 k3
  obtain ⟨a0, d0, c0, l0, rfl, hr, hci⟩ := hu.form
  obtain ⟨sb, hsb⟩ : ∃ b, decide (z < 0) = b := ⟨_, rfl⟩
  rw [hsb] at hci ⊢
  obtain ⟨hs1, hs2, r0, r1⟩ := B2'''.store K''' (by omega) (.bool sb) (.slice a0 d0 c0)
  have FIN := Lib.hid (show IPostZ z w (.returned (.agg #[.bool sb, .slice a0 d0 c0])) _ from ⟨_, rfl, hci _ (hs2 _ _ _ _ hr), hs1⟩)
  obtain ⟨q0, q1, q2, q3, _⟩ := B2'''
  obtain ⟨x0, x1, _, _, _⟩ := B0'''
  obtain ⟨y0, y1, _, _, _⟩ := B1'''
  clear hs1 hs2 hr hci hu hsb K'''
  go_wp2
  refine bodyPost_ret (v := .agg #[.bool sb, .slice a0 d0 c0]) (by simp [results, Tryd.results51, go_sem, r0, r1]) rfl ?_
  exact FIN.out
set_option maxHeartbeats 1000000 in
theorem iaddy_1 {w : World} {a a2 : Option Addr} {len cap len2 cap2 n m k k2 : Nat} {z : Int} (hm : Nm w (.slice a len cap) n k) (hm2 : Nm w (.slice a2 len2 cap2) m k2) (hk : k ≤ 500000) (hk2 : k2 ≤ 500000) (h : n < m) (hz : iv false (m - n) = z) :
    Calls Tryd.prog 51 #[.agg #[.bool true, .slice a len cap], .agg #[.bool false, .slice a2 len2 cap2]] w (IPostZ z w) := by
  obtain ⟨B0, B1, B2, K⟩ := op_boxes w true a len cap false a2 len2 cap2
  have M1_0 := Lib.hid (hm.keep K)
  have M2_0 := Lib.hid (hm2.keep K)
  have HLT := Lib.hid (And.intro hm.lt hm2.lt)
  obtain ⟨c, hc⟩ : ∃ c, cmpv n m = c := ⟨_, rfl⟩
  have HC := Lib.hid hc
  have hc1 : ¬ 0 ≤ c := by rw [← hc, cmpv_lt h]; omega
  have hc0 : decide (0 ≤ c) = false := decide_eq_false hc1
  clear hc
  have HZ := Lib.hid hz
  clear hm hm2 hz
  go_enter Tryd.func51, Tryd.ntmps51
  go_wp2_with fail
  refine Calls.mono ((by have H := cmp_n M1_0.out M2_0.out; rw [HC.out] at H; exact H)) ?_
  rintro e w1 ⟨rfl, k1⟩
  have B0' := B0.keep k1
  have B1' := B1.keep k1
  have B2' := B2.keep k1
  have K' := K.trans k1
  have M1_1 := Lib.hid (M1_0.out.keep k1)
  have M2_1 := Lib.hid (M2_0.out.keep k1)
  obtain ⟨x1_0, x1_1, _, _, _⟩ := id B0'
  obtain ⟨y1_0, y1_1, _, _, _⟩ := id B1'
  clear B0 B1 B2 K M1_0 M2_0 k1
  go_wp2_with fail
  refine Calls.mono (sub_n M2_1.out M1_1.out (by omega) (by omega)) ?_
  rintro e w2 ⟨x, rfl, hx, k2⟩
  have B0'' := B0'.keep k2
  have B1'' := B1'.keep k2
  have B2'' := B2'.keep k2
  have K'' := K'.trans k2
  have M1_2 := Lib.hid (M1_1.out.keep k2)
  have M2_2 := Lib.hid (M2_1.out.keep k2)
  obtain ⟨x2_0, x2_1, _, _, _⟩ := id B0''
  obtain ⟨y2_0, y2_1, _, _, _⟩ := id B1''
  clear B0' B1' B2' K' M1_1 M2_1 k2
  go_wp2_with fail
  refine Calls.mono ((by have H := signed_c false hx; rw [HZ.out] at H; exact H)) ?_
  rintro e w3 ⟨u, rfl, hu, k3⟩
  clear hx
  have B0''' := B0''.keep k3
  have B1''' := B1''.keep k3
  have B2''' := B2''.keep k3
  have K''' := K''.trans k3
  clear B0'' B1'' B2'' K'' M1_2 M2_2 k3
  obtain ⟨a0, d0, c0, l0, rfl, hr, hci⟩ := hu.form
  obtain ⟨sb, hsb⟩ : ∃ b, decide (z < 0) = b := ⟨_, rfl⟩
  rw [hsb] at hci ⊢
  obtain ⟨hs1, hs2, r0, r1⟩ := B2'''.store K''' (by omega) (.bool sb) (.slice a0 d0 c0)
  have FIN := Lib.hid (show IPostZ z w (.returned (.agg #[.bool sb, .slice a0 d0 c0])) _ from ⟨_, rfl, hci _ (hs2 _ _ _ _ hr), hs1⟩)
  obtain ⟨q0, q1, q2, q3, _⟩ := B2'''
  obtain ⟨x0, x1, _, _, _⟩ := B0'''
  obtain ⟨y0, y1, _, _, _⟩ := B1'''
  clear hs1 hs2 hr hci hu hsb K'''
  go_wp2
  refine bodyPost_ret (v := .agg #[.bool sb, .slice a0 d0 c0]) (by simp [results, Tryd.results51, go_sem, r0, r1]) rfl ?_
  exact FIN.out
set_option maxHeartbeats 1000000 in
theorem riaddx_1 {w : World} {a a2 : Option Addr} {len cap len2 cap2 n m k k2 : Nat} {z : Int} (hm : Nm w (.slice a len cap) n k) (hm2 : Nm w (.slice a2 len2 cap2) m k2) (hk : k ≤ 500000) (hk2 : k2 ≤ 500000) (h : m ≤ n) (hz : iv true (n - m) = z) :
    Calls Tryd.prog 56 #[.agg #[.bool true, .slice a len cap], .agg #[.bool false, .slice a2 len2 cap2]] w (IPostZ z w) := by
  obtain ⟨B0, B1, B2, K⟩ := op_boxes w true a len cap false a2 len2 cap2
  have M1_0 := Lib.hid (hm.keep K)
  have M2_0 := Lib.hid (hm2.keep K)
  have HLT := Lib.hid (And.intro hm.lt hm2.lt)
  have HE : Hid (subE n m = 0) := Lib.hid (if_neg (by omega))
  have HZ := Lib.hid hz
  clear hm hm2 hz
  go_enter Tryd.func56, Tryd.ntmps56
  go_wp2_with fail
  refine Calls.mono ((by have H := rsub_n M1_0.out M2_0.out (by omega) (by omega); rw [HE.out] at H; exact H)) ?_
  rintro e w1 ⟨x, rfl, hx, k1⟩
  have B0' := B0.keep k1
  have B1' := B1.keep k1
  have B2' := B2.keep k1
  have K' := K.trans k1
  have M1_1 := Lib.hid (M1_0.out.keep k1)
  have M2_1 := Lib.hid (M2_0.out.keep k1)
  obtain ⟨x1_0, x1_1, _, _, _⟩ := id B0'
  obtain ⟨y1_0, y1_1, _, _, _⟩ := id B1'
  clear B0 B1 B2 K M1_0 M2_0 k1
  go_wp2_with fail
  refine Calls.mono ((by have H := rimake_c true (hx.nm (Nat.lt_of_le_of_lt (Nat.sub_le _ _) HLT.out.1)) (by omega); rw [HZ.out] at H; exact H)) ?_
  rintro e w2 ⟨u, rfl, hu, k2⟩
  clear hx
  have B0'' := B0'.keep k2
  have B1'' := B1'.keep k2
  have B2'' := B2'.keep k2
  have K'' := K'.trans k2
  clear B0' B1' B2' K' M1_1 M2_1 k2
  obtain ⟨a0, d0, c0, l0, rfl, hr, hci⟩ := hu.form
  obtain ⟨sb, hsb⟩ : ∃ b, decide (z < 0) = b := ⟨_, rfl⟩
  rw [hsb] at hci ⊢
  obtain ⟨hs1, hs2, r0, r1⟩ := B2''.store K'' (by omega) (.bool sb) (.slice a0 d0 c0)
  have FIN := Lib.hid (show IPostZ z w (.returned (.agg #[.bool sb, .slice a0 d0 c0])) _ from ⟨_, rfl, hci _ (hs2 _ _ _ _ hr), hs1⟩)
  obtain ⟨q0, q1, q2, q3, _⟩ := B2''
  obtain ⟨x0, x1, _, _, _⟩ := B0''
  obtain ⟨y0, y1, _, _, _⟩ := B1''
  clear hs1 hs2 hr hci hu hsb K''
  go_wp2
  refine bodyPost_ret (v := .agg #[.bool sb, .slice a0 d0 c0]) (by simp [results, Tryd.results56, go_sem, r0, r1]) rfl ?_
  exact FIN.out
set_option maxHeartbeats 1000000 in
theorem riaddy_1 {w : World} {a a2 : Option Addr} {len cap len2 cap2 n m k k2 : Nat} {z : Int} (hm : Nm w (.slice a len cap) n k) (hm2 : Nm w (.slice a2 len2 cap2) m k2) (hk : k ≤ 500000) (hk2 : k2 ≤ 500000) (h : n < m) (hz : iv false (m - n) = z) :
    Calls Tryd.prog 56 #[.agg #[.bool true, .slice a len cap], .agg #[.bool false, .slice a2 len2 cap2]] w (IPostZ z w) := by
  obtain ⟨B0, B1, B2, K⟩ := op_boxes w true a len cap false a2 len2 cap2
  have M1_0 := Lib.hid (hm.keep K)
  have M2_0 := Lib.hid (hm2.keep K)
  have HLT := Lib.hid (And.intro hm.lt hm2.lt)
  have HE : Hid (subE n m = 2) := Lib.hid (if_pos h)
  have HZ := Lib.hid hz
  clear hm hm2 hz
  go_enter Tryd.func56, Tryd.ntmps56
  go_wp2_with fail
  refine Calls.mono ((by have H := rsub_n M1_0.out M2_0.out (by omega) (by omega); rw [HE.out] at H; exact H)) ?_
  rintro e w1 ⟨x1, rfl, hx1, k1⟩
  clear hx1
  have B0' := B0.keep k1
  have B1' := B1.keep k1
  have B2' := B2.keep k1
  have K' := K.trans k1
  have M1_1 := Lib.hid (M1_0.out.keep k1)
  have M2_1 := Lib.hid (M2_0.out.keep k1)
  obtain ⟨x1_0, x1_1, _, _, _⟩ := id B0'
  obtain ⟨y1_0, y1_1, _, _, _⟩ := id B1'
  clear B0 B1 B2 K M1_0 M2_0 k1
  go_wp2_with fail
  refine Calls.mono (rsub_n M2_1.out M1_1.out (by omega) (by omega)) ?_
  rintro e w2 ⟨x, rfl, hx, k2⟩
  have B0'' := B0'.keep k2
  have B1'' := B1'.keep k2
  have B2'' := B2'.keep k2
  have K'' := K'.trans k2
  have M1_2 := Lib.hid (M1_1.out.keep k2)
  have M2_2 := Lib.hid (M2_1.out.keep k2)
  obtain ⟨x2_0, x2_1, _, _, _⟩ := id B0''
  obtain ⟨y2_0, y2_1, _, _, _⟩ := id B1''
  clear B0' B1' B2' K' M1_1 M2_1 k2
  go_wp2_with fail
  refine Calls.mono ((by have H := rimake_c false (hx.nm (Nat.lt_of_le_of_lt (Nat.sub_le _ _) HLT.out.2)) (by omega); rw [HZ.out] at H; exact H)) ?_
  rintro e w3 ⟨u, rfl, hu, k3⟩
  clear hx
  have B0''' := B0''.keep k3
  have B1''' := B1''.keep k3
  have B2''' := B2''.keep k3
  have K''' := K''.trans k3
  clear B0'' B1'' B2'' K'' M1_2 M2_2 k3
  obtain ⟨a0, d0, c0, l0, rfl, hr, hci⟩ := hu.form
  obtain ⟨sb, hsb⟩ : ∃ b, decide (z < 0) = b := ⟨_, rfl⟩
  rw [hsb] at hci ⊢
  obtain ⟨hs1, hs2, r0, r1⟩ := B2'''.store K''' (by omega) (.bool sb) (.slice a0 d0 c0)
  have FIN := Lib.hid (show IPostZ z w (.returned (.agg #[.bool sb, .slice a0 d0 c0])) _ from ⟨_, rfl, hci _ (hs2 _ _ _ _ hr), hs1⟩)
  obtain ⟨q0, q1, q2, q3, _⟩ := B2'''
  obtain ⟨x0, x1, _, _, _⟩ := B0'''
  obtain ⟨y0, y1, _, _, _⟩ := B1'''
  clear hs1 hs2 hr hci hu hsb K'''
  go_wp2
  refine bodyPost_ret (v := .agg #[.bool sb, .slice a0 d0 c0]) (by simp [results, Tryd.results56, go_sem, r0, r1]) rfl ?_
  exact FIN.out
theorem iadd_c {w : World} {v u : Value} {s s' : Bool} {n m k k' : Nat} (h : Im w v s n k) (h' : Im w u s' m k') (hk : k ≤ 500000) (hk' : k' ≤ 500000) :
    Calls Tryd.prog 51 #[v, u] w (IPostZ (iv s n + iv s' m) w) := by
  obtain ⟨x, rfl, hm⟩ := h
  obtain ⟨a, len, cap, l, rfl, _, _, _⟩ := hm.form
  obtain ⟨y, rfl, hm'⟩ := h'
  obtain ⟨a', len', cap', l', rfl, _, _, _⟩ := hm'.form
  cases s
  · cases s'
    · exact iadd_0 hm hm' hk hk' (by simp [iv])
    · by_cases hc : m ≤ n
      · exact iaddx_0 hm hm' hk hk' hc (by simp [iv]; omega)
      · exact iaddy_0 hm hm' hk hk' (by omega) (by simp [iv]; omega)
  · cases s'
    · by_cases hc : m ≤ n
      · exact iaddx_1 hm hm' hk hk' hc (by simp [iv]; omega)
      · exact iaddy_1 hm hm' hk hk' (by omega) (by simp [iv]; omega)
    · exact iadd_1 hm hm' hk hk' (by simp [iv]; omega)
theorem add_z {w : World} {v u : Value} {z y : Int} {k k' : Nat} (h : Iz w v z k) (h' : Iz w u y k') (hk : k ≤ 500000) (hk' : k' ≤ 500000) : Calls Tryd.prog 51 #[v, u] w (IPostZ (z + y) w) := by
  obtain ⟨s, n, rfl, h2⟩ := h; obtain ⟨s', n', rfl, h2'⟩ := h'; exact iadd_c h2 h2' hk hk'
theorem riadd_c {w : World} {v u : Value} {s s' : Bool} {n m k k' : Nat} (h : Im w v s n k) (h' : Im w u s' m k') (hk : k ≤ 500000) (hk' : k' ≤ 500000) :
    Calls Tryd.prog 56 #[v, u] w (IPostZ (iv s n + iv s' m) w) := by
  obtain ⟨x, rfl, hm⟩ := h
  obtain ⟨a, len, cap, l, rfl, _, _, _⟩ := hm.form
  obtain ⟨y, rfl, hm'⟩ := h'
  obtain ⟨a', len', cap', l', rfl, _, _, _⟩ := hm'.form
  cases s
  · cases s'
    · exact riadd_0 hm hm' hk hk' (by simp [iv])
    · by_cases hc : m ≤ n
      · exact riaddx_0 hm hm' hk hk' hc (by simp [iv]; omega)
      · exact riaddy_0 hm hm' hk hk' (by omega) (by simp [iv]; omega)
  · cases s'
    · by_cases hc : m ≤ n
      · exact riaddx_1 hm hm' hk hk' hc (by simp [iv]; omega)
      · exact riaddy_1 hm hm' hk hk' (by omega) (by simp [iv]; omega)
    · exact riadd_1 hm hm' hk hk' (by simp [iv]; omega)
theorem radd_z {w : World} {v u : Value} {z y : Int} {k k' : Nat} (h : Iz w v z k) (h' : Iz w u y k') (hk : k ≤ 500000) (hk' : k' ≤ 500000) : Calls Tryd.prog 56 #[v, u] w (IPostZ (z + y) w) := by
  obtain ⟨s, n, rfl, h2⟩ := h; obtain ⟨s', n', rfl, h2'⟩ := h'; exact riadd_c h2 h2' hk hk'
theorem sgn_sub (z y : Int) : sgn (z - y) = zC z y := by
  unfold sgn zC
  split <;> split <;> (try split) <;> (try split) <;> omega
theorem iv_abs' (s : Bool) (n : Nat) : (iv s n).natAbs = n := by cases s <;> simp [iv]
theorem sub_lt {z y : Int} {k k' : Nat} (h : z.natAbs < BB ^ k) (h' : y.natAbs < BB ^ k') : (z - y).natAbs < BB ^ (k + k' + 1) := by
  have := add_lt2 h h'
  omega
end Go.Proofs.YtnalmjbgkedcoaaDoor
