/- Carried over from another seat by program (portn.py). -/
import Derived.Test.YtnalmjbgkedcoaaDoorNe
namespace Go.Proofs.YtnalmjbgkedcoaaDoor
open Go.RowKit
set_option linter.unusedVariables false
/-- an integer by sign and magnitude -/
def iv (s : Bool) (n : Nat) : Int := if s then -(n : Int) else n
/-- a value that reads as sign s and magnitude n, in at most k limbs -/
def Im (w : World) (v : Value) (s : Bool) (n k : Nat) : Prop := ∃ m, v = .agg #[.bool s, m] ∧ Nm w m n k
/-- a value that reads as the canonical form of z -/
def Ci (w : World) (v : Value) (z : Int) : Prop := ∃ m, v = .agg #[.bool (decide (z < 0)), m] ∧ Cn w m z.natAbs
theorem Im.keep {w w' : World} {v : Value} {s : Bool} {n k : Nat} (h : Im w v s n k) (hk : Keep w w') : Im w' v s n k := by
  obtain ⟨m, h1, h2⟩ := h
  exact ⟨m, h1, h2.keep hk⟩
theorem Ci.keep {w w' : World} {v : Value} {z : Int} (h : Ci w v z) (hk : Keep w w') : Ci w' v z := by
  obtain ⟨m, h1, h2⟩ := h
  exact ⟨m, h1, h2.keep hk⟩
theorem iv_abs (z : Int) : iv (decide (z < 0)) z.natAbs = z := by
  unfold iv
  by_cases h : z < 0
  · rw [if_pos (decide_eq_true h)]; omega
  · rw [if_neg (by simpa using h)]; omega
theorem Ci.im {w : World} {v : Value} {z : Int} {k : Nat} (h : Ci w v z) (hk : z.natAbs < BB ^ k) : Im w v (decide (z < 0)) z.natAbs k := by
  obtain ⟨m, h1, h2⟩ := h
  exact ⟨m, h1, h2.nm hk⟩
theorem Cn.form {w : World} {v : Value} {n : Nat} (h : Cn w v n) : ∃ a cap, v = .slice a (dig n).length cap ∧ Rd w a (dig n).length cap (dig n) := by
  obtain ⟨a, len, cap, rfl, hr⟩ := h
  have := hr.len_eq
  subst this
  exact ⟨a, cap, rfl, hr⟩
theorem kcell {W w1 : World} (hb : Keep W w1) : (∀ b o, b < W.heap.size → w1.cell? ⟨b, o, none⟩ = W.cell? ⟨b, o, none⟩) ∧ (∀ b o, b < W.heap.size → w1.frozen? ⟨b, o, none⟩ = W.frozen? ⟨b, o, none⟩) :=
  ⟨fun b o h => Below.cell (p := ⟨b, o, none⟩) hb h, fun b o h => Below.frozen (p := ⟨b, o, none⟩) hb h⟩
/-- the post of a function that answers an integer -/
def IPostZ (z : Int) (w : World) (e : Ending) (w' : World) : Prop := ∃ u, e = .returned u ∧ Ci w' u z ∧ Keep w w'
theorem dig_len_pos {n : Nat} : ((dig n).length = 0) ↔ n = 0 := by rw [List.length_eq_zero_iff, dig_nil_iff]
theorem signed_c {w : World} {v : Value} {n : Nat} (s : Bool) (h : Cn w v n) : Calls Tryd.prog 71 #[.bool s, v] w (IPostZ (iv s n) w) := by
  obtain ⟨a, cap, rfl, hr⟩ := h.form
  have HR := Lib.hid hr
  obtain ⟨d, hd⟩ : ∃ d, (dig n).length = d := ⟨_, rfl⟩
  have HD := Lib.hid hd
  have key : Hid (decide (iv s n < 0) = (s && decide (0 < d)) ∧ (iv s n).natAbs = n) := Lib.hid (by
    have h0 : d = 0 ↔ n = 0 := by rw [← hd]; exact dig_len_pos
    cases s
    · refine ⟨?_, by unfold iv; simp⟩
      show decide ((n : Int) < 0) = _
      simp
    · refine ⟨?_, by unfold iv; simp⟩
      show decide (-(n : Int) < 0) = _
      simp only [Bool.true_and]
      congr 1
      apply propext
      omega)
  have q1 := hr.le_cap
  have q2 := hr.cap_le
  rw [hd] at q1 ⊢
  clear h hr hd
  have fin : ∀ (b : Bool) (W : World), b = (s && decide (0 < d)) → Keep w W → IPostZ (iv s n) w (.returned (.agg #[.bool b, .slice a d cap])) W := by
    intro b W hb hk
    refine ⟨_, rfl, ⟨.slice a d cap, by rw [key.out.1, ← hb], ?_⟩, hk⟩
    rw [key.out.2]
    have := HR.out.below hk
    rw [HD.out] at this
    exact ⟨a, d, cap, rfl, this⟩
  have FIN := Lib.hid fin
  clear fin
  cases s
  · go_enter Tryd.func71, Tryd.ntmps71
    go_wp2
    refine bodyPost_ret (v := .agg #[.bool false, .slice a d cap]) (by simp [results, Tryd.results71, go_sem]) rfl ?_
    exact FIN.out _ _ rfl ((Keep.refl _).alloc _)
  · by_cases h0 : 0 < d
    · have hd1 : decide (0 < (d : Int)) = true := decide_eq_true (by omega)
      have hb : Hid (true = (true && decide (0 < d))) := Lib.hid (by simp [h0])
      go_enter Tryd.func71, Tryd.ntmps71
      go_wp2
      refine bodyPost_ret (v := .agg #[.bool true, .slice a d cap]) (by simp [results, Tryd.results71, go_sem]) rfl ?_
      exact FIN.out _ _ hb.out ((Keep.refl _).alloc _)
    · have hd0 : d = 0 := by omega
      subst hd0
      have hb : Hid (false = (true && decide (0 < 0))) := Lib.hid (by simp)
      clear h0
      go_enter Tryd.func71, Tryd.ntmps71
      go_wp2
      refine bodyPost_ret (v := .agg #[.bool false, .slice a 0 cap]) (by simp [results, Tryd.results71, go_sem]) rfl ?_
      exact FIN.out _ _ hb.out ((Keep.refl _).alloc _)
/-! a result that lies in memory -/
theorem Rd.offInt {w : World} {a : Option Addr} {len cap : Nat} {l : List Nat} (h : Rd w a len cap l) {g : Nat} (hg : ∀ i x, w.cell? ⟨g, i, none⟩ ≠ some (.int .u32 x)) : Far a len g := by
  rcases h.cells with h0 | ⟨b, off, rfl, h1⟩
  · exact .inl h0
  · by_cases h0 : len = 0
    · exact .inl h0
    · right
      rintro y e
      injection e with e
      subst e
      intro hb
      simp at hb
      subst hb
      exact hg _ _ (h1 0 (by omega))
/-- a block that holds a struct of a bool and a slice -/
structure RBox (g : Nat) (u0 u1 : Value) (w : World) : Prop where
  c0 : w.cell? ⟨g, 0, none⟩ = some u0
  c1 : w.cell? ⟨g, 1, none⟩ = some u1
  f0 : w.frozen? ⟨g, 0, none⟩ = false
  f1 : w.frozen? ⟨g, 1, none⟩ = false
  no : ∀ i x, w.cell? ⟨g, i, none⟩ ≠ some (.int .u32 x)
theorem RBox.new (w : World) (b : Bool) (a : Option Addr) (n c : Nat) : RBox w.heap.size (.bool b) (.slice a n c) (w.alloc (.cells #[.bool b, .slice a n c] 51)) := by
  refine ⟨by simp, by simp, by simp, by simp, ?_⟩
  intro i x
  match i with
  | 0 => simp
  | 1 => simp
  | i + 2 => simp
theorem RBox.lt {g : Nat} {u0 u1 : Value} {w : World} (h : RBox g u0 u1 w) : g < w.heap.size := World.block_lt_of_cell? w _ h.c0
theorem RBox.keep {g : Nat} {u0 u1 : Value} {w w' : World} (h : RBox g u0 u1 w) (k : Keep w w') : RBox g u0 u1 w' := by
  have hl := h.lt
  obtain ⟨hc, hf⟩ := kcell k
  exact ⟨(hc g 0 hl).trans h.c0, (hc g 1 hl).trans h.c1, (hf g 0 hl).trans h.f0, (hf g 1 hl).trans h.f1, fun i x => by rw [hc g i hl]; exact h.no i x⟩
theorem RBox.at {g g' : Nat} {u0 u1 : Value} {w : World} (h : RBox g u0 u1 w) (e : g = g') : RBox g' u0 u1 w := e ▸ h
/-- the world after a result has been written -/
def stW (w : World) (g : Nat) (u v : Value) : World := (w.setCell ⟨g, 0, none⟩ u).setCell ⟨g, 1, none⟩ v
theorem RBox.store {g : Nat} {u0 u1 : Value} {w0 w : World} (h : RBox g u0 u1 w) (hk : Keep w0 w) (hg : w0.heap.size ≤ g) (u v : Value) :
    Keep w0 ((w.setCell ⟨g, 0, none⟩ u).setCell ⟨g, 1, none⟩ v) ∧ (∀ a len cap l, Rd w a len cap l → Rd ((w.setCell ⟨g, 0, none⟩ u).setCell ⟨g, 1, none⟩ v) a len cap l) ∧
      (w.setCell ⟨g, 0, none⟩ u).cell? ⟨g, 0, none⟩ = some u ∧ ((w.setCell ⟨g, 0, none⟩ u).setCell ⟨g, 1, none⟩ v).cell? ⟨g, 1, none⟩ = some v := by
  refine ⟨(Below.setCell (Below.setCell hk (by exact hg) _) (by exact hg) _), fun a len cap l hr => ?_, World.cell?_setCell_same _ _ _ h.c0, World.cell?_setCell_same (w.setCell ⟨g, 0, none⟩ u) ⟨g, 1, none⟩ v (u := u1) (by rw [World.cell?_setCell_other _ _ _ _ (by simp)]; exact h.c1)⟩
  have ho : Only g 0 2 w ((w.setCell ⟨g, 0, none⟩ u).setCell ⟨g, 1, none⟩ v) := ((Only.refl g 0 2 w).set (by omega) (by omega) u).set (by omega) (by omega) v
  exact hr.only ho (hr.offInt h.no)
theorem Ci.form {w : World} {v : Value} {z : Int} (h : Ci w v z) : ∃ a n c l, v = .agg #[.bool (decide (z < 0)), .slice a n c] ∧ Rd w a n c l ∧ ∀ w', Rd w' a n c l → Ci w' v z := by
  obtain ⟨m, rfl, a, n, c, rfl, hr⟩ := h
  exact ⟨a, n, c, _, rfl, hr, fun w' h' => ⟨_, rfl, a, n, c, rfl, h'⟩⟩
theorem sz1 (w : World) (o : Obj) : (w.alloc o).heap.size = w.heap.size + 1 := by simp
theorem sz2 (w : World) (o o' : Obj) : ((w.alloc o).alloc o').heap.size = w.heap.size + 2 := by simp
theorem Nm.form {w : World} {v : Value} {n k : Nat} (h : Nm w v n k) : ∃ a len cap l, v = .slice a len cap ∧ Rd w a len cap l ∧ nv l = n ∧ l.length ≤ k := by
  obtain ⟨l, ⟨a, len, cap, rfl, hr⟩, h1, h2⟩ := h
  exact ⟨a, len, cap, l, rfl, hr, h1, h2⟩
theorem Rd.nm {w : World} {a : Option Addr} {len cap : Nat} {l : List Nat} {k : Nat} (h : Rd w a len cap l) (hk : l.length ≤ k) : Nm w (.slice a len cap) (nv l) k := ⟨l, ⟨a, len, cap, rfl, h⟩, rfl, hk⟩
theorem iv_facts (s : Bool) {n d : Nat} (hd : (dig n).length = d) : decide (iv s n < 0) = (s && decide (0 < d)) ∧ (iv s n).natAbs = n := by
  have h0 : d = 0 ↔ n = 0 := by rw [← hd]; exact dig_len_pos
  cases s
  · refine ⟨?_, by unfold iv; simp⟩
    show decide ((n : Int) < 0) = _
    simp
  · refine ⟨?_, by unfold iv; simp⟩
    show decide (-(n : Int) < 0) = _
    simp only [Bool.true_and]
    congr 1
    apply propext
    omega
theorem natMake_c {w : World} {v : Value} {n k : Nat} (h : Nm w v n k) (hk : k ≤ 1048576) : Calls Tryd.prog 73 #[v] w fun e w' => ∃ a d c, e = .returned (.slice a d c) ∧ (dig n).length = d ∧ Rd w' a d c (dig n) ∧ Keep w w' := by
  refine (rmake_n h hk).mono ?_
  rintro e w' ⟨u, rfl, hu, kk⟩
  obtain ⟨a, cap, rfl, hr⟩ := hu.form
  exact ⟨a, _, cap, rfl, rfl, hr, kk⟩
set_option maxHeartbeats 400000 in
theorem rimake_c {w : World} {v : Value} {n k : Nat} (s : Bool) (h : Nm w v n k) (hk : k ≤ 1048576) : Calls Tryd.prog 59 #[.bool s, v] w (IPostZ (iv s n) w) := by
  have H := Lib.hid (h.keep ((Keep.refl w).alloc (.cells #[.bool false, .slice none 0 0] 51)))
  clear h
  have key : ∀ (b : Bool) (d : Nat), (dig n).length = d → b = (s && decide (0 < d)) → ∀ a0 c0 w1, Rd w1 a0 d c0 (dig n) → Keep (w.alloc (.cells #[.bool false, .slice none 0 0] 51)) w1 →
      IPostZ (iv s n) w (.returned (.agg #[.bool b, .slice a0 d c0])) ((w1.setCell ⟨w.heap.size, 0, none⟩ (.bool b)).setCell ⟨w.heap.size, 1, none⟩ (.slice a0 d c0)) := by
    intro b d hd hb a0 c0 w1 hr k1
    have B1 := (RBox.new w false none 0 0).keep k1
    obtain ⟨hs1, hs2, _, _⟩ := B1.store (((Keep.refl w).alloc _).trans k1) (Nat.le_refl _) (.bool b) (.slice a0 d c0)
    obtain ⟨f1, f2⟩ := iv_facts s hd
    refine ⟨_, rfl, ⟨.slice a0 d c0, by rw [f1, ← hb], ?_⟩, hs1⟩
    rw [f2]
    exact ⟨a0, d, c0, rfl, hs2 _ _ _ _ hr⟩
  have KEY := Lib.hid key
  clear key
  go_enter Tryd.func59, Tryd.ntmps59
  go_wp2_with fail
  refine Calls.mono (natMake_c H.out hk) ?_
  rintro e w1 ⟨a0, d, c0, rfl, hd, hr, k1⟩
  have B1 := (RBox.new w false none 0 0).keep k1
  have q5 := hr.le_cap
  have q6 := hr.cap_le
  cases s
  · have FIN := Lib.hid (KEY.out false d hd rfl a0 c0 w1 hr k1)
    obtain ⟨_, _, r0, r1⟩ := B1.store (((Keep.refl w).alloc _).trans k1) (Nat.le_refl _) (.bool false) (.slice a0 d c0)
    obtain ⟨q0, q1, q2, q3, _⟩ := B1
    clear hr k1 hd
    go_wp2
    refine bodyPost_ret (v := .agg #[.bool false, .slice a0 d c0]) (by simp [results, Tryd.results59, go_sem, r0, r1]) rfl ?_
    exact FIN.out
  · by_cases h0 : d = 0
    · subst h0
      have FIN := Lib.hid (KEY.out false 0 hd (by simp) a0 c0 w1 hr k1)
      obtain ⟨_, _, r0, r1⟩ := B1.store (((Keep.refl w).alloc _).trans k1) (Nat.le_refl _) (.bool false) (.slice a0 0 c0)
      obtain ⟨q0, q1, q2, q3, _⟩ := B1
      clear hr k1 hd
      go_wp2
      refine bodyPost_ret (v := .agg #[.bool false, .slice a0 0 c0]) (by simp [results, Tryd.results59, go_sem, r0, r1]) rfl ?_
      exact FIN.out
    · have hd1 : decide (0 < (d : Int)) = true := decide_eq_true (by omega)
      have hd2 : decide (0 < d) = true := decide_eq_true (by omega)
      have FIN := Lib.hid (KEY.out true d hd (by simp; omega) a0 c0 w1 hr k1)
      obtain ⟨_, _, r0, r1⟩ := B1.store (((Keep.refl w).alloc _).trans k1) (Nat.le_refl _) (.bool true) (.slice a0 d c0)
      obtain ⟨q0, q1, q2, q3, _⟩ := B1
      clear hr k1 hd
      go_wp2
      refine bodyPost_ret (v := .agg #[.bool true, .slice a0 d c0]) (by simp [results, Tryd.results59, go_sem, r0, r1]) rfl ?_
      exact FIN.out
set_option maxHeartbeats 400000 in
theorem iof_c_0 (x : Int) (w : World) (h1 : -9223372036854775808 ≤ x) (h2 : x ≤ 9223372036854775807) (hx : x < 0) : Calls Tryd.prog 29 #[.int .i64 x] w (IPostZ x w) := by
  have K1 : Keep w (w.alloc (.cells #[.bool false, .slice none 0 0] 51)) := (Keep.refl w).alloc _
  have B1 := RBox.new w false none 0 0
  obtain ⟨n, hn⟩ : ∃ n, x.natAbs = n := ⟨_, rfl⟩
  have e1 : IntKind.u64.wrap (-IntKind.u64.wrap x) = (n : Nat) := by simp [IntKind.wrap, IntKind.bits, IntKind.signed]; omega
  have OF := Lib.hid (fun w1 => of_n (w := w1) n (by omega))
  have hdec : decide (x < 0) = true := by simp; omega
  have HN := Lib.hid hn
  clear hn
  go_enter Tryd.func29, Tryd.ntmps29
  go_wp2_with fail
  refine Calls.mono (OF.out _) ?_
  rintro e w2 ⟨u, rfl, hu, k2⟩
  have B2 := B1.keep k2
  have K2 := K1.trans k2
  obtain ⟨a0, c0, rfl, hr⟩ := hu.form
  obtain ⟨hs1, hs2, r0, r1⟩ := B2.store K2 (Nat.le_refl _) (.bool true) (.slice a0 (dig n).length c0)
  have FIN := Lib.hid (show IPostZ x w (.returned (.agg #[.bool true, .slice a0 (dig n).length c0])) _ from ⟨_, rfl, ⟨.slice a0 (dig n).length c0, by rw [hdec], by rw [HN.out]; exact ⟨a0, _, c0, rfl, hs2 _ _ _ _ hr⟩⟩, hs1⟩)
  obtain ⟨q0, q1, q2, q3, _⟩ := B2
  obtain ⟨d, hd⟩ : ∃ d, (dig n).length = d := ⟨_, rfl⟩
  rw [hd] at FIN r1 ⊢
  clear hs1 hs2 hr hu k2 B1 K1 K2 hd
  go_wp2
  refine bodyPost_ret (v := .agg #[.bool true, .slice a0 d c0]) (by simp [results, Tryd.results29, go_sem, r0, r1]) rfl ?_
  exact FIN.out
set_option maxHeartbeats 400000 in
theorem iof_c_1 (x : Int) (w : World) (h1 : -9223372036854775808 ≤ x) (h2 : x ≤ 9223372036854775807) (hx : ¬ x < 0) : Calls Tryd.prog 29 #[.int .i64 x] w (IPostZ x w) := by
  have K1 : Keep w (w.alloc (.cells #[.bool false, .slice none 0 0] 51)) := (Keep.refl w).alloc _
  have B1 := RBox.new w false none 0 0
  obtain ⟨n, hn⟩ : ∃ n, x.natAbs = n := ⟨_, rfl⟩
  have e1 : IntKind.u64.wrap x = (n : Nat) := by simp [IntKind.wrap, IntKind.bits, IntKind.signed]; omega
  have OF := Lib.hid (fun w1 => of_n (w := w1) n (by omega))
  have hdec : decide (x < 0) = false := by simp; omega
  have HN := Lib.hid hn
  clear hn
  go_enter Tryd.func29, Tryd.ntmps29
  go_wp2_with fail
  refine Calls.mono (OF.out _) ?_
  rintro e w2 ⟨u, rfl, hu, k2⟩
  have B2 := B1.keep k2
  have K2 := K1.trans k2
  obtain ⟨a0, c0, rfl, hr⟩ := hu.form
  obtain ⟨hs1, hs2, r0, r1⟩ := B2.store K2 (Nat.le_refl _) (.bool false) (.slice a0 (dig n).length c0)
  have FIN := Lib.hid (show IPostZ x w (.returned (.agg #[.bool false, .slice a0 (dig n).length c0])) _ from ⟨_, rfl, ⟨.slice a0 (dig n).length c0, by rw [hdec], by rw [HN.out]; exact ⟨a0, _, c0, rfl, hs2 _ _ _ _ hr⟩⟩, hs1⟩)
  obtain ⟨q0, q1, q2, q3, _⟩ := B2
  obtain ⟨d, hd⟩ : ∃ d, (dig n).length = d := ⟨_, rfl⟩
  rw [hd] at FIN r1 ⊢
  clear hs1 hs2 hr hu k2 B1 K1 K2 hd
  go_wp2
  refine bodyPost_ret (v := .agg #[.bool false, .slice a0 d c0]) (by simp [results, Tryd.results29, go_sem, r0, r1]) rfl ?_
  exact FIN.out
theorem iof_c (x : Int) (w : World) (h1 : -9223372036854775808 ≤ x) (h2 : x ≤ 9223372036854775807) : Calls Tryd.prog 29 #[.int .i64 x] w (IPostZ x w) := by
  by_cases hx : x < 0
  · exact iof_c_0 x w h1 h2 hx
  · exact iof_c_1 x w h1 h2 hx
set_option maxHeartbeats 400000 in
theorem riof_c_0 (x : Int) (w : World) (h1 : -9223372036854775808 ≤ x) (h2 : x ≤ 9223372036854775807) (hx : x < 0) : Calls Tryd.prog 34 #[.int .i64 x] w (IPostZ x w) := by
  have K1 : Keep w (w.alloc (.cells #[.bool false, .slice none 0 0] 51)) := (Keep.refl w).alloc _
  have B1 := RBox.new w false none 0 0
  obtain ⟨n, hn⟩ : ∃ n, x.natAbs = n := ⟨_, rfl⟩
  have e1 : IntKind.u64.wrap (-IntKind.u64.wrap x) = (n : Nat) := by simp [IntKind.wrap, IntKind.bits, IntKind.signed]; omega
  have OF := Lib.hid (fun w1 => rof_n (w := w1) n (by omega))
  have hdec : decide (x < 0) = true := by simp; omega
  have MK := Lib.hid (fun w1 u (hu : Cn w1 u n) => rimake_c true (hu.nm (k := 2) (by rw [show BB ^ 2 = 18446744073709551616 from by decide]; omega)) (by omega))
  have hiv : iv true n = x := by unfold iv; simp; omega
  rw [hiv] at MK
  clear hiv
  have HN := Lib.hid hn
  clear hn
  go_enter Tryd.func34, Tryd.ntmps34
  go_wp2_with fail
  refine Calls.mono (OF.out _) ?_
  rintro e w2 ⟨u, rfl, hu, k2⟩
  have B2 := B1.keep k2
  have K2 := K1.trans k2
  have HU := Lib.hid (MK.out _ _ hu)
  clear hu k2 B1 K1
  go_wp2_with fail
  refine Calls.mono HU.out ?_
  rintro e w3 ⟨u, rfl, hu, k3⟩
  obtain ⟨a0, d0, c0, l0, rfl, hr, hci⟩ := hu.form
  have B3 := B2.keep k3
  have K3 := K2.trans k3
  obtain ⟨hs1, hs2, r0, r1⟩ := B3.store K3 (Nat.le_refl _) (.bool (decide (x < 0))) (.slice a0 d0 c0)
  have FIN := Lib.hid (show IPostZ x w (.returned (.agg #[.bool (decide (x < 0)), .slice a0 d0 c0])) _ from ⟨_, rfl, hci _ (hs2 _ _ _ _ hr), hs1⟩)
  obtain ⟨q0, q1, q2, q3, _⟩ := B3
  rw [hdec] at FIN r0 r1 ⊢
  clear hs1 hs2 hr hci hu k3 B2 K2 K3
  go_wp2
  refine bodyPost_ret (v := .agg #[.bool true, .slice a0 d0 c0]) (by simp [results, Tryd.results34, go_sem, r0, r1]) rfl ?_
  exact FIN.out
set_option maxHeartbeats 400000 in
theorem riof_c_1 (x : Int) (w : World) (h1 : -9223372036854775808 ≤ x) (h2 : x ≤ 9223372036854775807) (hx : ¬ x < 0) : Calls Tryd.prog 34 #[.int .i64 x] w (IPostZ x w) := by
  have K1 : Keep w (w.alloc (.cells #[.bool false, .slice none 0 0] 51)) := (Keep.refl w).alloc _
  have B1 := RBox.new w false none 0 0
  obtain ⟨n, hn⟩ : ∃ n, x.natAbs = n := ⟨_, rfl⟩
  have e1 : IntKind.u64.wrap x = (n : Nat) := by simp [IntKind.wrap, IntKind.bits, IntKind.signed]; omega
  have OF := Lib.hid (fun w1 => rof_n (w := w1) n (by omega))
  have hdec : decide (x < 0) = false := by simp; omega
  have MK := Lib.hid (fun w1 u (hu : Cn w1 u n) => rimake_c false (hu.nm (k := 2) (by rw [show BB ^ 2 = 18446744073709551616 from by decide]; omega)) (by omega))
  have hiv : iv false n = x := by unfold iv; simp; omega
  rw [hiv] at MK
  clear hiv
  have HN := Lib.hid hn
  clear hn
  go_enter Tryd.func34, Tryd.ntmps34
  go_wp2_with fail
  refine Calls.mono (OF.out _) ?_
  rintro e w2 ⟨u, rfl, hu, k2⟩
  have B2 := B1.keep k2
  have K2 := K1.trans k2
  have HU := Lib.hid (MK.out _ _ hu)
  clear hu k2 B1 K1
  go_wp2_with fail
  refine Calls.mono HU.out ?_
  rintro e w3 ⟨u, rfl, hu, k3⟩
  obtain ⟨a0, d0, c0, l0, rfl, hr, hci⟩ := hu.form
  have B3 := B2.keep k3
  have K3 := K2.trans k3
  obtain ⟨hs1, hs2, r0, r1⟩ := B3.store K3 (Nat.le_refl _) (.bool (decide (x < 0))) (.slice a0 d0 c0)
  have FIN := Lib.hid (show IPostZ x w (.returned (.agg #[.bool (decide (x < 0)), .slice a0 d0 c0])) _ from ⟨_, rfl, hci _ (hs2 _ _ _ _ hr), hs1⟩)
  obtain ⟨q0, q1, q2, q3, _⟩ := B3
  rw [hdec] at FIN r0 r1 ⊢
  clear hs1 hs2 hr hci hu k3 B2 K2 K3
  go_wp2
  refine bodyPost_ret (v := .agg #[.bool false, .slice a0 d0 c0]) (by simp [results, Tryd.results34, go_sem, r0, r1]) rfl ?_
  exact FIN.out
theorem riof_c (x : Int) (w : World) (h1 : -9223372036854775808 ≤ x) (h2 : x ≤ 9223372036854775807) : Calls Tryd.prog 34 #[.int .i64 x] w (IPostZ x w) := by
  by_cases hx : x < 0
  · exact riof_c_0 x w h1 h2 hx
  · exact riof_c_1 x w h1 h2 hx
end Go.Proofs.YtnalmjbgkedcoaaDoor
