/- Walks of layer 2: signed, Make, Sign. -/
import Derived.Test.YtjkfnnoakjdgmaaNe
import Derived.Test.YtjkfnnoakjdgmaaNd
namespace Go.Proofs.Ytjkfnnoakjdgmaa
open Go.RowKit
set_option linter.unusedVariables false
/-- an integer by sign and magnitude -/
def iv (s : Bool) (n : Nat) : Int := if s then -(n : Int) else n
/-- a value that reads as sign s and magnitude n, in at most k limbs -/
def Im (w : World) (v : Value) (s : Bool) (n k : Nat) : Prop := ∃ m, v = .agg #[.bool s, m] ∧ Nm w m n k
/-- a value that reads as the canonical form of z -/
def Ci (w : World) (v : Value) (z : Int) : Prop := ∃ m, v = .agg #[.bool (decide (z < 0)), m] ∧ Cn w m z.natAbs
theorem Im.keep {w w' : World} {v : Value} {s : Bool} {n k : Nat} (h : Im w v s n k) (hk : Keep w w') : Im w' v s n k := by
  obtain ⟨m, h1, h2⟩ := h
  exact ⟨m, h1, h2.keep hk⟩
theorem Ci.keep {w w' : World} {v : Value} {z : Int} (h : Ci w v z) (hk : Keep w w') : Ci w' v z := by
  obtain ⟨m, h1, h2⟩ := h
  exact ⟨m, h1, h2.keep hk⟩
theorem iv_abs (z : Int) : iv (decide (z < 0)) z.natAbs = z := by
  unfold iv
  by_cases h : z < 0
  · rw [if_pos (decide_eq_true h)]; omega
  · rw [if_neg (by simpa using h)]; omega
theorem Ci.im {w : World} {v : Value} {z : Int} {k : Nat} (h : Ci w v z) (hk : z.natAbs < BB ^ k) : Im w v (decide (z < 0)) z.natAbs k := by
  obtain ⟨m, h1, h2⟩ := h
  exact ⟨m, h1, h2.nm hk⟩
theorem Cn.form {w : World} {v : Value} {n : Nat} (h : Cn w v n) : ∃ a cap, v = .slice a (dig n).length cap ∧ Rd w a (dig n).length cap (dig n) := by
  obtain ⟨a, len, cap, rfl, hr⟩ := h
  have := hr.len_eq
  subst this
  exact ⟨a, cap, rfl, hr⟩
theorem kcell {W w1 : World} (hb : Keep W w1) : (∀ b o, b < W.heap.size → w1.cell? ⟨b, o, none⟩ = W.cell? ⟨b, o, none⟩) ∧ (∀ b o, b < W.heap.size → w1.frozen? ⟨b, o, none⟩ = W.frozen? ⟨b, o, none⟩) :=
  ⟨fun b o h => Below.cell (p := ⟨b, o, none⟩) hb h, fun b o h => Below.frozen (p := ⟨b, o, none⟩) hb h⟩
/-- the post of a function that answers an integer -/
def IPostZ (z : Int) (w : World) (e : Ending) (w' : World) : Prop := ∃ u, e = .returned u ∧ Ci w' u z ∧ Keep w w'
theorem dig_len_pos {n : Nat} : ((dig n).length = 0) ↔ n = 0 := by rw [List.length_eq_zero_iff, dig_nil_iff]
theorem signed_c {w : World} {v : Value} {n : Nat} (s : Bool) (h : Cn w v n) : Calls Try.prog 35 #[.bool s, v] w (IPostZ (iv s n) w) := by
  obtain ⟨a, cap, rfl, hr⟩ := h.form
  have HR := Lib.hid hr
  obtain ⟨d, hd⟩ : ∃ d, (dig n).length = d := ⟨_, rfl⟩
  have HD := Lib.hid hd
  have key : Hid (decide (iv s n < 0) = (s && decide (0 < d)) ∧ (iv s n).natAbs = n) := Lib.hid (by
    have h0 : d = 0 ↔ n = 0 := by rw [← hd]; exact dig_len_pos
    cases s
    · refine ⟨?_, by unfold iv; simp⟩
      show decide ((n : Int) < 0) = _
      simp
    · refine ⟨?_, by unfold iv; simp⟩
      show decide (-(n : Int) < 0) = _
      simp only [Bool.true_and]
      congr 1
      apply propext
      omega)
  have q1 := hr.le_cap
  have q2 := hr.cap_le
  rw [hd] at q1 ⊢
  clear h hr hd
  have fin : ∀ (b : Bool) (W : World), b = (s && decide (0 < d)) → Keep w W → IPostZ (iv s n) w (.returned (.agg #[.bool b, .slice a d cap])) W := by
    intro b W hb hk
    refine ⟨_, rfl, ⟨.slice a d cap, by rw [key.out.1, ← hb], ?_⟩, hk⟩
    rw [key.out.2]
    have := HR.out.below hk
    rw [HD.out] at this
    exact ⟨a, d, cap, rfl, this⟩
  have FIN := Lib.hid fin
  clear fin
  cases s
  · go_enter Try.func35, Try.ntmps35
    go_wp2
    refine bodyPost_ret (v := .agg #[.bool false, .slice a d cap]) (by simp [results, Try.results35, go_sem]) rfl ?_
    exact FIN.out _ _ rfl ((Keep.refl _).alloc _)
  · by_cases h0 : 0 < d
    · have hd1 : decide (0 < (d : Int)) = true := decide_eq_true (by omega)
      have hb : Hid (true = (true && decide (0 < d))) := Lib.hid (by simp [h0])
      go_enter Try.func35, Try.ntmps35
      go_wp2
      refine bodyPost_ret (v := .agg #[.bool true, .slice a d cap]) (by simp [results, Try.results35, go_sem]) rfl ?_
      exact FIN.out _ _ hb.out ((Keep.refl _).alloc _)
    · have hd0 : d = 0 := by omega
      subst hd0
      have hb : Hid (false = (true && decide (0 < 0))) := Lib.hid (by simp)
      clear h0
      go_enter Try.func35, Try.ntmps35
      go_wp2
      refine bodyPost_ret (v := .agg #[.bool false, .slice a 0 cap]) (by simp [results, Try.results35, go_sem]) rfl ?_
      exact FIN.out _ _ hb.out ((Keep.refl _).alloc _)
/-! a result that lies in memory -/
theorem Rd.offInt {w : World} {a : Option Addr} {len cap : Nat} {l : List Nat} (h : Rd w a len cap l) {g : Nat} (hg : ∀ i x, w.cell? ⟨g, i, none⟩ ≠ some (.int .u32 x)) : Far a len g := by
  rcases h.cells with h0 | ⟨b, off, rfl, h1⟩
  · exact .inl h0
  · by_cases h0 : len = 0
    · exact .inl h0
    · right
      rintro y e
      injection e with e
      subst e
      intro hb
      simp at hb
      subst hb
      exact hg _ _ (h1 0 (by omega))
/-- a block that holds a struct of a bool and a slice -/
structure RBox (g : Nat) (u0 u1 : Value) (w : World) : Prop where
  c0 : w.cell? ⟨g, 0, none⟩ = some u0
  c1 : w.cell? ⟨g, 1, none⟩ = some u1
  f0 : w.frozen? ⟨g, 0, none⟩ = false
  f1 : w.frozen? ⟨g, 1, none⟩ = false
  no : ∀ i x, w.cell? ⟨g, i, none⟩ ≠ some (.int .u32 x)
theorem RBox.new (w : World) (b : Bool) (a : Option Addr) (n c : Nat) : RBox w.heap.size (.bool b) (.slice a n c) (w.alloc (.cells #[.bool b, .slice a n c] 25)) := by
  refine ⟨by simp, by simp, by simp, by simp, ?_⟩
  intro i x
  match i with
  | 0 => simp
  | 1 => simp
  | i + 2 => simp
theorem RBox.lt {g : Nat} {u0 u1 : Value} {w : World} (h : RBox g u0 u1 w) : g < w.heap.size := World.block_lt_of_cell? w _ h.c0
theorem RBox.keep {g : Nat} {u0 u1 : Value} {w w' : World} (h : RBox g u0 u1 w) (k : Keep w w') : RBox g u0 u1 w' := by
  have hl := h.lt
  obtain ⟨hc, hf⟩ := kcell k
  exact ⟨(hc g 0 hl).trans h.c0, (hc g 1 hl).trans h.c1, (hf g 0 hl).trans h.f0, (hf g 1 hl).trans h.f1, fun i x => by rw [hc g i hl]; exact h.no i x⟩
theorem RBox.at {g g' : Nat} {u0 u1 : Value} {w : World} (h : RBox g u0 u1 w) (e : g = g') : RBox g' u0 u1 w := e ▸ h
/-- the world after a result has been written -/
def stW (w : World) (g : Nat) (u v : Value) : World := (w.setCell ⟨g, 0, none⟩ u).setCell ⟨g, 1, none⟩ v
theorem RBox.store {g : Nat} {u0 u1 : Value} {w0 w : World} (h : RBox g u0 u1 w) (hk : Keep w0 w) (hg : w0.heap.size ≤ g) (u v : Value) :
    Keep w0 ((w.setCell ⟨g, 0, none⟩ u).setCell ⟨g, 1, none⟩ v) ∧ (∀ a len cap l, Rd w a len cap l → Rd ((w.setCell ⟨g, 0, none⟩ u).setCell ⟨g, 1, none⟩ v) a len cap l) ∧
      (w.setCell ⟨g, 0, none⟩ u).cell? ⟨g, 0, none⟩ = some u ∧ ((w.setCell ⟨g, 0, none⟩ u).setCell ⟨g, 1, none⟩ v).cell? ⟨g, 1, none⟩ = some v := by
  refine ⟨(Below.setCell (Below.setCell hk (by exact hg) _) (by exact hg) _), fun a len cap l hr => ?_, World.cell?_setCell_same _ _ _ h.c0, World.cell?_setCell_same (w.setCell ⟨g, 0, none⟩ u) ⟨g, 1, none⟩ v (u := u1) (by rw [World.cell?_setCell_other _ _ _ _ (by simp)]; exact h.c1)⟩
  have ho : Only g 0 2 w ((w.setCell ⟨g, 0, none⟩ u).setCell ⟨g, 1, none⟩ v) := ((Only.refl g 0 2 w).set (by omega) (by omega) u).set (by omega) (by omega) v
  exact hr.only ho (hr.offInt h.no)
theorem Ci.form {w : World} {v : Value} {z : Int} (h : Ci w v z) : ∃ a n c l, v = .agg #[.bool (decide (z < 0)), .slice a n c] ∧ Rd w a n c l ∧ ∀ w', Rd w' a n c l → Ci w' v z := by
  obtain ⟨m, rfl, a, n, c, rfl, hr⟩ := h
  exact ⟨a, n, c, _, rfl, hr, fun w' h' => ⟨_, rfl, a, n, c, rfl, h'⟩⟩
set_option maxHeartbeats 400000 in
theorem imake_c {w : World} {v : Value} {n k : Nat} (s : Bool) (h : Nm w v n k) (hk : k ≤ 1048576) : Calls Try.prog 11 #[.bool s, v] w (IPostZ (iv s n) w) := by
  have H := Lib.hid (h.keep ((Keep.refl w).alloc (.cells #[.bool false, .slice none 0 0] 25)))
  obtain ⟨z, hz⟩ : ∃ z, iv s n = z := ⟨_, rfl⟩
  have SG := Lib.hid (fun w1 u (hu : Cn w1 u n) => signed_c s hu)
  rw [hz] at SG ⊢
  clear h hz
  go_enter Try.func11, Try.ntmps11
  go_wp2_with fail
  refine Calls.mono (make_n H.out hk) ?_
  rintro e w1 ⟨m, rfl, hm, k1⟩
  have B1 := (RBox.new w false none 0 0).keep k1
  have K1 := ((Keep.refl w).alloc (.cells #[.bool false, .slice none 0 0] 25)).trans k1
  clear k1
  go_wp2_with fail
  refine Calls.mono (SG.out _ _ hm) ?_
  rintro e w2 ⟨u, rfl, hu, k2⟩
  obtain ⟨a, d, c, l, rfl, hr, hci⟩ := hu.form
  have B2 := B1.keep k2
  have K2 := K1.trans k2
  obtain ⟨hs1, hs2, r0, r1⟩ := B2.store K2 (Nat.le_refl _) (.bool (decide (z < 0))) (.slice a d c)
  have FIN := Lib.hid (show IPostZ z w (.returned (.agg #[.bool (decide (z < 0)), .slice a d c])) _ from ⟨_, rfl, hci _ (hs2 _ _ _ _ hr), hs1⟩)
  obtain ⟨q0, q1, q2, q3, _⟩ := B2
  obtain ⟨sb, hsb⟩ : ∃ b, decide (z < 0) = b := ⟨_, rfl⟩
  rw [hsb] at FIN r0 r1 ⊢
  clear hs1 hs2 hr hci hu k2 B1 K1 K2 hm hsb
  go_wp2
  refine bodyPost_ret (v := .agg #[.bool sb, .slice a d c]) (by simp [results, Try.results11, go_sem, r0, r1]) rfl ?_
  exact FIN.out
end Go.Proofs.Ytjkfnnoakjdgmaa
