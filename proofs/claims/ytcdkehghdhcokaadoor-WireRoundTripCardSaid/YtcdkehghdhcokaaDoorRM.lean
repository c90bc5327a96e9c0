/- Merged by program from: R3 R4 R5 IE IG IJ R6 R7 R8 R9 R10 R11 R12. -/
import Derived.Test.YtcdkehghdhcokaaDoorRB
import Derived.Test.YtcdkehghdhcokaaDoorNg
import Derived.Deep.RegionHeld3
import Derived.Laws.Externs
import Derived.Deep.DeepCutAuto
import Derived.Outline
namespace Go.Proofs.YtcdkehghdhcokaaDoor
open Go.RowKit
set_option linter.unusedVariables false
theorem Nm.form3 {w : World} {v : Value} {n k : Nat} (h : Nm w v n k) : ∃ a len cap l, v = .slice a len cap ∧ Rd w a len cap l ∧ nv l = n ∧ l.length ≤ k := by
  obtain ⟨l, ⟨a, len, cap, rfl, hr⟩, h1, h2⟩ := h
  exact ⟨a, len, cap, l, rfl, hr, h1, h2⟩
/-- the post of den -/
def DPost (d k : Nat) (w : World) (e : Ending) (w' : World) : Prop := ∃ u, e = .returned u ∧ Nm w' u (dn d) k ∧ Keep w w'
theorem Rd.toNm {w : World} {a : Option Addr} {len cap : Nat} {l : List Nat} {n k : Nat} (h : Rd w a len cap l) (hn : nv l = n) (hl : l.length ≤ k) : Nm w (.slice a len cap) n k := ⟨l, ⟨a, len, cap, rfl, h⟩, hn, hl⟩
theorem len_one {l : List Nat} (h : l.length = 1) : nv l = l.getD 0 0 := by
  obtain ⟨x, rfl⟩ := List.length_eq_one_iff.1 h
  rw [nv_one]; rfl
theorem len_zero {l : List Nat} (h : l.length = 0) : nv l = 0 := by
  rw [List.length_eq_zero_iff.1 h]; rfl
theorem rv_red (s : Bool) (n : Nat) {d : Nat} (h : d ≠ 0) : rv s (n / Nat.gcd n d) (d / Nat.gcd n d) = rv s n d ∧ Nat.gcd (n / Nat.gcd n d) (dn (d / Nat.gcd n d)) = 1 ∧ d / Nat.gcd n d ≠ 0 := by
  have hg : 0 < Nat.gcd n d := Nat.gcd_pos_of_pos_right _ (Nat.pos_of_ne_zero h)
  have hd : d / Nat.gcd n d ≠ 0 := by
    have := Nat.div_pos (Nat.le_of_dvd (Nat.pos_of_ne_zero h) (Nat.gcd_dvd_right n d)) hg
    omega
  refine ⟨?_, ?_, hd⟩
  · unfold rv
    rw [dn_of hd, dn_of h]
    obtain ⟨g, hge⟩ : ∃ g, Nat.gcd n d = g := ⟨_, rfl⟩
    rw [hge] at hg ⊢
    have e1 : n / g * g = n := Nat.div_mul_cancel (hge ▸ Nat.gcd_dvd_left n d)
    have e2 : d / g * g = d := Nat.div_mul_cancel (hge ▸ Nat.gcd_dvd_right n d)
    rw [← Rat.mkRat_mul_right (a := g) (by omega), e2, ← iv_mulR, e1]
  · rw [dn_of hd]
    exact Nat.gcd_div_gcd_div_gcd_of_pos_right (Nat.pos_of_ne_zero h)
/-- a number and an error (or a truth value) -/
def R2Post (q : Rat) (x : Value) (w : World) (e : Ending) (w' : World) : Prop := ∃ u, e = .returned (.tuple #[u, x]) ∧ Cr w' u q ∧ Keep w w'
theorem cn_nil (w : World) : Cn w (.slice none 0 0) 0 := ⟨none, 0, 0, rfl, by rw [dig_zero]; exact Rd.nil w⟩
theorem uintV_of {n : Nat} (h : n < 18446744073709551616) : uintV n = n := if_pos h
theorem rv_one (s : Bool) (n : Nat) : rv s n 0 = rv s n 1 := rfl
theorem bl_le_one {g : Nat} (h : 2 ≤ g) : ¬ bl g ≤ 1 := by
  intro hb
  have h1 := lt_bl g
  have : (2 : Nat) ^ bl g ≤ 2 ^ 1 := Nat.pow_le_pow_right (by decide) hb
  omega
/-- quotient, remainder and error of a division -/
def zQ (x y : Int) : Int := if y = 0 then 0 else x / y
def zR (x y : Int) : Int := if y = 0 then 0 else x % y
def zE (y : Int) : Int := if y = 0 then 3 else 0
def ZPost (q r err : Int) (w : World) (e : Ending) (w' : World) : Prop := ∃ u v, e = .returned (.tuple #[u, v, .int .i64 err]) ∧ Ci w' u q ∧ Ci w' v r ∧ Keep w w'
theorem RBox.other {g g' : Nat} {u0 u1 : Value} {w : World} (h : RBox g' u0 u1 w) (hne : g ≠ g') (i j : Nat) (u v : Value) : RBox g' u0 u1 ((w.setCell ⟨g, i, none⟩ u).setCell ⟨g, j, none⟩ v) := by
  refine ⟨?_, ?_, ?_, ?_, fun k x => ?_⟩
  · rw [World.cell?_setCell_other _ _ _ _ (by simp <;> omega), World.cell?_setCell_other _ _ _ _ (by simp <;> omega)]; exact h.c0
  · rw [World.cell?_setCell_other _ _ _ _ (by simp <;> omega), World.cell?_setCell_other _ _ _ _ (by simp <;> omega)]; exact h.c1
  · simpa using h.f0
  · simpa using h.f1
  · rw [World.cell?_setCell_other _ _ _ _ (by simp <;> omega), World.cell?_setCell_other _ _ _ _ (by simp <;> omega)]; exact h.no k x
theorem RBox.ofKeep {g : Nat} {u0 u1 : Value} {w w' : World} (h : RBox g u0 u1 w) (k : Keep w w') : RBox g u0 u1 w' := h.keep k
theorem sz3 (w : World) (o o' o'' : Obj) : (((w.alloc o).alloc o').alloc o'').heap.size = w.heap.size + 3 := by simp
theorem edm {x m q r : Int} (hm : 0 < m) (h : r + m * q = x) (h0 : 0 ≤ r) (h1 : r < m) : (x / m = q ∧ x % m = r) ∧ (x / -m = -q ∧ x % -m = r) := by
  have e := (Int.ediv_emod_unique hm).2 ⟨h, h0, h1⟩
  exact ⟨e, by rw [Int.ediv_neg, e.1], by rw [Int.emod_neg, e.2]⟩
theorem dm_pos (n m : Nat) (h : m ≠ 0) : (n : Int) / m = ((n / m : Nat) : Int) ∧ (n : Int) % m = ((n % m : Nat) : Int) ∧ (n : Int) / -(m : Int) = -((n / m : Nat) : Int) ∧ (n : Int) % -(m : Int) = ((n % m : Nat) : Int) := by
  have e := Nat.div_add_mod n m
  have l := Nat.mod_lt n (Nat.pos_of_ne_zero h)
  obtain ⟨h1, h2⟩ := edm (x := n) (m := m) (q := ((n / m : Nat) : Int)) (r := ((n % m : Nat) : Int)) (by omega) (by rw [← Int.natCast_mul, ← Int.natCast_add, Nat.add_comm, e]) (by omega) (by omega)
  exact ⟨h1.1, h1.2, h2.1, h2.2⟩
theorem dm_neg0 (n m : Nat) (h : m ≠ 0) (hp : n % m = 0) : -(n : Int) / m = -((n / m : Nat) : Int) ∧ -(n : Int) % m = 0 ∧ -(n : Int) / -(m : Int) = ((n / m : Nat) : Int) ∧ -(n : Int) % -(m : Int) = 0 := by
  have e := Nat.div_add_mod n m
  obtain ⟨h1, h2⟩ := edm (x := -(n : Int)) (m := m) (q := -((n / m : Nat) : Int)) (r := 0) (by omega) (by
    rw [Int.mul_neg, ← Int.natCast_mul]
    omega) (by omega) (by omega)
  exact ⟨h1.1, h1.2, by rw [h2.1, Int.neg_neg], h2.2⟩
theorem dm_neg1 (n m : Nat) (h : m ≠ 0) (hp : n % m ≠ 0) : -(n : Int) / m = -((n / m + 1 : Nat) : Int) ∧ -(n : Int) % m = ((m - n % m : Nat) : Int) ∧ -(n : Int) / -(m : Int) = ((n / m + 1 : Nat) : Int) ∧ -(n : Int) % -(m : Int) = ((m - n % m : Nat) : Int) := by
  have e := Nat.div_add_mod n m
  have l := Nat.mod_lt n (Nat.pos_of_ne_zero h)
  obtain ⟨h1, h2⟩ := edm (x := -(n : Int)) (m := m) (q := -((n / m + 1 : Nat) : Int)) (r := ((m - n % m : Nat) : Int)) (by omega) (by
    rw [Int.mul_neg, ← Int.natCast_mul, Nat.mul_add, Nat.mul_one]
    omega) (by omega) (by omega)
  exact ⟨h1.1, h1.2, by rw [h2.1, Int.neg_neg], h2.2⟩
theorem ZPost.cast {q r err q' r' err' : Int} {w w' : World} {e : Ending} (h : ZPost q r err w e w') (h1 : q' = q) (h2 : r' = r) (h3 : err' = err) : ZPost q' r' err' w e w' := by
  subst h1 h2 h3; exact h
/-- the order of two integers -/
def zC (x y : Int) : Int := if x < y then -1 else if x = y then 0 else 1
theorem Keep.drew {w w' : World} (h : Keep w w') : Keep w w'.drew := Below.trans h ⟨rfl, rfl, rfl, Nat.le_refl _, fun _ _ => rfl⟩
theorem sgn_facts (z : Int) : (sgn z = -1 ∧ z < 0) ∨ (sgn z = 0 ∧ z = 0) ∨ (sgn z = 1 ∧ 0 < z) := by
  unfold sgn; split
  · exact .inl ⟨rfl, by omega⟩
  · split
    · exact .inr (.inl ⟨rfl, by omega⟩)
    · exact .inr (.inr ⟨rfl, by omega⟩)
/-- a value that reads as the integer z, in at most k limbs -/
def Iz (w : World) (v : Value) (z : Int) (k : Nat) : Prop := ∃ s n, iv s n = z ∧ Im w v s n k
theorem Iz.keep {w w' : World} {v : Value} {z : Int} {k : Nat} (h : Iz w v z k) (hk : Keep w w') : Iz w' v z k := by
  obtain ⟨s, n, h1, h2⟩ := h
  exact ⟨s, n, h1, h2.keep hk⟩
theorem Ci.iz {w : World} {v : Value} {z : Int} {k : Nat} (h : Ci w v z) (hk : z.natAbs < BB ^ k) : Iz w v z k := ⟨_, _, iv_abs z, h.im hk⟩
theorem RBox.set {g : Nat} {u0 u1 : Value} {w : World} (h : RBox g u0 u1 w) (b : Bool) (a : Option Addr) (n c : Nat) : RBox g (.bool b) (.slice a n c) ((w.setCell ⟨g, 0, none⟩ (.bool b)).setCell ⟨g, 1, none⟩ (.slice a n c)) := by
  have c1 : (w.setCell ⟨g, 0, none⟩ (.bool b)).cell? ⟨g, 1, none⟩ = some u1 := by rw [World.cell?_setCell_other _ _ _ _ (by simp)]; exact h.c1
  refine ⟨?_, World.cell?_setCell_same _ _ _ c1, by simpa using h.f0, by simpa using h.f1, fun i x => ?_⟩
  · rw [World.cell?_setCell_other _ _ _ _ (by simp)]; exact World.cell?_setCell_same _ _ _ h.c0
  · by_cases h1 : i = 1
    · subst h1; rw [World.cell?_setCell_same _ _ _ c1]; simp
    · rw [World.cell?_setCell_other _ _ _ _ (by simp <;> omega)]
      by_cases h0 : i = 0
      · subst h0; rw [World.cell?_setCell_same _ _ _ h.c0]; simp
      · rw [World.cell?_setCell_other _ _ _ _ (by simp <;> omega)]; exact h.no i x
theorem keep_new (w : World) (o : Obj) : Keep w (w.alloc o).drew := ((Keep.refl w).alloc o).drew
theorem keep_drew (w : World) : Keep w w.drew := (Keep.refl w).drew
theorem mul_lt {n m k j : Nat} (h : n < BB ^ k) (h' : m < BB ^ j) : n * m < BB ^ (k + j) := by
  rw [Nat.pow_add]
  exact Nat.mul_lt_mul'' h h'
theorem add_lt2 {n m k j : Nat} (h : n < BB ^ k) (h' : m < BB ^ j) : n + m < BB ^ (k + j + 1) := by
  have h1 : BB ^ k ≤ BB ^ (k + j) := Nat.pow_le_pow_right BB_pos (by omega)
  have h2 : BB ^ j ≤ BB ^ (k + j) := Nat.pow_le_pow_right BB_pos (by omega)
  have h3 : BB ^ (k + j + 1) = BB ^ (k + j) * BB := Nat.pow_succ ..
  have h4 : BB ^ (k + j) * 2 ≤ BB ^ (k + j) * BB := Nat.mul_le_mul_left _ (by decide)
  omega
theorem sgn_sub (z y : Int) : sgn (z - y) = zC z y := by
  unfold sgn zC
  split <;> split <;> (try split) <;> (try split) <;> omega
theorem iv_abs' (s : Bool) (n : Nat) : (iv s n).natAbs = n := by cases s <;> simp [iv]
theorem sub_lt {z y : Int} {k k' : Nat} (h : z.natAbs < BB ^ k) (h' : y.natAbs < BB ^ k') : (z - y).natAbs < BB ^ (k + k' + 1) := by
  have := add_lt2 h h'
  omega
theorem QBox.other3 {g g' : Nat} {u0 u1 u2 : Value} {w : World} (h : QBox g' u0 u1 u2 w) (hne : g ≠ g') (u v x : Value) : QBox g' u0 u1 u2 (((w.setCell ⟨g, 0, none⟩ u).setCell ⟨g, 1, none⟩ v).setCell ⟨g, 2, none⟩ x) := by
  have e : ∀ j, (((w.setCell ⟨g, 0, none⟩ u).setCell ⟨g, 1, none⟩ v).setCell ⟨g, 2, none⟩ x).cell? ⟨g', j, none⟩ = w.cell? ⟨g', j, none⟩ := fun j => by
    rw [World.cell?_setCell_other _ _ _ _ (by simp), World.cell?_setCell_other _ _ _ _ (by simp), World.cell?_setCell_other _ _ _ _ (by simp)]
  have f : ∀ j, (((w.setCell ⟨g, 0, none⟩ u).setCell ⟨g, 1, none⟩ v).setCell ⟨g, 2, none⟩ x).frozen? ⟨g', j, none⟩ = w.frozen? ⟨g', j, none⟩ := fun j => by simp
  exact ⟨(e 0).trans h.c0, (e 1).trans h.c1, (e 2).trans h.c2, (f 0).trans h.f0, (f 1).trans h.f1, (f 2).trans h.f2, fun i y => by rw [e i]; exact h.no i y⟩
theorem op1 (w : World) (s : Bool) (a : Option Addr) (n c : Nat) (a' : Option Addr) (n' c' : Nat) :
    Hid (QBox w.heap.size (.bool s) (.slice a n c) (.slice a' n' c') ((w.alloc (.cells #[.bool s, .slice a n c, .slice a' n' c'] 37)).alloc (.cells #[.bool false, .slice none 0 0, .slice none 0 0] 37))) ∧ Hid (QBox (w.heap.size + 1) (.bool false) (.slice none 0 0) (.slice none 0 0) ((w.alloc (.cells #[.bool s, .slice a n c, .slice a' n' c'] 37)).alloc (.cells #[.bool false, .slice none 0 0, .slice none 0 0] 37))) ∧ Hid (Keep w ((w.alloc (.cells #[.bool s, .slice a n c, .slice a' n' c'] 37)).alloc (.cells #[.bool false, .slice none 0 0, .slice none 0 0] 37))) :=
  ⟨Lib.hid ((QBox.new w s a n c a' n' c').keep ((Keep.refl _).alloc _)), Lib.hid ((QBox.new (w.alloc _) false none 0 0 none 0 0).at (sz1 _ _)), Lib.hid (((Keep.refl w).alloc _).alloc _)⟩
theorem Ra.form {w : World} {v : Value} {q : Rat} {k : Nat} (h : Ra w v q k) : ∃ s a n c a' n' c' N D, v = .agg #[.bool s, .slice a n c, .slice a' n' c'] ∧ Nm w (.slice a n c) N k ∧ Nm w (.slice a' n' c') D k ∧ rv s N D = q := by
  obtain ⟨s, n, d, x, y, h1, h2, h3, h4⟩ := h
  obtain ⟨a, len, cap, l, rfl, _⟩ := h2.form3
  obtain ⟨a', len', cap', l', rfl, _⟩ := h3.form3
  exact ⟨s, a, len, cap, a', len', cap', n, d, h1, h2, h3, h4⟩
theorem Nm.alive {w : World} {v : Value} {n k : Nat} (h : Nm w v n k) : True := trivial
/-- a result that is about to be written, its parts known -/
theorem put_of {w0 w : World} {q : Rat} {g : Nat} {u0 u1 u2 : Value} {b : Bool} {a a' : Option Addr} {n c n' c' : Nat} (hb : decide (q.num < 0) = b) (h : Rd w a n c (dig q.num.natAbs)) (h' : Rd w a' n' c' (dig (wd q))) (B : QBox g u0 u1 u2 w) (hk : Keep w0 w) (hg : w0.heap.size ≤ g) :
      RPost q w0 (.returned (.agg #[.bool b, .slice a n c, .slice a' n' c'])) (((w.setCell ⟨g, 0, none⟩ (.bool b)).setCell ⟨g, 1, none⟩ (.slice a n c)).setCell ⟨g, 2, none⟩ (.slice a' n' c')) ∧
      Keep w0 (((w.setCell ⟨g, 0, none⟩ (.bool b)).setCell ⟨g, 1, none⟩ (.slice a n c)).setCell ⟨g, 2, none⟩ (.slice a' n' c')) ∧
      (w.setCell ⟨g, 0, none⟩ (.bool b)).cell? ⟨g, 0, none⟩ = some (.bool b) ∧ ((w.setCell ⟨g, 0, none⟩ (.bool b)).setCell ⟨g, 1, none⟩ (.slice a n c)).cell? ⟨g, 1, none⟩ = some (.slice a n c) ∧
      (((w.setCell ⟨g, 0, none⟩ (.bool b)).setCell ⟨g, 1, none⟩ (.slice a n c)).setCell ⟨g, 2, none⟩ (.slice a' n' c')).cell? ⟨g, 2, none⟩ = some (.slice a' n' c') := by
  obtain ⟨s1, s2, s3, s4, s5⟩ := B.store hk hg (.bool b) (.slice a n c) (.slice a' n' c')
  exact ⟨RPost.of hb (s2 _ _ _ _ h) (s2 _ _ _ _ h') s1, s1, s3, s4, s5⟩
theorem rS_0 (s : Bool) (d : Nat) : rS (rv s 0 d) = 0 := by rw [rv_zero]; rfl
theorem rS_n (s : Bool) {n : Nat} (d : Nat) (h : n ≠ 0) : rS (rv s n d) = if s then -1 else 1 := by
  rw [rS_rv]
  cases s
  · show iC (n : Int) 0 = 1; unfold iC; rw [if_neg (by omega), if_pos (by omega)]
  · show iC (-(n : Int)) 0 = -1; unfold iC; rw [if_pos (by omega)]
theorem of_parts (x : Int) : decide ((x : Rat).num < 0) = decide (x < 0) ∧ (x : Rat).num.natAbs = x.natAbs ∧ wd (x : Rat) = 0 := ⟨rfl, rfl, by unfold wd; rw [Rat.den_intCast, if_pos rfl]⟩
theorem put_int {w0 w : World} {z : Int} {g : Nat} {u0 u1 : Value} {b : Bool} {a : Option Addr} {n c : Nat} (hb : decide (z < 0) = b) (h : Rd w a n c (dig z.natAbs)) (B : RBox g u0 u1 w) (hk : Keep w0 w) (hg : w0.heap.size ≤ g) :
      IPostZ z w0 (.returned (.agg #[.bool b, .slice a n c])) ((w.setCell ⟨g, 0, none⟩ (.bool b)).setCell ⟨g, 1, none⟩ (.slice a n c)) ∧
      (w.setCell ⟨g, 0, none⟩ (.bool b)).cell? ⟨g, 0, none⟩ = some (.bool b) ∧ ((w.setCell ⟨g, 0, none⟩ (.bool b)).setCell ⟨g, 1, none⟩ (.slice a n c)).cell? ⟨g, 1, none⟩ = some (.slice a n c) := by
  obtain ⟨hs1, hs2, r0, r1⟩ := B.store hk hg (.bool b) (.slice a n c)
  exact ⟨⟨_, rfl, ⟨.slice a n c, by rw [hb], a, n, c, rfl, hs2 _ _ _ _ h⟩, hs1⟩, r0, r1⟩
theorem op2 (w : World) (s : Bool) (a : Option Addr) (n c : Nat) (a' : Option Addr) (n' c' : Nat) (t : Bool) (b : Option Addr) (m g : Nat) (b' : Option Addr) (m' g' : Nat) :
    Hid (QBox w.heap.size (.bool s) (.slice a n c) (.slice a' n' c') (((w.alloc (.cells #[.bool s, .slice a n c, .slice a' n' c'] 37)).alloc (.cells #[.bool t, .slice b m g, .slice b' m' g'] 37)).alloc (.cells #[.bool false, .slice none 0 0, .slice none 0 0] 37))) ∧ Hid (QBox (w.heap.size + 1) (.bool t) (.slice b m g) (.slice b' m' g') (((w.alloc (.cells #[.bool s, .slice a n c, .slice a' n' c'] 37)).alloc (.cells #[.bool t, .slice b m g, .slice b' m' g'] 37)).alloc (.cells #[.bool false, .slice none 0 0, .slice none 0 0] 37))) ∧
    Hid (QBox (w.heap.size + 1 + 1) (.bool false) (.slice none 0 0) (.slice none 0 0) (((w.alloc (.cells #[.bool s, .slice a n c, .slice a' n' c'] 37)).alloc (.cells #[.bool t, .slice b m g, .slice b' m' g'] 37)).alloc (.cells #[.bool false, .slice none 0 0, .slice none 0 0] 37))) ∧ Hid (Keep w (((w.alloc (.cells #[.bool s, .slice a n c, .slice a' n' c'] 37)).alloc (.cells #[.bool t, .slice b m g, .slice b' m' g'] 37)).alloc (.cells #[.bool false, .slice none 0 0, .slice none 0 0] 37))) :=
  ⟨Lib.hid ((QBox.new w s a n c a' n' c').keep (((Keep.refl _).alloc _).alloc _)), Lib.hid (((QBox.new (w.alloc _) t b m g b' m' g').at (sz1 _ _)).keep ((Keep.refl _).alloc _)),
    Lib.hid ((QBox.new ((w.alloc _).alloc _) false none 0 0 none 0 0).at (sz2 _ _ _)), Lib.hid ((((Keep.refl w).alloc _).alloc _).alloc _)⟩
/-- the answer of addWords -/
def AWPost (q : Rat) (w : World) (e : Ending) (w' : World) : Prop := R2Post q (.bool true) w e w' ∨ (e = .returned (.tuple #[.agg #[.bool false, .slice none 0 0, .slice none 0 0], .bool false]) ∧ Keep w w')
theorem Rd.keep {w w' : World} {a : Option Addr} {n c : Nat} {l : List Nat} (h : Rd w a n c l) (k : Keep w w') : Rd w' a n c l := h.below k
theorem short_lt {l : List Nat} (hl : Lim l) (h : l.length ≤ 1) : nv l < 4294967296 := by
  have h1 := nv_lt hl
  have h2 : BB ^ l.length ≤ BB ^ 1 := Nat.pow_le_pow_right BB_pos h
  have h3 : BB ^ 1 = 4294967296 := by decide
  rw [h3] at h2
  omega
theorem dn_lt {d : Nat} (h : d < 4294967296) : dn d < 4294967296 := by unfold dn; split <;> omega
theorem mul_word {a b : Nat} (h : a < 4294967296) (h' : b < 4294967296) : a * b < 18446744073709551616 := by
  calc a * b ≤ 4294967295 * 4294967295 := Nat.mul_le_mul (by omega) (by omega)
    _ < 18446744073709551616 := by decide
theorem mul_wrap {a b p : Nat} (h : a * b = p) (hp : p < 18446744073709551616) : IntKind.u64.wrap ((a : Int) * b) = (p : Nat) := by
  rw [show ((a : Int) * b) = (p : Nat) from by rw [← h]; push_cast; rfl]
  exact wr64 hp
theorem mkRat_iv (s : Bool) (n : Nat) {d : Nat} (h : d ≠ 0) : mkRat (iv s n) d = rv s n d := by unfold rv; rw [dn_of h]
theorem RBox.other3 {g g' : Nat} {u0 u1 : Value} {w : World} (h : RBox g' u0 u1 w) (hne : g ≠ g') (u v x : Value) : RBox g' u0 u1 (((w.setCell ⟨g, 0, none⟩ u).setCell ⟨g, 1, none⟩ v).setCell ⟨g, 2, none⟩ x) := by
  have e : ∀ j, (((w.setCell ⟨g, 0, none⟩ u).setCell ⟨g, 1, none⟩ v).setCell ⟨g, 2, none⟩ x).cell? ⟨g', j, none⟩ = w.cell? ⟨g', j, none⟩ := fun j => by
    rw [World.cell?_setCell_other _ _ _ _ (by simp), World.cell?_setCell_other _ _ _ _ (by simp), World.cell?_setCell_other _ _ _ _ (by simp)]
  have f : ∀ j, (((w.setCell ⟨g, 0, none⟩ u).setCell ⟨g, 1, none⟩ v).setCell ⟨g, 2, none⟩ x).frozen? ⟨g', j, none⟩ = w.frozen? ⟨g', j, none⟩ := fun j => by simp
  exact ⟨(e 0).trans h.c0, (e 1).trans h.c1, (f 0).trans h.f0, (f 1).trans h.f1, fun i y => by rw [e i]; exact h.no i y⟩
theorem cmpv_eq0 (a b : Nat) : (cmpv a b == 0) = decide (a = b) := by
  by_cases h : a = b
  · rw [cmpv_eq h]; simp [h]
  · rcases Nat.lt_or_gt_of_ne h with g | g
    · rw [cmpv_lt g]; simp [h]
    · rw [cmpv_gt g]; simp [h]
theorem dn_lt' {d k : Nat} (h : d < BB ^ k) (hk : 1 ≤ k) : dn d < BB ^ k := by
  have := one_lt_BB hk
  unfold dn; split <;> omega
theorem iv_add_abs (s t : Bool) {n m k : Nat} (h : n < BB ^ k) (h' : m < BB ^ k) : (iv s n + iv t m).natAbs < BB ^ (k + 1) := by
  refine Nat.lt_of_le_of_lt (Int.natAbs_add_le _ _) ?_
  rw [iv_natAbs, iv_natAbs]
  exact lt_add_pow h h'
/-- a pointer to a new block that holds an integer -/
def PBox (w0 : World) (lo : Nat) (s : Bool) (n : Nat) (v : Value) (wx : World) : Prop := ∃ g a len cap, v = .pointer (some ⟨g, 0, none⟩) ∧ lo ≤ g ∧ RBox g (.bool s) (.slice a len cap) wx ∧ Cn wx (.slice a len cap) n ∧ Keep w0 wx
theorem QBox.other2 {g g' : Nat} {u0 u1 u2 : Value} {w : World} (h : QBox g' u0 u1 u2 w) (hne : g ≠ g') (u v : Value) : QBox g' u0 u1 u2 ((w.setCell ⟨g, 0, none⟩ u).setCell ⟨g, 1, none⟩ v) := by
  have e : ∀ j, ((w.setCell ⟨g, 0, none⟩ u).setCell ⟨g, 1, none⟩ v).cell? ⟨g', j, none⟩ = w.cell? ⟨g', j, none⟩ := fun j => by
    rw [World.cell?_setCell_other _ _ _ _ (by simp), World.cell?_setCell_other _ _ _ _ (by simp)]
  have f : ∀ j, ((w.setCell ⟨g, 0, none⟩ u).setCell ⟨g, 1, none⟩ v).frozen? ⟨g', j, none⟩ = w.frozen? ⟨g', j, none⟩ := fun j => by simp
  exact ⟨(e 0).trans h.c0, (e 1).trans h.c1, (e 2).trans h.c2, (f 0).trans h.f0, (f 1).trans h.f1, (f 2).trans h.f2, fun i y => by rw [e i]; exact h.no i y⟩
theorem Ci.cn {w : World} {a : Option Addr} {n c : Nat} {b : Bool} {z : Int} (h : Ci w (.agg #[.bool b, .slice a n c]) z) : Cn w (.slice a n c) z.natAbs := by
  obtain ⟨m, e, h⟩ := h
  cases e
  exact h
theorem Nm.dec (n m : Nat) : n = m ∨ ¬ n = m := by omega
theorem rv_ne_zero {s : Bool} {n d : Nat} : rv s n d ≠ 0 ↔ n ≠ 0 := by
  constructor
  · rintro h rfl; exact h (rv_zero s d)
  · intro h e
    have h1 := rS_n s d h
    rw [e] at h1
    cases s <;> exact absurd h1 (by decide)
theorem iC_self (x : Int) : iC x x = 0 := by unfold iC; rw [if_neg (Int.lt_irrefl _), if_neg (Int.lt_irrefl _)]
theorem iC_neg (x y : Int) : iC (-x) (-y) = -iC x y := by
  unfold iC
  rcases Int.lt_trichotomy x y with h | h | h
  · rw [if_neg (by omega), if_pos (by omega), if_pos h]; rfl
  · subst h; rw [if_neg (Int.lt_irrefl _), if_neg (Int.lt_irrefl _), if_neg (Int.lt_irrefl _), if_neg (Int.lt_irrefl _)]; rfl
  · rw [if_pos (by omega), if_neg (by omega), if_pos h]
theorem iC_cmpv (n m : Nat) : cmpv n m = iC n m := by
  unfold cmpv iC
  by_cases h : n < m
  · rw [if_pos h, if_pos (by omega)]
  · by_cases h2 : m < n
    · rw [if_neg h, if_pos h2, if_neg (by omega), if_pos (by omega)]
    · rw [if_neg h, if_neg h2, if_neg (by omega), if_neg (by omega)]
theorem rS_range (p : Rat) : rS p = -1 ∨ rS p = 0 ∨ rS p = 1 := by
  unfold rS; rcases rC_facts p 0 with h | h | h <;> simp [h.1]
theorem iC_range (x y : Int) : iC x y = -1 ∨ iC x y = 0 ∨ iC x y = 1 := by
  unfold iC; split
  · exact .inl rfl
  · split
    · exact .inr (.inr rfl)
    · exact .inr (.inl rfl)
/-- numbers of unlike signs, or two zeros -/
theorem rC_unlike {p q : Rat} (h : rS p ≠ rS q ∨ rS p = 0) : iC (rS p) (rS q) = rC p q := by
  unfold rS at *
  rcases rC_facts p 0 with a | a | a <;> rcases rC_facts q 0 with b | b | b <;> rw [a.1, b.1] at h ⊢
  · simp at h
  · rw [rC_lt (by grind)]; decide
  · rw [rC_lt (by grind)]; decide
  · rw [rC_gt (by grind)]; decide
  · rw [a.2, b.2, rC_self]; decide
  · rw [rC_lt (by grind)]; decide
  · rw [rC_gt (by grind)]; decide
  · rw [rC_gt (by grind)]; decide
  · simp at h
theorem rC_like (s : Bool) {N D M E : Nat} (hN : N ≠ 0) : rC (rv s N D) (rv s M E) = rS (rv s N D) * iC (N * dn E : Nat) (M * dn D : Nat) := by
  rw [rC_rv, rS_n s D hN]
  cases s
  · show iC (N * dn E : Nat) (M * dn D : Nat) = 1 * _; omega
  · show iC (-((N * dn E : Nat) : Int)) (-((M * dn D : Nat) : Int)) = -1 * _
    rw [iC_neg]; omega
theorem rS_sign {s t : Bool} {N D M E : Nat} (h : rS (rv s N D) = rS (rv t M E)) (h0 : rS (rv s N D) ≠ 0) : s = t ∧ N ≠ 0 ∧ M ≠ 0 := by
  have hN : N ≠ 0 := by rintro rfl; exact h0 (rS_0 _ _)
  have hM : M ≠ 0 := by rintro rfl; rw [rS_0] at h; exact h0 h
  rw [rS_n s D hN, rS_n t E hM] at h
  refine ⟨?_, hN, hM⟩
  cases s <;> cases t <;> simp_all
theorem mul_range {x y : Int} (h : x = -1 ∨ x = 0 ∨ x = 1) (h' : y = -1 ∨ y = 0 ∨ y = 1) : wrap64 (x * y) = x * y := by
  rcases h with rfl | rfl | rfl <;> rcases h' with rfl | rfl | rfl <;> exact IntWalk.wrap64_in _ ⟨by decide, by decide⟩
theorem mul_range' {x y : Int} (h : x = -1 ∨ x = 0 ∨ x = 1) (h' : y = -1 ∨ y = 0 ∨ y = 1) : IntKind.i64.wrap (x * y) = x * y := by
  rcases h with rfl | rfl | rfl <;> rcases h' with rfl | rfl | rfl <;> decide
theorem op2n (w : World) (s : Bool) (a : Option Addr) (n c : Nat) (a' : Option Addr) (n' c' : Nat) (t : Bool) (b : Option Addr) (m e : Nat) (b' : Option Addr) (m' e' : Nat) :
    Hid (QBox w.heap.size (.bool s) (.slice a n c) (.slice a' n' c') ((w.alloc (.cells #[.bool s, .slice a n c, .slice a' n' c'] 37)).alloc (.cells #[.bool t, .slice b m e, .slice b' m' e'] 37))) ∧ Hid (QBox (w.heap.size + 1) (.bool t) (.slice b m e) (.slice b' m' e') ((w.alloc (.cells #[.bool s, .slice a n c, .slice a' n' c'] 37)).alloc (.cells #[.bool t, .slice b m e, .slice b' m' e'] 37))) ∧ Hid (Keep w ((w.alloc (.cells #[.bool s, .slice a n c, .slice a' n' c'] 37)).alloc (.cells #[.bool t, .slice b m e, .slice b' m' e'] 37))) :=
  ⟨Lib.hid ((QBox.new w s a n c a' n' c').keep ((Keep.refl _).alloc _)), Lib.hid ((QBox.new (w.alloc _) t b m e b' m' e').at (sz1 _ _)), Lib.hid (((Keep.refl w).alloc _).alloc _)⟩
theorem rv_frac {x y : Int} (h : y.natAbs ≠ 0) : rv (decide (x < 0) != decide (y < 0)) x.natAbs y.natAbs = (x : Rat) / (y : Rat) := by
  rw [Rat.div_def, ← rv_of x, ← rv_of y, rv_inv _ 0 h, rv_mul, dn_zero, Nat.mul_one, Nat.one_mul, dn_of h]
theorem keep_set {w0 w : World} (h : Keep w0 w) {g j : Nat} (hg : w0.heap.size ≤ g) (u : Value) : Keep w0 (w.setCell ⟨g, j, none⟩ u) := Below.setCell h (by exact hg) u
/-- a pointer to a block that holds an integer, read alone -/
def PB3 (w0 : World) (b : Bool) (n : Nat) (v : Value) (wx : World) : Prop := ∃ g a len cap, v = .pointer (some ⟨g, 0, none⟩) ∧ wx.cell? ⟨g, 0, none⟩ = some (.bool b) ∧ wx.cell? ⟨g, 1, none⟩ = some (.slice a len cap) ∧ Rd wx a len cap (dig n) ∧ Keep w0 wx
theorem pb3_two {W0 V : World} {g3 g4 n : Nat} {u0 u1 u2 u3 : Value} {qa ra : Option Addr} {qn qc rn rc : Nat} (h3 : RBox g3 u0 u1 V) (h4 : RBox g4 u2 u3 V) (hne : ¬ g3 = g4) (hk : Keep W0 V) (hg3 : W0.heap.size ≤ g3) (hg4 : W0.heap.size ≤ g4) (hr : Rd V qa qn qc (dig n)) (b br : Bool) :
    PB3 W0 b n (.pointer (some ⟨g3, 0, none⟩)) ((((V.setCell ⟨g3, 0, none⟩ (.bool b)).setCell ⟨g3, 1, none⟩ (.slice qa qn qc)).setCell ⟨g4, 0, none⟩ (.bool br)).setCell ⟨g4, 1, none⟩ (.slice ra rn rc)) := by
  obtain ⟨k1, r1, _, _⟩ := h3.store hk hg3 (.bool b) (.slice qa qn qc)
  have H4 := h4.other (g := g3) hne 0 1 (.bool b) (.slice qa qn qc)
  obtain ⟨k2, r2, _, _⟩ := H4.store k1 hg4 (.bool br) (.slice ra rn rc)
  have H3 := (h3.set b qa qn qc).other (g := g4) (fun e => hne e.symm) 0 1 (.bool br) (.slice ra rn rc)
  exact ⟨g3, qa, qn, qc, rfl, H3.c0, H3.c1, r2 _ _ _ _ (r1 _ _ _ _ hr), k2⟩
theorem floor_z (s : Bool) (N D : Nat) : zQ (iv s N) (iv false (dn D)) = (rv s N D).floor := by
  rw [floor_rv]
  have h0 : ¬ ((iv false (dn D) : Int) = 0) := by
    have := dn_pos D
    show ¬ ((dn D : Nat) : Int) = 0
    omega
  exact if_neg h0

/-- a pointer to a new block that holds a number -/
def PBoxQ (w0 : World) (lo : Nat) (q : Rat) (v : Value) (wx : World) : Prop := ∃ g b a n c a' n' c', v = .pointer (some ⟨g, 0, none⟩) ∧ lo ≤ g ∧ QBox g (.bool b) (.slice a n c) (.slice a' n' c') wx ∧ Cr wx (.agg #[.bool b, .slice a n c, .slice a' n' c']) q ∧ Keep w0 wx
theorem PBoxQ.post {w0 v : World} {lo : Nat} {q : Rat} {b : Bool} {a a' : Option Addr} {n c n' c' : Nat} (hc : Cr v (.agg #[.bool b, .slice a n c, .slice a' n' c']) q) (hlo : lo ≤ v.heap.size) (hk : Keep w0 v) :
    PBoxQ w0 lo q (.pointer (some ⟨v.heap.size, 0, none⟩)) (v.alloc (.cells #[.bool b, .slice a n c, .slice a' n' c'] 37)) :=
  ⟨_, b, a, n, c, a', n', c', rfl, hlo, QBox.new v b a n c a' n' c', hc.keep ((Keep.refl _).alloc _), hk.alloc _⟩
theorem Cr.rds {w : World} {b : Bool} {a a' : Option Addr} {n c n' c' : Nat} {q : Rat} (h : Cr w (.agg #[.bool b, .slice a n c, .slice a' n' c']) q) : decide (q.num < 0) = b ∧ Rd w a n c (dig q.num.natAbs) ∧ Rd w a' n' c' (dig (wd q)) := by
  obtain ⟨x, y, e, ⟨_, _, _, rfl, h1⟩, ⟨_, _, _, rfl, h2⟩⟩ := h
  cases e
  exact ⟨rfl, h1, h2⟩
theorem PBoxQ.pre {w0 v : World} {lo g : Nat} {q : Rat} {b : Bool} {a a' : Option Addr} {n c n' c' : Nat} {u0 u1 u2 : Value} (hc : Cr v (.agg #[.bool b, .slice a n c, .slice a' n' c']) q) (B : QBox g u0 u1 u2 v) (hlo : lo ≤ g) (hg : w0.heap.size ≤ g) (hk : Keep w0 v) :
    PBoxQ w0 lo q (.pointer (some ⟨g, 0, none⟩)) (((v.setCell ⟨g, 0, none⟩ (.bool b)).setCell ⟨g, 1, none⟩ (.slice a n c)).setCell ⟨g, 2, none⟩ (.slice a' n' c')) := by
  obtain ⟨h1, h2, h3⟩ := hc.rds
  obtain ⟨s1, s2, s3, s4, s5⟩ := B.store hk hg (.bool b) (.slice a n c) (.slice a' n' c')
  refine ⟨g, b, a, n, c, a', n', c', rfl, hlo, ⟨?_, ?_, s5, by simpa using B.f0, by simpa using B.f1, by simpa using B.f2, ?_⟩, Cr.of h1 (s2 _ _ _ _ h2) (s2 _ _ _ _ h3), s1⟩
  · rw [World.cell?_setCell_other _ _ _ _ (by simp), World.cell?_setCell_other _ _ _ _ (by simp)]; exact s3
  · rw [World.cell?_setCell_other _ _ _ _ (by simp)]; exact s4
  · intro i x
    match i with
    | 0 => rw [World.cell?_setCell_other _ _ _ _ (by simp), World.cell?_setCell_other _ _ _ _ (by simp), s3]; simp
    | 1 => rw [World.cell?_setCell_other _ _ _ _ (by simp), s4]; simp
    | 2 => rw [s5]; simp
    | i + 3 =>
      rw [World.cell?_setCell_other _ _ _ _ (by simp), World.cell?_setCell_other _ _ _ _ (by simp), World.cell?_setCell_other _ _ _ _ (by simp)]
      exact B.no (i + 3) x
/-- what is known of the bounds of a step -/
theorem smp_rb {k : Nat} {lo hi s : Rat} (h0 : 0 < lo) (hs : Smp lo hi s) (h1 : lo ≤ hi) (hlo : Rb lo k) : Rb s k := by
  have a := hs.den lo Rat.le_refl h1
  have b := hs.num lo Rat.le_refl h1
  have c := num_pos' h0
  have d : 0 < s.num := num_pos' (by have := hs.ge; grind)
  exact ⟨by have := hlo.1; omega, by have := hlo.2; omega⟩
theorem step_rb {k : Nat} {lo hi lo' hi' : Rat} {f : Int} (h : SmStep lo hi f lo' hi') (el : lo' = (hi - (f : Rat))⁻¹) (eh : hi' = (lo - (f : Rat))⁻¹) (hlo : Rb lo k) (hhi : Rb hi k) (hk : 1 ≤ k) : Rb (hi - (f : Rat)) k ∧ Rb (lo - (f : Rat)) k ∧ Rb lo' k ∧ Rb hi' k := by
  have a1 := num_pos' h.x0
  have a2 := num_pos' h.y0
  have b1 : Rb (hi - (f : Rat)) k := ⟨by have := h.y1.1; have := hhi.2; omega, by rw [h.y1.2]; exact hhi.2⟩
  have b2 : Rb (lo - (f : Rat)) k := ⟨by have := h.x1.1; have := hlo.2; omega, by rw [h.x1.2]; exact hlo.2⟩
  exact ⟨b1, b2, el ▸ b1.inv hk, eh ▸ b2.inv hk⟩
theorem floor_rb {k : Nat} {lo : Rat} (h0 : 0 < lo) (hlo : Rb lo k) : 0 ≤ lo.floor ∧ lo.floor.natAbs < BB ^ k := by
  have f0 : 0 ≤ lo.floor := Rat.le_floor_iff.2 (by simpa using Rat.le_of_lt h0)
  refine ⟨f0, ?_⟩
  have h2 : (lo.floor : Rat) ≤ lo := Rat.floor_le lo
  rw [Rat.le_iff] at h2
  simp at h2
  have h3 := lo.den_nz
  have h4 : lo.floor * 1 ≤ lo.floor * (lo.den : Int) := Int.mul_le_mul_of_nonneg_left (by omega) f0
  have h5 := hlo.1
  have h6 := num_pos' h0
  omega

theorem whole_cr {w : World} {F : Int} {a : Option Addr} {n c : Nat} (h0 : 0 ≤ F) (h : Ci w (.agg #[.bool false, .slice a n c]) F) : Cr w (.agg #[.bool false, .slice a n c, .slice none 0 0]) (F : Rat) := by
  obtain ⟨_, _, _, e, hr⟩ := h.cn
  cases e
  obtain ⟨p1, p2, p3⟩ := of_parts F
  refine Cr.of (p1.trans (decide_eq_false (by omega))) (by rw [p2]; exact hr) (by rw [p3, dig_zero]; exact Rd.nil _)
end Go.Proofs.YtcdkehghdhcokaaDoor
