/- Carried over from another seat by program (portn.py). -/
import Derived.Test.YtnalmjbgkedcoaaDoorIA
namespace Go.Proofs.YtnalmjbgkedcoaaDoor
set_option linter.unusedVariables false
/-- the denominator that counts -/
def dn (d : Nat) : Nat := if d = 0 then 1 else d
theorem dn_ne (d : Nat) : dn d ≠ 0 := by unfold dn; split <;> omega
theorem dn_pos (d : Nat) : 0 < dn d := Nat.pos_of_ne_zero (dn_ne d)
theorem dn_of {d : Nat} (h : d ≠ 0) : dn d = d := if_neg h
theorem dn_zero : dn 0 = 1 := rfl
theorem dn_le {d : Nat} : dn d ≤ d + 1 := by unfold dn; split <;> omega
/-- the denominator as it is written: 0 (no limbs) in place of 1 -/
def wd (q : Rat) : Nat := if q.den = 1 then 0 else q.den
theorem dn_wd (q : Rat) : dn (wd q) = q.den := by
  have := q.den_nz
  unfold dn wd; split <;> simp_all
theorem iv_abs2 (z : Int) : iv (decide (z < 0)) z.natAbs = z := by
  unfold iv
  by_cases h : z < 0
  · rw [if_pos (decide_eq_true h)]; omega
  · rw [if_neg (by simpa using h)]; omega
/-- the number that sign s, numerator n and denominator d stand for -/
def rv (s : Bool) (n d : Nat) : Rat := mkRat (iv s n) (dn d)
theorem iv_ndiv (s : Bool) (n g : Nat) (h : g ∣ n) : iv s n / (g : Int) = iv s (n / g) := by
  cases s
  · simp [iv]
  · simp only [iv, if_true]
    rw [Int.neg_ediv_of_dvd (Int.natCast_dvd_natCast.2 h)]
    simp
theorem iv_natAbs (s : Bool) (n : Nat) : (iv s n).natAbs = n := by cases s <;> simp [iv]
theorem rv_num (s : Bool) (n : Nat) {d : Nat} (h : d ≠ 0) : (rv s n d).num = iv s (n / Nat.gcd n d) := by
  unfold rv
  rw [Rat.num_mkRat, dn_of h, if_neg h, iv_natAbs, Nat.gcd_comm]
  exact iv_ndiv s n _ (Nat.gcd_dvd_left n d)
theorem rv_den (s : Bool) (n : Nat) {d : Nat} (h : d ≠ 0) : (rv s n d).den = d / Nat.gcd n d := by
  unfold rv
  rw [Rat.den_mkRat, dn_of h, if_neg h, iv_natAbs, Nat.gcd_comm]
theorem rv_abs (s : Bool) (n : Nat) {d : Nat} (h : d ≠ 0) : (rv s n d).num.natAbs = n / Nat.gcd n d := by rw [rv_num s n h, iv_natAbs]
theorem rv_zero (s : Bool) (d : Nat) : rv s 0 d = 0 := by unfold rv; cases s <;> simp [iv]
theorem rv_self (q : Rat) : rv (decide (q.num < 0)) q.num.natAbs q.den = q := by
  unfold rv
  rw [dn_of q.den_nz]
  rw [iv_abs2, Rat.mkRat_self]
theorem rv_wd (q : Rat) : rv (decide (q.num < 0)) q.num.natAbs (wd q) = q := by
  have : rv (decide (q.num < 0)) q.num.natAbs (wd q) = rv (decide (q.num < 0)) q.num.natAbs q.den := by unfold rv; rw [dn_wd, dn_of q.den_nz]
  rw [this, rv_self]
theorem rv_dn (s : Bool) (n d : Nat) : rv s n (dn d) = rv s n d := by unfold rv; rw [dn_of (dn_ne d)]
theorem iv_neg (s : Bool) (n : Nat) : iv (!s) n = -iv s n := by cases s <;> simp [iv]
theorem rv_neg (s : Bool) (n d : Nat) : rv (!s) n d = -rv s n d := by unfold rv; rw [Rat.neg_mkRat, iv_neg]
theorem rv_mul (s t : Bool) (n m d e : Nat) : rv s n d * rv t m e = rv (s != t) (n * m) (dn d * dn e) := by
  unfold rv
  rw [Rat.mkRat_mul_mkRat, dn_of (Nat.mul_ne_zero (dn_ne d) (dn_ne e))]
  congr 1
  cases s <;> cases t <;> simp [iv, Int.neg_mul, Int.mul_neg]
theorem rv_add (s t : Bool) (n m d e : Nat) : rv s n d + rv t m e = mkRat (iv s (n * dn e) + iv t (m * dn d)) (dn d * dn e) := by
  unfold rv
  rw [Rat.mkRat_add_mkRat _ _ (dn_ne d) (dn_ne e)]
  congr 1
  cases s <;> cases t <;> simp [iv, Int.neg_mul]
theorem mkRat_rv (z : Int) (d : Nat) (h : d ≠ 0) : mkRat z d = rv (decide (z < 0)) z.natAbs d := by
  unfold rv
  rw [dn_of h]
  rw [iv_abs2]
theorem rv_add_same (s t : Bool) (n m d e : Nat) (h : dn d = dn e) : rv s n d + rv t m e = mkRat (iv s n + iv t m) (dn d) := by
  unfold rv
  rw [Rat.mkRat_add_mkRat _ _ (dn_ne d) (dn_ne e), ← h, ← Int.add_mul, Rat.mkRat_mul_right (dn_ne d)]
theorem rv_inv (s : Bool) {n : Nat} (d : Nat) (h : n ≠ 0) : (rv s n d)⁻¹ = rv s (dn d) n := by
  have h0 : rv s n d * rv s (dn d) n = 1 := by
    rw [rv_mul, dn_of h]
    have : (s != s) = false := by cases s <;> rfl
    rw [this, Nat.mul_comm n (dn d)]
    unfold rv
    have h1 : dn d * n ≠ 0 := Nat.mul_ne_zero (dn_ne d) h
    rw [dn_of h1]
    show mkRat (((dn d * n : Nat) : Int)) (dn d * n) = 1
    rw [Rat.mkRat_eq_div]
    rw [Rat.div_def, Rat.intCast_natCast, Rat.mul_inv_cancel]
    exact fun h => h1 (by exact_mod_cast h)
  exact Rat.inv_eq_of_mul_eq_one h0
theorem rv_of (z : Int) : rv (decide (z < 0)) z.natAbs 0 = (z : Rat) := by
  unfold rv
  rw [iv_abs2, dn_zero]
  have : ((z : Rat)) = mkRat (z : Rat).num (z : Rat).den := (Rat.mkRat_self _).symm
  rw [this]; rfl
/-- bounds of the parts -/
def Rb (q : Rat) (k : Nat) : Prop := q.num.natAbs < BB ^ k ∧ q.den < BB ^ k
theorem BBk_pos (k : Nat) : 0 < BB ^ k := Nat.pow_pos BB_pos
theorem Rb.up {q : Rat} {k j : Nat} (h : Rb q k) (hj : k ≤ j) : Rb q j :=
  ⟨Nat.lt_of_lt_of_le h.1 (Nat.pow_le_pow_right BB_pos hj), Nat.lt_of_lt_of_le h.2 (Nat.pow_le_pow_right BB_pos hj)⟩
theorem one_lt_BB {k : Nat} (h : 1 ≤ k) : 1 < BB ^ k := Nat.one_lt_pow (by omega) (by decide)
theorem rb_rv (s : Bool) {n d k : Nat} (hn : n < BB ^ k) (hd : d < BB ^ k) (hk : 1 ≤ k) : Rb (rv s n d) k := by
  have h1 := one_lt_BB hk
  rw [← rv_dn]
  have hd' : dn d < BB ^ k := by unfold dn; split <;> omega
  refine ⟨?_, ?_⟩
  · rw [rv_abs s n (dn_ne d)]; exact Nat.lt_of_le_of_lt (Nat.div_le_self _ _) hn
  · rw [rv_den s n (dn_ne d)]; exact Nat.lt_of_le_of_lt (Nat.div_le_self _ _) hd'
theorem Rb.neg {q : Rat} {k : Nat} (h : Rb q k) : Rb (-q) k := by
  refine ⟨?_, h.2⟩
  rw [Rat.neg_num, Int.natAbs_neg]; exact h.1
theorem rb_mkRat {z : Int} {d k : Nat} (hd0 : d ≠ 0) (hn : z.natAbs < BB ^ k) (hd : d < BB ^ k) (hk : 1 ≤ k) : Rb (mkRat z d) k := by
  rw [mkRat_rv z d hd0]; exact rb_rv _ hn hd hk
theorem lt_mul_pow {a b k j : Nat} (h : a < BB ^ k) (h' : b < BB ^ j) : a * b < BB ^ (k + j) := by rw [Nat.pow_add]; exact Nat.mul_lt_mul'' h h'
theorem Rb.mul {p q : Rat} {k j : Nat} (h : Rb p k) (h' : Rb q j) (hk : 1 ≤ k) : Rb (p * q) (k + j) := by
  rw [Rat.mul_def']
  refine rb_mkRat (Nat.mul_ne_zero p.den_nz q.den_nz) ?_ (lt_mul_pow h.2 h'.2) (by omega)
  rw [Int.natAbs_mul]; exact lt_mul_pow h.1 h'.1
theorem lt_add_pow {a b : Nat} {k : Nat} (h : a < BB ^ k) (h' : b < BB ^ k) : a + b < BB ^ (k + 1) := by
  have h3 : BB ^ (k + 1) = BB ^ k * BB := Nat.pow_succ ..
  have h4 : BB ^ k * 2 ≤ BB ^ k * BB := Nat.mul_le_mul_left _ (by decide)
  omega
theorem Rb.add {p q : Rat} {k j : Nat} (h : Rb p k) (h' : Rb q j) : Rb (p + q) (k + j + 1) := by
  rw [Rat.add_def']
  refine rb_mkRat (Nat.mul_ne_zero p.den_nz q.den_nz) ?_ (Nat.lt_of_lt_of_le (lt_mul_pow h.2 h'.2) (Nat.pow_le_pow_right BB_pos (by omega))) (by omega)
  refine Nat.lt_of_le_of_lt (Int.natAbs_add_le _ _) ?_
  rw [Int.natAbs_mul, Int.natAbs_mul, Int.natAbs_natCast, Int.natAbs_natCast]
  refine lt_add_pow (lt_mul_pow h.1 h'.2) ?_
  have := lt_mul_pow h'.1 h.2
  rwa [Nat.add_comm j k] at this
theorem Rb.sub {p q : Rat} {k j : Nat} (h : Rb p k) (h' : Rb q j) : Rb (p - q) (k + j + 1) := by
  rw [Rat.sub_eq_add_neg]; exact h.add h'.neg
theorem Rb.inv {q : Rat} {k : Nat} (h : Rb q k) (hk : 1 ≤ k) : Rb q⁻¹ k := by
  have h1 := one_lt_BB hk
  refine ⟨?_, ?_⟩
  · rw [Rat.num_inv, Int.natAbs_mul, Int.natAbs_natCast]
    have : q.num.sign.natAbs ≤ 1 := by rcases Int.lt_trichotomy q.num 0 with h | h | h <;> simp [Int.sign_eq_neg_one_of_neg, Int.sign_eq_one_of_pos, h]
    calc _ ≤ 1 * q.den := Nat.mul_le_mul_right _ this
      _ < _ := by rw [Nat.one_mul]; exact h.2
  · rw [Rat.den_inv]; split
    · exact h1
    · exact h.1
theorem Rb.wd {q : Rat} {k : Nat} (h : Rb q k) : wd q < BB ^ k := by
  have := BBk_pos k
  unfold Go.Proofs.YtnalmjbgkedcoaaDoor.wd; split
  · omega
  · exact h.2
theorem rb_int {z : Int} {k : Nat} (h : z.natAbs < BB ^ k) (hk : 1 ≤ k) : Rb (z : Rat) k := ⟨h, one_lt_BB hk⟩
/-- comparison -/
def rC (x y : Rat) : Int := if x < y then -1 else if y < x then 1 else 0
theorem rC_facts (x y : Rat) : (rC x y = -1 ∧ x < y) ∨ (rC x y = 0 ∧ x = y) ∨ (rC x y = 1 ∧ y < x) := by
  unfold rC
  by_cases h : x < y
  · left; exact ⟨if_pos h, h⟩
  · by_cases h2 : y < x
    · right; right; exact ⟨by rw [if_neg h, if_pos h2], h2⟩
    · right; left
      refine ⟨by rw [if_neg h, if_neg h2], ?_⟩
      rw [Rat.not_lt] at h h2
      exact Rat.le_antisymm h2 h
theorem rC_lt {x y : Rat} (h : x < y) : rC x y = -1 := if_pos h
theorem rC_self (x : Rat) : rC x x = 0 := by unfold rC; rw [if_neg Rat.lt_irrefl, if_neg Rat.lt_irrefl]
theorem rC_gt {x y : Rat} (h : y < x) : rC x y = 1 := by
  rcases rC_facts x y with g | g | g
  · exact absurd (Rat.lt_irrefl (a := x)) (by grind)
  · grind
  · exact g.1
theorem rC_neg (x y : Rat) : rC x y = -rC y x := by
  rcases rC_facts x y with h | h | h
  · rw [h.1, rC_gt h.2]
  · rw [h.1, h.2, rC_self]; rfl
  · rw [h.1, rC_lt h.2]; rfl
theorem rC_add (x y z : Rat) : rC (x + z) (y + z) = rC x y := by
  unfold rC
  simp only [Rat.add_lt_add_right]
/-- the sign -/
def rS (x : Rat) : Int := rC x 0
theorem rC_mul_pos (x y : Rat) {z : Rat} (h : 0 < z) : rC (x * z) (y * z) = rC x y := by
  unfold rC
  simp only [Rat.mul_lt_mul_right h]
theorem rC_negneg (x y : Rat) : rC (-x) (-y) = rC y x := by
  unfold rC
  simp only [Rat.neg_lt_neg_iff]
theorem rC_mul (x y z : Rat) : rC (x * z) (y * z) = rC x y * rS z := by
  rcases rC_facts z 0 with h | h | h
  · have h1 : 0 < -z := by rw [Rat.lt_neg_iff]; simpa using h.2
    have := rC_mul_pos x y h1
    rw [Rat.mul_neg, Rat.mul_neg, rC_negneg] at this
    unfold rS
    rw [h.1, rC_neg, this]; omega
  · unfold rS
    rw [h.1, h.2, Rat.mul_zero, Rat.mul_zero, rC_self]; omega
  · unfold rS
    rw [h.1, rC_mul_pos x y h.2]; omega
theorem rC_sub (x y : Rat) : rC (x - y) 0 = rC x y := by
  have := rC_add (x - y) 0 y
  rw [Rat.sub_add_cancel, Rat.zero_add] at this
  exact this.symm
theorem rS_neg (x : Rat) : rS (-x) = -rS x := by
  unfold rS
  have := rC_negneg x 0
  rw [Rat.neg_zero] at this
  rw [this, rC_neg]
theorem mkRat_nonneg {z : Int} {d : Nat} (h : d ≠ 0) : 0 ≤ mkRat z d ↔ 0 ≤ z := by
  rw [← Rat.divInt_ofNat]
  exact Rat.divInt_nonneg_iff_of_pos_right (by omega)
theorem rv_lt (s t : Bool) (n m d e : Nat) : rv s n d < rv t m e ↔ iv s (n * dn e) < iv t (m * dn d) := by
  have e1 : rv s n d - rv t m e = mkRat (iv s (n * dn e) - iv t (m * dn d)) (dn d * dn e) := by
    rw [Rat.sub_eq_add_neg, ← rv_neg, rv_add, iv_neg, Int.sub_eq_add_neg]
  rw [← Rat.not_le, Rat.le_iff_sub_nonneg, e1, mkRat_nonneg (Nat.mul_ne_zero (dn_ne d) (dn_ne e))]
  omega
/-- comparison of integers -/
def iC (x y : Int) : Int := if x < y then -1 else if y < x then 1 else 0
theorem rC_rv (s t : Bool) (n m d e : Nat) : rC (rv s n d) (rv t m e) = iC (iv s (n * dn e)) (iv t (m * dn d)) := by
  unfold rC iC
  simp only [rv_lt]
theorem rS_rv (s : Bool) (n d : Nat) : rS (rv s n d) = iC (iv s n) 0 := by
  unfold rS
  have := rC_rv s false n 0 d 0
  rw [rv_zero, dn_zero, Nat.mul_one, Nat.zero_mul] at this
  exact this
theorem rS_num (q : Rat) : rS q = iC q.num 0 := by
  have := rS_rv (decide (q.num < 0)) q.num.natAbs q.den
  rwa [rv_self, iv_abs2] at this
theorem iv_mulR (s : Bool) (n m : Nat) : iv s (n * m) = iv s n * m := by cases s <;> simp [iv, Int.neg_mul]
theorem floor_rv (s : Bool) (n d : Nat) : (rv s n d).floor = iv s n / (dn d : Int) := by
  have h : ∀ x : Int, x ≤ (rv s n d).floor ↔ x ≤ iv s n / (dn d : Int) := by
    intro x
    rw [Rat.le_floor_iff, Int.le_ediv_iff_mul_le (by have := dn_pos d; omega), Rat.le_iff_sub_nonneg]
    have e1 : rv s n d - (x : Rat) = mkRat (iv s n - x * dn d) (dn d) := by
      rw [← rv_of x, Rat.sub_eq_add_neg, ← rv_neg, rv_add, dn_zero, Nat.mul_one, Nat.mul_one, iv_neg, iv_mulR, iv_abs2, Int.sub_eq_add_neg]
    rw [e1, mkRat_nonneg (dn_ne d)]
    omega
  have h1 := (h _).1 (Int.le_refl _)
  have h2 := (h _).2 (Int.le_refl _)
  omega
/-- the simplest number between positive numbers -/
def smpF : Nat → Rat → Rat → Rat
  | 0, lo, _ => lo
  | n + 1, lo, hi => if (lo.floor : Rat) = lo then lo else if (lo.floor : Rat) + 1 ≤ hi then (lo.floor : Rat) + 1 else (lo.floor : Rat) + (smpF n (hi - (lo.floor : Rat))⁻¹ (lo - (lo.floor : Rat))⁻¹)⁻¹
theorem sub_int (x : Rat) (f : Int) : (x - (f : Rat)).num = x.num - f * x.den ∧ (x - (f : Rat)).den = x.den := by
  have h : x - (f : Rat) = mkRat (x.num - f * x.den) x.den := by
    rw [Rat.sub_def']; simp
  have hc : Nat.gcd (x.num - f * x.den).natAbs x.den = 1 := by
    have h0 := x.reduced
    unfold Nat.Coprime at h0
    have : Int.gcd (x.num - f * x.den) x.den = Int.gcd x.num x.den := by
      rw [Int.sub_eq_add_neg, ← Int.neg_mul, Int.gcd_add_mul_right_left]
    simpa [Int.gcd] using this.trans h0
  have e : mkRat (x.num - f * x.den) x.den = ⟨x.num - f * x.den, x.den, x.den_nz, hc⟩ := by
    rw [Rat.mk_eq_mkRat]
  rw [h, e]
  exact ⟨rfl, rfl⟩
theorem fl_lt {x : Rat} (h : (x.floor : Rat) ≠ x) : (x.floor : Rat) < x := by
  have := Rat.floor_le x
  exact Rat.lt_of_le_of_ne this h
theorem num_pos' {x : Rat} (h : 0 < x) : 0 < x.num := by
  rw [Rat.lt_iff] at h
  simpa using h
theorem inv_parts {x : Rat} (h : 0 < x) : (x⁻¹).num = x.den ∧ ((x⁻¹).den : Int) = x.num := by
  have h0 := num_pos' h
  rw [Rat.num_inv, Rat.den_inv, if_neg (by omega), Int.sign_eq_one_of_pos h0]
  exact ⟨by omega, by omega⟩
theorem inv_le {x y : Rat} (h : 0 < x) (hxy : x ≤ y) : y⁻¹ ≤ x⁻¹ := by
  have hy : 0 < y := by grind
  obtain ⟨a, b⟩ := inv_parts h
  obtain ⟨c, d⟩ := inv_parts hy
  rw [Rat.le_iff] at hxy ⊢
  rw [a, b, c, d]
  have : x.num * (y.den : Int) = (y.den : Int) * x.num := Int.mul_comm _ _
  have : y.num * (x.den : Int) = (x.den : Int) * y.num := Int.mul_comm _ _
  omega
/-- the parts of a step down -/
structure SmStep (lo hi : Rat) (f : Int) (lo' hi' : Rat) : Prop where
  f0 : 0 ≤ f
  pos : 0 < lo'
  le : lo' ≤ hi'
  low : lo'.den + hi'.den < lo.den + hi.den
  x0 : 0 < lo - (f : Rat)
  y0 : 0 < hi - (f : Rat)
  x1 : (lo - (f : Rat)).num < lo.den ∧ (lo - (f : Rat)).den = lo.den
  y1 : (hi - (f : Rat)).num < hi.den ∧ (hi - (f : Rat)).den = hi.den
theorem SmStep.mk' {lo hi : Rat} {f : Int} (h1 : lo ≤ hi) (f0 : 0 ≤ f) (hlt : (f : Rat) < lo) (hn : ¬ (f : Rat) + 1 ≤ hi) : SmStep lo hi f (hi - (f : Rat))⁻¹ (lo - (f : Rat))⁻¹ := by
  have x0 : 0 < lo - (f : Rat) := by grind
  have y0 : 0 < hi - (f : Rat) := by grind
  have xy : lo - (f : Rat) ≤ hi - (f : Rat) := by grind
  have y1 : hi - (f : Rat) < 1 := by grind
  have x1 : lo - (f : Rat) < 1 := by grind
  obtain ⟨a, b⟩ := sub_int lo f
  obtain ⟨c, d⟩ := sub_int hi f
  have X1 : (lo - (f : Rat)).num < lo.den := by
    rw [Rat.lt_iff] at x1
    simp at x1
    omega
  have Y1 : (hi - (f : Rat)).num < hi.den := by
    rw [Rat.lt_iff] at y1
    simp at y1
    omega
  obtain ⟨_, p2⟩ := inv_parts x0
  obtain ⟨_, q2⟩ := inv_parts y0
  exact ⟨f0, Rat.inv_pos.2 y0, inv_le x0 xy, by omega, x0, y0, ⟨X1, b⟩, ⟨Y1, d⟩⟩
theorem add_inv (f : Int) {y : Rat} (h : 0 < y) : ((f : Rat) + y⁻¹).den = y.num ∧ ((f : Rat) + y⁻¹).num = f * y.num + y.den := by
  have e : (f : Rat) + y⁻¹ = y⁻¹ - ((-f : Int) : Rat) := by
    rw [Rat.sub_eq_add_neg, Rat.intCast_neg, Rat.neg_neg, Rat.add_comm]
  obtain ⟨a, b⟩ := sub_int y⁻¹ (-f)
  obtain ⟨c, d⟩ := inv_parts h
  rw [e, a, b, c]
  refine ⟨d, ?_⟩
  rw [d, Int.neg_mul, Int.sub_neg, Int.add_comm]
/-- what the simplest number is -/
structure Smp (lo hi s : Rat) : Prop where
  ge : lo ≤ s
  le : s ≤ hi
  den : ∀ x : Rat, lo ≤ x → x ≤ hi → s.den ≤ x.den
  num : ∀ x : Rat, lo ≤ x → x ≤ hi → s.num ≤ x.num
theorem smp_is (n : Nat) : ∀ {lo hi : Rat}, 0 < lo → lo ≤ hi → lo.den + hi.den ≤ n → Smp lo hi (smpF n lo hi) := by
  induction n with
  | zero => intro lo hi _ _ h; have := lo.den_nz; omega
  | succ n ih =>
    intro lo hi h0 h1 hn
    have f0 : 0 ≤ lo.floor := Rat.le_floor_iff.2 (by simpa using Rat.le_of_lt h0)
    have flt : (lo.floor : Rat) ≠ lo → (lo.floor : Rat) < lo := fl_lt
    have fl1 := Rat.lt_floor_add_one lo
    unfold smpF
    generalize lo.floor = f at *
    by_cases hf : (f : Rat) = lo
    · rw [if_pos hf]
      refine ⟨Rat.le_refl, h1, fun x _ _ => ?_, fun x hx _ => ?_⟩
      · rw [← hf]; have := x.den_nz; simp; omega
      · rw [← hf] at hx ⊢
        rw [Rat.le_iff] at hx
        simp at hx ⊢
        have h3 := x.den_nz
        have : f * 1 ≤ f * (x.den : Int) := Int.mul_le_mul_of_nonneg_left (by omega) f0
        omega
    · rw [if_neg hf]
      have hlt := flt hf
      by_cases hi1 : (f : Rat) + 1 ≤ hi
      · rw [if_pos hi1]
        have e : (f : Rat) + 1 = ((f + 1 : Int) : Rat) := by rw [Rat.intCast_add]; rfl
        refine ⟨?_, hi1, fun x _ _ => ?_, fun x hx _ => ?_⟩
        · rw [e]; exact Rat.le_of_lt fl1
        · rw [e, Rat.den_intCast]; have := x.den_nz; omega
        · rw [e, Rat.num_intCast]
          have hx2 : (f : Rat) < x := by grind
          rw [Rat.lt_iff] at hx2
          simp at hx2
          have h3 := x.den_nz
          have : f * 1 ≤ f * (x.den : Int) := Int.mul_le_mul_of_nonneg_left (by omega) f0
          omega
      · rw [if_neg hi1]
        have S := SmStep.mk' h1 f0 hlt hi1
        have I := ih S.pos S.le (by have := S.low; omega)
        clear ih
        generalize smpF n (hi - (f : Rat))⁻¹ (lo - (f : Rat))⁻¹ = y at *
        have y0 : 0 < y := by have := I.ge; have := S.pos; grind
        obtain ⟨c, d⟩ := add_inv f y0
        have A := inv_le S.pos I.ge
        have B := inv_le y0 I.le
        rw [Rat.inv_inv] at A B
        have key : ∀ x : Rat, lo ≤ x → x ≤ hi → y.num ≤ x.den ∧ (y.den : Int) ≤ x.num - f * x.den := by
          intro x hx hx2
          have p0 : 0 < x - (f : Rat) := by grind
          have p1 : (hi - (f : Rat))⁻¹ ≤ (x - (f : Rat))⁻¹ := inv_le p0 (by grind)
          have p2 : (x - (f : Rat))⁻¹ ≤ (lo - (f : Rat))⁻¹ := inv_le S.x0 (by grind)
          have q1 := I.num _ p1 p2
          have q2 := I.den _ p1 p2
          obtain ⟨a, b⟩ := inv_parts p0
          obtain ⟨a', b'⟩ := sub_int x f
          rw [a, b'] at q1
          exact ⟨q1, by omega⟩
        refine ⟨by grind, by grind, fun x hx hx2 => ?_, fun x hx hx2 => ?_⟩
        · have := (key x hx hx2).1; omega
        · obtain ⟨k1, k2⟩ := key x hx hx2
          have : f * y.num ≤ f * (x.den : Int) := Int.mul_le_mul_of_nonneg_left k1 S.f0
          omega
/-- what Simplest returns -/
def smpR (lo hi : Rat) : Rat := if 0 < lo then smpF (lo.den + hi.den) lo hi else if hi < 0 then -smpF (hi.den + lo.den) (-hi) (-lo) else 0
theorem smpR_is {lo hi : Rat} (h : lo ≤ hi) : lo ≤ smpR lo hi ∧ smpR lo hi ≤ hi ∧ ∀ x : Rat, lo ≤ x → x ≤ hi → (smpR lo hi).den ≤ x.den ∧ (smpR lo hi).num.natAbs ≤ x.num.natAbs := by
  unfold smpR
  by_cases h0 : 0 < lo
  · rw [if_pos h0]
    have S := smp_is _ h0 h (Nat.le_refl _)
    generalize smpF (lo.den + hi.den) lo hi = s at *
    refine ⟨S.ge, S.le, fun x h1 h2 => ⟨S.den x h1 h2, ?_⟩⟩
    have a := S.num x h1 h2
    have b : 0 < s.num := num_pos' (by have := S.ge; grind)
    omega
  · rw [if_neg h0]
    by_cases h1 : hi < 0
    · rw [if_pos h1]
      have S := smp_is (hi.den + lo.den) (lo := -hi) (hi := -lo) (by grind) (Rat.neg_le_neg h) (Nat.le_refl _)
      generalize smpF (hi.den + lo.den) (-hi) (-lo) = s at *
      refine ⟨by have := S.le; grind, by have := S.ge; grind, fun x h2 h3 => ?_⟩
      have a := S.num (-x) (Rat.neg_le_neg h3) (Rat.neg_le_neg h2)
      have c := S.den (-x) (Rat.neg_le_neg h3) (Rat.neg_le_neg h2)
      have b : 0 < s.num := num_pos' (by have := S.ge; grind)
      rw [Rat.neg_num] at a
      rw [Rat.neg_den] at c
      rw [Rat.neg_den, Rat.neg_num]
      exact ⟨c, by omega⟩
    · rw [if_neg h1]
      refine ⟨by grind, by grind, fun x _ _ => ⟨?_, by simp⟩⟩
      have := x.den_nz
      simp; omega
end Go.Proofs.YtnalmjbgkedcoaaDoor
