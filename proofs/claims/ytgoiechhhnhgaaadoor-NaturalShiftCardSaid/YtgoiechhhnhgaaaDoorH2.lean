/- Contracts of layer 1 in terms of the numbers that values read as. -/
import Derived.Test.YtgoiechhhnhgaaaDoorH1
namespace Go.Proofs.YtgoiechhhnhgaaaDoor
open Go.RowKit
set_option linter.unusedVariables false
/-- whatever was there is as it was -/
def Keep (w w' : World) : Prop := Below w.heap.size w w'
theorem Keep.refl (w : World) : Keep w w := Below.refl _ _
theorem Keep.trans {a b c : World} (h : Keep a b) (k : Keep b c) : Keep a c := Below.trans h (k.mono h.size)
theorem Keep.alloc {a b : World} (h : Keep a b) (o : Obj) : Keep a (b.alloc o) := Below.alloc h h.size o
theorem Dr.keep {a b : World} (h : Dr a b) : Keep a b := h.below (Below.refl _ _)
theorem Keep.drewN {a b : World} (h : Keep a b) (n : Nat) : Keep a (b.drewN n) := below_dN h n
theorem Tab.keep {w w' : World} (h : Tab w) (k : Keep w w') : Tab w' := h.below k
/-- a value that reads as limbs -/
def Lm (w : World) (v : Value) (l : List Nat) : Prop := ∃ a len cap, v = .slice a len cap ∧ Rd w a len cap l
theorem Lm.keep {w w' : World} {v : Value} {l : List Nat} (h : Lm w v l) (k : Keep w w') : Lm w' v l := by
  obtain ⟨a, len, cap, rfl, hr⟩ := h
  exact ⟨a, len, cap, rfl, hr.below k⟩
theorem Lm.lim {w : World} {v : Value} {l : List Nat} (h : Lm w v l) : Lim l := by obtain ⟨a, len, cap, rfl, hr⟩ := h; exact hr.lim
/-- a value that reads as the canonical limbs of n -/
def Cn (w : World) (v : Value) (n : Nat) : Prop := Lm w v (dig n)
theorem Cn.keep {w w' : World} {v : Value} {n : Nat} (h : Cn w v n) (k : Keep w w') : Cn w' v n := Lm.keep h k
/-- a value that reads as n, in at most k limbs -/
def Nm (w : World) (v : Value) (n k : Nat) : Prop := ∃ l, Lm w v l ∧ nv l = n ∧ l.length ≤ k
theorem Nm.keep {w w' : World} {v : Value} {n k : Nat} (h : Nm w v n k) (hk : Keep w w') : Nm w' v n k := by
  obtain ⟨l, h1, h2, h3⟩ := h
  exact ⟨l, h1.keep hk, h2, h3⟩
theorem Cn.nm {w : World} {v : Value} {n k : Nat} (h : Cn w v n) (hk : n < BB ^ k) : Nm w v n k := ⟨_, h, nv_dig _, dig_len_of hk⟩
theorem Nm.lt {w : World} {v : Value} {n k : Nat} (h : Nm w v n k) : n < BB ^ k := by
  obtain ⟨l, h1, rfl, h3⟩ := h
  exact Nat.lt_of_lt_of_le (nv_lt h1.lim) (Nat.pow_le_pow_right BB_pos h3)
theorem Nm.up {w : World} {v : Value} {n k j : Nat} (h : Nm w v n k) (hj : k ≤ j) : Nm w v n j := by
  obtain ⟨l, h1, h2, h3⟩ := h
  exact ⟨l, h1, h2, Nat.le_trans h3 hj⟩
theorem Lm.nm {w : World} {v : Value} {l : List Nat} {k : Nat} (h : Lm w v l) (hk : l.length ≤ k) : Nm w v (nv l) k := ⟨l, h, rfl, hk⟩
theorem NPost.cn {n : Nat} {w : World} {e : Ending} {w' : World} (h : NPost n w e w') : ∃ u, e = .returned u ∧ Cn w' u n ∧ Keep w w' := by
  obtain ⟨a, cap, rfl, hr, hb⟩ := h
  exact ⟨_, rfl, ⟨_, _, _, rfl, hr⟩, hb⟩
theorem NEPost.cn {n : Nat} {err : Int} {w : World} {e : Ending} {w' : World} (h : NEPost n err w e w') : ∃ u, e = .returned (.tuple #[u, .int .i64 err]) ∧ Cn w' u n ∧ Keep w w' := by
  obtain ⟨a, cap, rfl, hr, hb⟩ := h
  exact ⟨_, rfl, ⟨_, _, _, rfl, hr⟩, hb⟩
theorem copied_n {w : World} {v : Value} {l : List Nat} (h : Lm w v l) (hb : l.length ≤ 1048576) :
    Calls Tryd.prog 14 #[v] w fun e w' => ∃ u, e = .returned u ∧ Lm w' u l ∧ Keep w w' := by
  obtain ⟨a, len, cap, rfl, hr⟩ := h
  refine (copied_c _ _ _ _ w hr (by rw [← hr.len_eq]; exact hb)).mono ?_
  rintro e w' ⟨u, rfl, ho, hl, hbb⟩
  obtain ⟨a', c', rfl, hr'⟩ := Rd.owns ho hl
  exact ⟨_, rfl, ⟨_, _, _, rfl, hr'⟩, hbb⟩
theorem make_n {w : World} {v : Value} {n k : Nat} (h : Nm w v n k) (hk : k ≤ 1048576) :
    Calls Tryd.prog 13 #[v] w fun e w' => ∃ u, e = .returned u ∧ Cn w' u n ∧ Keep w w' := by
  obtain ⟨l, ⟨a, len, cap, rfl, hr⟩, rfl, hl⟩ := h
  exact (make_c _ _ _ _ w hr (by rw [← hr.len_eq]; omega)).mono fun _ _ h => h.cn
theorem rmake_n {w : World} {v : Value} {n k : Nat} (h : Nm w v n k) (hk : k ≤ 1048576) :
    Calls Tryd.prog 18 #[v] w fun e w' => ∃ u, e = .returned u ∧ Cn w' u n ∧ Keep w w' := by
  obtain ⟨l, ⟨a, len, cap, rfl, hr⟩, rfl, hl⟩ := h
  exact (rmake_c _ _ _ _ w hr (by rw [← hr.len_eq]; omega)).mono fun _ _ h => h.cn
theorem same_n {w : World} {v u : Value} {l t : List Nat} (h : Lm w v l) (h' : Lm w u t) :
    Calls Tryd.prog 17 #[v, u] w fun e w' => e = .returned (.bool (eqB l t)) ∧ Keep w w' := by
  obtain ⟨a, len, cap, rfl, hr⟩ := h
  obtain ⟨a', len', cap', rfl, hr'⟩ := h'
  exact (same_c _ _ _ _ _ _ _ _ w hr hr').mono fun _ _ ⟨h1, h2⟩ => ⟨h1, Dr.keep h2⟩
theorem same_t {w : World} {v u : Value} {n m : Nat} (h : Cn w v n) (h' : Cn w u m) (e : n = m) :
    Calls Tryd.prog 17 #[v, u] w fun e w' => e = .returned (.bool true) ∧ Keep w w' := by
  subst e
  have := same_n h h'
  rwa [eqB_dig, beq_self_eq_true] at this
theorem valid_n {w : World} {v : Value} {l : List Nat} (h : Lm w v l) :
    Calls Tryd.prog 19 #[v] w fun e w' => e = .returned (.bool (canB l)) ∧ Keep w w' := by
  obtain ⟨a, len, cap, rfl, hr⟩ := h
  exact (valid_c _ _ _ _ w hr).mono fun _ _ ⟨h1, h2⟩ => ⟨h1, h2 ▸ Keep.refl _⟩
theorem rvalid_n {w : World} {v : Value} {l : List Nat} (h : Lm w v l) :
    Calls Tryd.prog 20 #[v] w fun e w' => e = .returned (.bool (canB l)) ∧ Keep w w' := by
  obtain ⟨a, len, cap, rfl, hr⟩ := h
  exact (rvalid_c _ _ _ _ w hr).mono fun _ _ ⟨h1, h2⟩ => ⟨h1, h2 ▸ Keep.refl _⟩
theorem uint_n {w : World} {v : Value} {n k : Nat} (h : Nm w v n k) :
    Calls Tryd.prog 15 #[v] w fun e w' => e = .returned (.tuple #[.int .u64 (uintV n : Nat), .bool (uintB n)]) ∧ Keep w w' := by
  obtain ⟨l, ⟨a, len, cap, rfl, hr⟩, rfl, hl⟩ := h
  exact (uint_c _ _ _ _ w hr).mono fun _ _ ⟨h1, h2⟩ => ⟨h1, Dr.keep h2⟩
theorem ruint_n {w : World} {v : Value} {n k : Nat} (h : Nm w v n k) (hk : k ≤ 1048576) :
    Calls Tryd.prog 16 #[v] w fun e w' => e = .returned (.tuple #[.int .u64 (uintV n : Nat), .bool (uintB n)]) ∧ Keep w w' := by
  obtain ⟨l, ⟨a, len, cap, rfl, hr⟩, rfl, hl⟩ := h
  exact (ruint_c _ _ _ _ w hr (by rw [← hr.len_eq]; omega)).mono fun _ _ ⟨h1, h2⟩ => ⟨h1, h2⟩
theorem bits_n {w : World} {v : Value} {n k : Nat} (h : Nm w v n k) (hk : k ≤ 1048576) :
    Calls Tryd.prog 21 #[v] w fun e w' => e = .returned (.int .i64 (bl n : Nat)) ∧ Keep w w' := by
  obtain ⟨l, ⟨a, len, cap, rfl, hr⟩, rfl, hl⟩ := h
  exact (bits_c _ _ _ _ w hr (by rw [← hr.len_eq]; omega)).mono fun _ _ ⟨h1, h2⟩ => ⟨h1, h2 ▸ Keep.refl _⟩
theorem rbits_n {w : World} {v : Value} {n k : Nat} (h : Nm w v n k) (hk : k ≤ 1048576) :
    Calls Tryd.prog 22 #[v] w fun e w' => e = .returned (.int .i64 (bl n : Nat)) ∧ Keep w w' := by
  obtain ⟨l, ⟨a, len, cap, rfl, hr⟩, rfl, hl⟩ := h
  exact (rbits_c _ _ _ _ w hr (by rw [← hr.len_eq]; omega)).mono fun _ _ ⟨h1, h2⟩ => ⟨h1, h2⟩
theorem of_n {w : World} (n : Nat) (hn : n < 18446744073709551616) :
    Calls Tryd.prog 23 #[.int .u64 n] w fun e w' => ∃ u, e = .returned u ∧ Cn w' u n ∧ Keep w w' := (of_c n hn w).mono fun _ _ h => h.cn
theorem rof_n {w : World} (n : Nat) (hn : n < 18446744073709551616) :
    Calls Tryd.prog 24 #[.int .u64 n] w fun e w' => ∃ u, e = .returned u ∧ Cn w' u n ∧ Keep w w' := (rof_c n hn w).mono fun _ _ h => h.cn
theorem cmp_n {w : World} {v u : Value} {n m k j : Nat} (h : Nm w v n k) (h' : Nm w u m j) :
    Calls Tryd.prog 26 #[v, u] w fun e w' => e = .returned (.int .i64 (cmpv n m)) ∧ Keep w w' := by
  obtain ⟨l, ⟨a, len, cap, rfl, hr⟩, rfl, hl⟩ := h
  obtain ⟨l', ⟨a', len', cap', rfl, hr'⟩, rfl, hl'⟩ := h'
  exact (cmp_c _ _ _ _ _ _ _ _ w hr hr').mono fun _ _ ⟨h1, h2⟩ => ⟨h1, Dr.keep h2⟩
theorem rcmp_n {w : World} {v u : Value} {n m k j : Nat} (h : Nm w v n k) (h' : Nm w u m j) :
    Calls Tryd.prog 27 #[v, u] w fun e w' => e = .returned (.int .i64 (cmpv n m)) ∧ Keep w w' := by
  obtain ⟨l, ⟨a, len, cap, rfl, hr⟩, rfl, hl⟩ := h
  obtain ⟨l', ⟨a', len', cap', rfl, hr'⟩, rfl, hl'⟩ := h'
  exact (rcmp_c _ _ _ _ _ _ _ _ w hr hr').mono fun _ _ ⟨h1, h2⟩ => ⟨h1, h2 ▸ Keep.refl _⟩
theorem add_n {w : World} {v u : Value} {n m k j : Nat} (h : Nm w v n k) (h' : Nm w u m j) (hk : k ≤ 1048575) (hj : j ≤ 1048575) :
    Calls Tryd.prog 28 #[v, u] w fun e w' => ∃ x, e = .returned x ∧ Cn w' x (n + m) ∧ Keep w w' := by
  obtain ⟨l, ⟨a, len, cap, rfl, hr⟩, rfl, hl⟩ := h
  obtain ⟨l', ⟨a', len', cap', rfl, hr'⟩, rfl, hl'⟩ := h'
  exact (add_c _ _ _ _ _ _ _ _ w hr hr' (by rw [← hr.len_eq]; omega) (by rw [← hr'.len_eq]; omega)).mono fun _ _ h => h.cn
theorem radd_n {w : World} {v u : Value} {n m k j : Nat} (h : Nm w v n k) (h' : Nm w u m j) (hk : k ≤ 1048575) (hj : j ≤ 1048575) :
    Calls Tryd.prog 29 #[v, u] w fun e w' => ∃ x, e = .returned x ∧ Cn w' x (n + m) ∧ Keep w w' := by
  obtain ⟨l, ⟨a, len, cap, rfl, hr⟩, rfl, hl⟩ := h
  obtain ⟨l', ⟨a', len', cap', rfl, hr'⟩, rfl, hl'⟩ := h'
  exact (radd_c _ _ _ _ _ _ _ _ w hr hr' (by rw [← hr.len_eq]; omega) (by rw [← hr'.len_eq]; omega)).mono fun _ _ h => h.cn
theorem sub_n {w : World} {v u : Value} {n m k j : Nat} (h : Nm w v n k) (h' : Nm w u m j) (hk : k ≤ 1048575) (hj : j ≤ 1048575) :
    Calls Tryd.prog 30 #[v, u] w fun e w' => ∃ x, e = .returned (.tuple #[x, .int .i64 (subE n m)]) ∧ Cn w' x (n - m) ∧ Keep w w' := by
  obtain ⟨l, ⟨a, len, cap, rfl, hr⟩, rfl, hl⟩ := h
  obtain ⟨l', ⟨a', len', cap', rfl, hr'⟩, rfl, hl'⟩ := h'
  exact (sub_c _ _ _ _ _ _ _ _ w hr hr' (by rw [← hr.len_eq]; omega) (by rw [← hr'.len_eq]; omega)).mono fun _ _ h => h.cn
theorem rsub_n {w : World} {v u : Value} {n m k j : Nat} (h : Nm w v n k) (h' : Nm w u m j) (hk : k ≤ 1048575) (hj : j ≤ 1048575) :
    Calls Tryd.prog 31 #[v, u] w fun e w' => ∃ x, e = .returned (.tuple #[x, .int .i64 (subE n m)]) ∧ Cn w' x (n - m) ∧ Keep w w' := by
  obtain ⟨l, ⟨a, len, cap, rfl, hr⟩, rfl, hl⟩ := h
  obtain ⟨l', ⟨a', len', cap', rfl, hr'⟩, rfl, hl'⟩ := h'
  exact (rsub_c _ _ _ _ _ _ _ _ w hr hr' (by rw [← hr.len_eq]; omega) (by rw [← hr'.len_eq]; omega)).mono fun _ _ h => h.cn
theorem shl_n {w : World} {v : Value} {n k : Nat} (i : Int) (h : Nm w v n k) (hk : k ≤ 1048575) :
    Calls Tryd.prog 34 #[v, .int .i64 i] w fun e w' => ∃ x, e = .returned (.tuple #[x, .int .i64 (shE i)]) ∧ Cn w' x (shlN n i) ∧ Keep w w' := by
  obtain ⟨l, ⟨a, len, cap, rfl, hr⟩, rfl, hl⟩ := h
  exact (shl_c _ _ _ _ i w hr (by rw [← hr.len_eq]; omega)).mono fun _ _ h => h.cn
theorem shr_n {w : World} {v : Value} {n k : Nat} (i : Int) (h : Nm w v n k) (hk : k ≤ 1048575) :
    Calls Tryd.prog 35 #[v, .int .i64 i] w fun e w' => ∃ x, e = .returned (.tuple #[x, .int .i64 (shE i)]) ∧ Cn w' x (shrN n i) ∧ Keep w w' := by
  obtain ⟨l, ⟨a, len, cap, rfl, hr⟩, rfl, hl⟩ := h
  exact (shr_c _ _ _ _ i w hr (by rw [← hr.len_eq]; omega)).mono fun _ _ h => h.cn
theorem divMod_n {w : World} {v u : Value} {n m k j : Nat} (h : Nm w v n k) (h' : Nm w u m j) (hk : k ≤ 1048575) :
    Calls Tryd.prog 38 #[v, u] w fun e w' => ∃ x y, e = .returned (.tuple #[x, y, .int .i64 (dmE m)]) ∧ Cn w' x (n / m) ∧ Cn w' y (dmR n m) ∧ Keep w w' := by
  obtain ⟨l, ⟨a, len, cap, rfl, hr⟩, rfl, hl⟩ := h
  obtain ⟨l', ⟨a', len', cap', rfl, hr'⟩, rfl, hl'⟩ := h'
  refine (divMod_c _ _ _ _ _ _ _ _ w hr hr' (by rw [← hr.len_eq]; omega)).mono ?_
  rintro e w' ⟨a, c, a2, c2, rfl, h1, h2, h3⟩
  exact ⟨_, _, rfl, ⟨_, _, _, rfl, h1⟩, ⟨_, _, _, rfl, h2⟩, h3⟩
end Go.Proofs.YtgoiechhhnhgaaaDoor
