/- Carried over from another seat by program (portn.py). -/
import Derived.Test.YtnalmjbgkedcoaaDoorR2
import Derived.Test.YtnalmjbgkedcoaaDoorIC
namespace Go.Proofs.YtnalmjbgkedcoaaDoor
open Go.RowKit
set_option linter.unusedVariables false
theorem Nm.form3 {w : World} {v : Value} {n k : Nat} (h : Nm w v n k) : ∃ a len cap l, v = .slice a len cap ∧ Rd w a len cap l ∧ nv l = n ∧ l.length ≤ k := by
  obtain ⟨l, ⟨a, len, cap, rfl, hr⟩, h1, h2⟩ := h
  exact ⟨a, len, cap, l, rfl, hr, h1, h2⟩
/-- the post of den -/
def DPost (d k : Nat) (w : World) (e : Ending) (w' : World) : Prop := ∃ u, e = .returned u ∧ Nm w' u (dn d) k ∧ Keep w w'
theorem Rd.toNm {w : World} {a : Option Addr} {len cap : Nat} {l : List Nat} {n k : Nat} (h : Rd w a len cap l) (hn : nv l = n) (hl : l.length ≤ k) : Nm w (.slice a len cap) n k := ⟨l, ⟨a, len, cap, rfl, h⟩, hn, hl⟩
set_option maxHeartbeats 400000 in
theorem den_c {w : World} {s : Bool} {a a' : Option Addr} {n c n' c' d k : Nat} (h : Nm w (.slice a' n' c') d k) (hk : k ≤ 1048576) (hk1 : 1 ≤ k) : Calls Tryd.prog 45 #[.agg #[.bool s, .slice a n c, .slice a' n' c']] w (DPost d k w) := by
  have K1 : Keep w (w.alloc (.cells #[.bool s, .slice a n c, .slice a' n' c'] 25)) := (Keep.refl w).alloc _
  have B1 := QBox.new w s a n c a' n' c'
  have C1 := Lib.hid (bits_n (h.keep K1) hk)
  have H := Lib.hid h
  clear h
  by_cases h0 : d = 0
  · subst h0
    rw [show bl 0 = 0 from by rw [bl_zero_iff]] at C1
    go_enter Tryd.func45, Tryd.ntmps45
    go_wp2_with fail
    refine Calls.mono C1.out ?_
    rintro e w1 ⟨rfl, k1⟩
    have HK := Lib.hid (K1.trans k1)
    have HR := Lib.hid (Rd.one' w1 1 1 rfl (by decide) 56)
    clear K1 B1 k1
    go_wp2
    go_ret
    exact ⟨_, rfl, HR.out.toNm (by rw [nv_one]; rfl) hk1, HK.out.alloc _⟩
  · obtain ⟨z, hz⟩ : ∃ z, bl d = z := ⟨_, rfl⟩
    have hz0 : ((z : Int) == 0) = false := by
      have := mt bl_zero_iff.1 h0
      simp; omega
    rw [hz] at C1
    clear hz
    go_enter Tryd.func45, Tryd.ntmps45
    go_wp2_with fail
    refine Calls.mono C1.out ?_
    rintro e w1 ⟨rfl, k1⟩
    have HK := Lib.hid (K1.trans k1)
    obtain ⟨q0, q1, q2, _, _, _, _⟩ := B1.keep k1
    clear K1 B1 k1
    go_wp2
    go_ret
    exact ⟨_, rfl, by rw [dn_of h0]; exact H.out.keep HK.out, HK.out⟩
set_option maxHeartbeats 400000 in
theorem words_f1 {w : World} {s : Bool} {a a' : Option Addr} {n c n' c' : Nat} {l l' : List Nat} (hr : Rd w a n c l) (hr' : Rd w a' n' c' l') (h1 : 1 < n) : Calls Tryd.prog 41 #[.agg #[.bool s, .slice a n c, .slice a' n' c']] w fun e w' => e = .returned (.tuple #[.int .u64 0, .int .u64 0, .bool false]) ∧ Keep w w' := by
  have q1 := hr.le_cap
  have q2 := hr.cap_le
  have q3 := hr'.le_cap
  have q4 := hr'.cap_le
  have e1 : decide ((1 : Int) < n) = true := decide_eq_true (by omega)
  clear hr hr'
  go_enter Tryd.func41, Tryd.ntmps41
  go_wp2
  go_ret3
  exact ⟨rfl, (Keep.refl w).alloc _⟩
set_option maxHeartbeats 400000 in
theorem words_f2 {w : World} {s : Bool} {a a' : Option Addr} {n c n' c' : Nat} {l l' : List Nat} (hr : Rd w a n c l) (hr' : Rd w a' n' c' l') (h1 : n ≤ 1) (h2 : 1 < n') : Calls Tryd.prog 41 #[.agg #[.bool s, .slice a n c, .slice a' n' c']] w fun e w' => e = .returned (.tuple #[.int .u64 0, .int .u64 0, .bool false]) ∧ Keep w w' := by
  have q1 := hr.le_cap
  have q2 := hr.cap_le
  have q3 := hr'.le_cap
  have q4 := hr'.cap_le
  have e1 : decide ((1 : Int) < n) = false := decide_eq_false (by omega)
  have e2 : decide ((1 : Int) < n') = true := decide_eq_true (by omega)
  clear hr hr'
  go_enter Tryd.func41, Tryd.ntmps41
  go_wp2
  go_ret3
  exact ⟨rfl, (Keep.refl w).alloc _⟩
set_option maxHeartbeats 400000 in
theorem words_t00 {w : World} {s : Bool} {a a' : Option Addr} {c c' : Nat} {l l' : List Nat} (hr : Rd w a 0 c l) (hr' : Rd w a' 0 c' l')  : Calls Tryd.prog 41 #[.agg #[.bool s, .slice a 0 c, .slice a' 0 c']] w fun e w' => e = .returned (.tuple #[.int .u64 0, .int .u64 1, .bool true]) ∧ Keep w w' := by
  have q1 := hr.le_cap
  have q2 := hr.cap_le
  have q3 := hr'.le_cap
  have q4 := hr'.cap_le
  clear hr hr'
  go_enter Tryd.func41, Tryd.ntmps41
  go_wp2
  go_ret3
  exact ⟨rfl, (Keep.refl w).alloc _⟩
set_option maxHeartbeats 400000 in
theorem words_t01 {w : World} {s : Bool} {a a' : Option Addr} {c c' y : Nat} {l l' : List Nat} (hr : Rd w a 0 c l) (hr' : Rd w a' 1 c' l') (hy : l'.getD 0 0 = y) (hy0 : y = 0) : Calls Tryd.prog 41 #[.agg #[.bool s, .slice a 0 c, .slice a' 1 c']] w fun e w' => e = .returned (.tuple #[.int .u64 0, .int .u64 1, .bool true]) ∧ Keep w w' := by
  have q1 := hr.le_cap
  have q2 := hr.cap_le
  have q3 := hr'.le_cap
  have q4 := hr'.cap_le
  obtain ⟨b', o', rfl, hcell', _⟩ := hr'.cell0 (by omega)
  rw [hy] at hcell'
  have hyl : y < BB := by rw [← hy]; exact hr'.lim.at 0
  rw [BB_eq] at hyl
  clear hy
  subst hy0
  clear hr hr'
  go_enter Tryd.func41, Tryd.ntmps41
  go_wp2
  go_ret3
  exact ⟨rfl, (Keep.refl w).alloc _⟩
set_option maxHeartbeats 400000 in
theorem words_t02 {w : World} {s : Bool} {a a' : Option Addr} {c c' y : Nat} {l l' : List Nat} (hr : Rd w a 0 c l) (hr' : Rd w a' 1 c' l') (hy : l'.getD 0 0 = y) (hy0 : y ≠ 0) : Calls Tryd.prog 41 #[.agg #[.bool s, .slice a 0 c, .slice a' 1 c']] w fun e w' => e = .returned (.tuple #[.int .u64 0, .int .u64 (y : Nat), .bool true]) ∧ Keep w w' := by
  have q1 := hr.le_cap
  have q2 := hr.cap_le
  have q3 := hr'.le_cap
  have q4 := hr'.cap_le
  obtain ⟨b', o', rfl, hcell', _⟩ := hr'.cell0 (by omega)
  rw [hy] at hcell'
  have hyl : y < BB := by rw [← hy]; exact hr'.lim.at 0
  rw [BB_eq] at hyl
  clear hy
  have hy1 : ((y : Int) != 0) = true := by simp; omega
  clear hr hr'
  go_enter Tryd.func41, Tryd.ntmps41
  go_wp2
  go_ret3
  exact ⟨rfl, (Keep.refl w).alloc _⟩
set_option maxHeartbeats 400000 in
theorem words_t10 {w : World} {s : Bool} {a a' : Option Addr} {c c' x : Nat} {l l' : List Nat} (hr : Rd w a 1 c l) (hr' : Rd w a' 0 c' l') (hx : l.getD 0 0 = x) : Calls Tryd.prog 41 #[.agg #[.bool s, .slice a 1 c, .slice a' 0 c']] w fun e w' => e = .returned (.tuple #[.int .u64 (x : Nat), .int .u64 1, .bool true]) ∧ Keep w w' := by
  have q1 := hr.le_cap
  have q2 := hr.cap_le
  have q3 := hr'.le_cap
  have q4 := hr'.cap_le
  obtain ⟨b, o, rfl, hcell, _⟩ := hr.cell0 (by omega)
  rw [hx] at hcell
  have hxl : x < BB := by rw [← hx]; exact hr.lim.at 0
  rw [BB_eq] at hxl
  clear hx
  clear hr hr'
  go_enter Tryd.func41, Tryd.ntmps41
  go_wp2
  go_ret3
  exact ⟨rfl, (Keep.refl w).alloc _⟩
set_option maxHeartbeats 400000 in
theorem words_t11 {w : World} {s : Bool} {a a' : Option Addr} {c c' x y : Nat} {l l' : List Nat} (hr : Rd w a 1 c l) (hr' : Rd w a' 1 c' l') (hx : l.getD 0 0 = x) (hy : l'.getD 0 0 = y) (hy0 : y = 0) : Calls Tryd.prog 41 #[.agg #[.bool s, .slice a 1 c, .slice a' 1 c']] w fun e w' => e = .returned (.tuple #[.int .u64 (x : Nat), .int .u64 1, .bool true]) ∧ Keep w w' := by
  have q1 := hr.le_cap
  have q2 := hr.cap_le
  have q3 := hr'.le_cap
  have q4 := hr'.cap_le
  obtain ⟨b, o, rfl, hcell, _⟩ := hr.cell0 (by omega)
  rw [hx] at hcell
  have hxl : x < BB := by rw [← hx]; exact hr.lim.at 0
  rw [BB_eq] at hxl
  obtain ⟨b', o', rfl, hcell', _⟩ := hr'.cell0 (by omega)
  rw [hy] at hcell'
  have hyl : y < BB := by rw [← hy]; exact hr'.lim.at 0
  rw [BB_eq] at hyl
  clear hx
  clear hy
  subst hy0
  clear hr hr'
  go_enter Tryd.func41, Tryd.ntmps41
  go_wp2
  go_ret3
  exact ⟨rfl, (Keep.refl w).alloc _⟩
set_option maxHeartbeats 400000 in
theorem words_t12 {w : World} {s : Bool} {a a' : Option Addr} {c c' x y : Nat} {l l' : List Nat} (hr : Rd w a 1 c l) (hr' : Rd w a' 1 c' l') (hx : l.getD 0 0 = x) (hy : l'.getD 0 0 = y) (hy0 : y ≠ 0) : Calls Tryd.prog 41 #[.agg #[.bool s, .slice a 1 c, .slice a' 1 c']] w fun e w' => e = .returned (.tuple #[.int .u64 (x : Nat), .int .u64 (y : Nat), .bool true]) ∧ Keep w w' := by
  have q1 := hr.le_cap
  have q2 := hr.cap_le
  have q3 := hr'.le_cap
  have q4 := hr'.cap_le
  obtain ⟨b, o, rfl, hcell, _⟩ := hr.cell0 (by omega)
  rw [hx] at hcell
  have hxl : x < BB := by rw [← hx]; exact hr.lim.at 0
  rw [BB_eq] at hxl
  obtain ⟨b', o', rfl, hcell', _⟩ := hr'.cell0 (by omega)
  rw [hy] at hcell'
  have hyl : y < BB := by rw [← hy]; exact hr'.lim.at 0
  rw [BB_eq] at hyl
  clear hx
  clear hy
  have hy1 : ((y : Int) != 0) = true := by simp; omega
  clear hr hr'
  go_enter Tryd.func41, Tryd.ntmps41
  go_wp2
  go_ret3
  exact ⟨rfl, (Keep.refl w).alloc _⟩
theorem len_one {l : List Nat} (h : l.length = 1) : nv l = l.getD 0 0 := by
  obtain ⟨x, rfl⟩ := List.length_eq_one_iff.1 h
  rw [nv_one]; rfl
theorem len_zero {l : List Nat} (h : l.length = 0) : nv l = 0 := by
  rw [List.length_eq_zero_iff.1 h]; rfl
/-- what words answers -/
theorem words_t {w : World} {s : Bool} {a a' : Option Addr} {n c n' c' : Nat} {l l' : List Nat} (hr : Rd w a n c l) (hr' : Rd w a' n' c' l') (h1 : n ≤ 1) (h2 : n' ≤ 1) : Calls Tryd.prog 41 #[.agg #[.bool s, .slice a n c, .slice a' n' c']] w fun e w' => e = .returned (.tuple #[.int .u64 (nv l : Nat), .int .u64 (dn (nv l') : Nat), .bool true]) ∧ Keep w w' := by
  have L := hr.len_eq
  have L' := hr'.len_eq
  have fin : ∀ (A B A' B' : Nat), A = A' → B = B' → ∀ e w', (e = Ending.returned (.tuple #[.int .u64 (A : Nat), .int .u64 (B : Nat), .bool true]) ∧ Keep w w') → (e = Ending.returned (.tuple #[.int .u64 (A' : Nat), .int .u64 (B' : Nat), .bool true]) ∧ Keep w w') := by
    rintro A B A' B' rfl rfl e w' h; exact h
  rcases Nat.lt_or_ge 0 n with g | g
  · obtain rfl : n = 1 := by omega
    have e1 := len_one L
    rcases Nat.lt_or_ge 0 n' with g' | g'
    · obtain rfl : n' = 1 := by omega
      have e2 := len_one L'
      by_cases hy : l'.getD 0 0 = 0
      · exact (words_t11 hr hr' rfl rfl hy).mono (fin _ 1 _ _ e1.symm (by rw [e2, hy]; rfl))
      · exact (words_t12 hr hr' rfl rfl hy).mono (fin _ _ _ _ e1.symm (by rw [e2, dn_of hy]))
    · obtain rfl : n' = 0 := by omega
      exact (words_t10 hr hr' rfl).mono (fin _ 1 _ _ e1.symm (by rw [len_zero L']; rfl))
  · obtain rfl : n = 0 := by omega
    have e1 := len_zero L
    rcases Nat.lt_or_ge 0 n' with g' | g'
    · obtain rfl : n' = 1 := by omega
      have e2 := len_one L'
      by_cases hy : l'.getD 0 0 = 0
      · exact (words_t01 hr hr' rfl hy).mono (fin 0 1 _ _ e1.symm (by rw [e2, hy]; rfl))
      · exact (words_t02 hr hr' rfl hy).mono (fin 0 _ _ _ e1.symm (by rw [e2, dn_of hy]))
    · obtain rfl : n' = 0 := by omega
      exact (words_t00 hr hr').mono (fin 0 1 _ _ e1.symm (by rw [len_zero L']; rfl))
theorem words_f {w : World} {s : Bool} {a a' : Option Addr} {n c n' c' : Nat} {l l' : List Nat} (hr : Rd w a n c l) (hr' : Rd w a' n' c' l') (h : ¬ (n ≤ 1 ∧ n' ≤ 1)) : Calls Tryd.prog 41 #[.agg #[.bool s, .slice a n c, .slice a' n' c']] w fun e w' => e = .returned (.tuple #[.int .u64 0, .int .u64 0, .bool false]) ∧ Keep w w' := by
  by_cases h1 : n ≤ 1
  · exact words_f2 hr hr' h1 (by omega)
  · exact words_f1 hr hr' (by omega)
end Go.Proofs.YtnalmjbgkedcoaaDoor
