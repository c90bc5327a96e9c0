/- Walks of layer 2: DivMod whole, Cmp. -/
import Derived.Test.YtjkfnnoakjdgmaaE
import Derived.Deep.RegionHeld3
namespace Go.Proofs.Ytjkfnnoakjdgmaa
open Go.RowKit
set_option linter.unusedVariables false
theorem edm {x m q r : Int} (hm : 0 < m) (h : r + m * q = x) (h0 : 0 ≤ r) (h1 : r < m) : (x / m = q ∧ x % m = r) ∧ (x / -m = -q ∧ x % -m = r) := by
  have e := (Int.ediv_emod_unique hm).2 ⟨h, h0, h1⟩
  exact ⟨e, by rw [Int.ediv_neg, e.1], by rw [Int.emod_neg, e.2]⟩
theorem dm_pos (n m : Nat) (h : m ≠ 0) : (n : Int) / m = ((n / m : Nat) : Int) ∧ (n : Int) % m = ((n % m : Nat) : Int) ∧ (n : Int) / -(m : Int) = -((n / m : Nat) : Int) ∧ (n : Int) % -(m : Int) = ((n % m : Nat) : Int) := by
  have e := Nat.div_add_mod n m
  have l := Nat.mod_lt n (Nat.pos_of_ne_zero h)
  obtain ⟨h1, h2⟩ := edm (x := n) (m := m) (q := ((n / m : Nat) : Int)) (r := ((n % m : Nat) : Int)) (by omega) (by rw [← Int.natCast_mul, ← Int.natCast_add, Nat.add_comm, e]) (by omega) (by omega)
  exact ⟨h1.1, h1.2, h2.1, h2.2⟩
theorem dm_neg0 (n m : Nat) (h : m ≠ 0) (hp : n % m = 0) : -(n : Int) / m = -((n / m : Nat) : Int) ∧ -(n : Int) % m = 0 ∧ -(n : Int) / -(m : Int) = ((n / m : Nat) : Int) ∧ -(n : Int) % -(m : Int) = 0 := by
  have e := Nat.div_add_mod n m
  obtain ⟨h1, h2⟩ := edm (x := -(n : Int)) (m := m) (q := -((n / m : Nat) : Int)) (r := 0) (by omega) (by
    rw [Int.mul_neg, ← Int.natCast_mul]
    omega) (by omega) (by omega)
  exact ⟨h1.1, h1.2, by rw [h2.1, Int.neg_neg], h2.2⟩
theorem dm_neg1 (n m : Nat) (h : m ≠ 0) (hp : n % m ≠ 0) : -(n : Int) / m = -((n / m + 1 : Nat) : Int) ∧ -(n : Int) % m = ((m - n % m : Nat) : Int) ∧ -(n : Int) / -(m : Int) = ((n / m + 1 : Nat) : Int) ∧ -(n : Int) % -(m : Int) = ((m - n % m : Nat) : Int) := by
  have e := Nat.div_add_mod n m
  have l := Nat.mod_lt n (Nat.pos_of_ne_zero h)
  obtain ⟨h1, h2⟩ := edm (x := -(n : Int)) (m := m) (q := -((n / m + 1 : Nat) : Int)) (r := ((m - n % m : Nat) : Int)) (by omega) (by
    rw [Int.mul_neg, ← Int.natCast_mul, Nat.mul_add, Nat.mul_one]
    omega) (by omega) (by omega)
  exact ⟨h1.1, h1.2, by rw [h2.1, Int.neg_neg], h2.2⟩
theorem ZPost.cast {q r err q' r' err' : Int} {w w' : World} {e : Ending} (h : ZPost q r err w e w') (h1 : q' = q) (h2 : r' = r) (h3 : err' = err) : ZPost q' r' err' w e w' := by
  subst h1 h2 h3; exact h
theorem idivmod_c {w : World} {v u : Value} {s s' : Bool} {n m k k' : Nat} (h : Im w v s n k) (h' : Im w u s' m k') (hk : k ≤ 1048574) (hk' : k' ≤ 1048574) :
    Calls Try.prog 32 #[v, u] w (ZPost (zQ (iv s n) (iv s' m)) (zR (iv s n) (iv s' m)) (zE (iv s' m)) w) := by
  obtain ⟨x, rfl, hm⟩ := h
  obtain ⟨a, len, cap, l, rfl, _, _, _⟩ := hm.form
  obtain ⟨y, rfl, hm'⟩ := h'
  obtain ⟨a', len', cap', l', rfl, _, _, _⟩ := hm'.form
  by_cases h0 : m = 0
  · subst h0
    have e0 : iv s' 0 = 0 := by cases s' <;> rfl
    rw [e0]
    exact (idm_zero hm hm' (by omega)).mono fun _ _ hh => hh
  · have e0 : iv s' m ≠ 0 := by cases s' <;> (simp [iv]; omega)
    have eQ : zQ (iv s n) (iv s' m) = iv s n / iv s' m := if_neg e0
    have eR : zR (iv s n) (iv s' m) = iv s n % iv s' m := if_neg e0
    have eE : zE (iv s' m) = 0 := if_neg e0
    rw [eQ, eR, eE]
    cases s
    · obtain ⟨h1, h2, h3, h4⟩ := dm_pos n m h0
      cases s'
      · exact (idm_0 hm hm' hk hk' h0).mono fun _ _ hh => hh.cast h1 h2 rfl
      · exact (idm_1 hm hm' hk hk' h0).mono fun _ _ hh => hh.cast h3 h4 rfl
    · by_cases hp : n % m = 0
      · obtain ⟨h1, h2, h3, h4⟩ := dm_neg0 n m h0 hp
        have hz : iv false (n % m) = 0 := by rw [hp]; rfl
        cases s'
        · exact (idm_2 hm hm' hk hk' h0 hp).mono fun _ _ hh => hh.cast h1 (h2.trans hz.symm) rfl
        · exact (idm_3 hm hm' hk hk' h0 hp).mono fun _ _ hh => hh.cast h3 (h4.trans hz.symm) rfl
      · obtain ⟨h1, h2, h3, h4⟩ := dm_neg1 n m h0 hp
        cases s'
        · exact (idm_4 hm hm' hk hk' h0 hp).mono fun _ _ hh => hh.cast h1 h2 rfl
        · exact (idm_5 hm hm' hk hk' h0 hp).mono fun _ _ hh => hh.cast h3 h4 rfl
/-- the order of two integers -/
def zC (x y : Int) : Int := if x < y then -1 else if x = y then 0 else 1
theorem bcell {W w1 : World} (hb : Below W.heap.size W w1) : ∀ b o v, W.cell? ⟨b, o, none⟩ = some v → w1.cell? ⟨b, o, none⟩ = some v :=
  fun b o v h => (hb.cell (World.block_lt_of_cell? W _ h)).trans h
theorem Keep.drew {w w' : World} (h : Keep w w') : Keep w w'.drew := Below.trans h ⟨rfl, rfl, rfl, Nat.le_refl _, fun _ _ => rfl⟩
theorem sgn_facts (z : Int) : (sgn z = -1 ∧ z < 0) ∨ (sgn z = 0 ∧ z = 0) ∨ (sgn z = 1 ∧ 0 < z) := by
  unfold sgn; split
  · exact .inl ⟨rfl, by omega⟩
  · split
    · exact .inr (.inl ⟨rfl, by omega⟩)
    · exact .inr (.inr ⟨rfl, by omega⟩)
set_option maxHeartbeats 1000000 in
theorem icmp_0 {w : World} {s s2 : Bool} {a a2 : Option Addr} {len cap len2 cap2 n m k k2 : Nat} {x1 x2 c : Int} (hm : Nm w (.slice a len cap) n k) (hm2 : Nm w (.slice a2 len2 cap2) m k2) (hk : k ≤ 1048576) (hk2 : k2 ≤ 1048576)
    (e1 : sgn (iv s n) = x1) (e2 : sgn (iv s2 m) = x2) (h : x1 < x2) (hc : (-1 : Int) = c) :
    Calls Try.prog 30 #[.agg #[.bool s, .slice a len cap], .agg #[.bool s2, .slice a2 len2 cap2]] w (VPost c w) := by
  have K : Keep w (((w.alloc (.cells #[.bool s, .slice a len cap] 25)).alloc (.cells #[.bool s2, .slice a2 len2 cap2] 25)).drew) := (((Keep.refl w).alloc _).alloc _).drew
  have S1 := Lib.hid (isign_c (w := ((w.alloc (.cells #[.bool s, .slice a len cap] 25)).alloc (.cells #[.bool s2, .slice a2 len2 cap2] 25)).drew) (v := .agg #[.bool s, .slice a len cap]) (s := s) ⟨_, rfl, hm.keep K⟩ hk)
  have S2 := Lib.hid (fun w1 (h1 : Nm w1 (.slice a2 len2 cap2) m k2) => isign_c (w := w1) (v := .agg #[.bool s2, .slice a2 len2 cap2]) (s := s2) ⟨_, rfl, h1⟩ hk2)
  rw [e1] at S1
  rw [e2] at S2
  have KB : Hid (∀ w1, Keep (((w.alloc (.cells #[.bool s, .slice a len cap] 25)).alloc (.cells #[.bool s2, .slice a2 len2 cap2] 25)).drew) w1 → (w1.cell? ⟨w.heap.size, 0, none⟩ = some (.bool s) ∧ w1.cell? ⟨w.heap.size, 1, none⟩ = some (.slice a len cap) ∧ w1.cell? ⟨(w.heap.size + 1), 0, none⟩ = some (.bool s2) ∧ w1.cell? ⟨(w.heap.size + 1), 1, none⟩ = some (.slice a2 len2 cap2)) ∧ Hid (Nm w1 (.slice a len cap) n k) ∧ Hid (Nm w1 (.slice a2 len2 cap2) m k2) ∧ Hid (Keep w w1)) := Lib.hid (by
    intro w1 hb
    exact ⟨⟨bcell hb _ _ _ (by simp), bcell hb _ _ _ (by simp), bcell hb _ _ _ (by simp), bcell hb _ _ _ (by simp)⟩, Lib.hid (hm.keep (K.trans hb)), Lib.hid (hm2.keep (K.trans hb)), Lib.hid (K.trans hb)⟩)
  have HC := Lib.hid hc
  clear hm hm2 K e1 e2 hc
  go_enter Try.func30, Try.ntmps30
  go_wp2
  go_region_held3 (fun w' => w'.cell? ⟨w.heap.size, 0, none⟩ = some (.bool s) ∧ w'.cell? ⟨w.heap.size, 1, none⟩ = some (.slice a len cap) ∧ w'.cell? ⟨(w.heap.size + 1), 0, none⟩ = some (.bool s2) ∧ w'.cell? ⟨(w.heap.size + 1), 1, none⟩ = some (.slice a2 len2 cap2)) (first | exact ⟨t0, t1, t2, t3⟩ | exact ⟨s0, s1, s2_, s3⟩ | go_keep)
    (first
      | (go_at_call_of 16 (Value.agg #[Value.bool s, Value.slice a len cap]); ((with_reducible refine Calls.mono S1.out ?_); rintro e w1 ⟨rfl, k1⟩; obtain ⟨⟨s0, s1, s2_, s3⟩, ha, hb, bw⟩ := KB.out _ k1; clear k1))
      | (go_at_call_of 16 (Value.agg #[Value.bool s2, Value.slice a2 len2 cap2]); ((with_reducible refine Calls.mono (S2.out _ hb.out) ?_); rintro e w2 ⟨rfl, k2⟩; have t0 := bcell k2 _ _ _ s0; have t1 := bcell k2 _ _ _ s1; have t2 := bcell k2 _ _ _ s2_; have t3 := bcell k2 _ _ _ s3; have ha2 := Lib.hid (ha.out.keep k2); have hb2 := Lib.hid (hb.out.keep k2); have bw2 := Lib.hid (bw.out.trans k2); clear k2)))
  all_goals
    go_wp2
    go_ret
    exact ⟨by rw [← HC.out]; rfl, bw2.out⟩
set_option maxHeartbeats 1000000 in
theorem icmp_1 {w : World} {s s2 : Bool} {a a2 : Option Addr} {len cap len2 cap2 n m k k2 : Nat} {x1 x2 c : Int} (hm : Nm w (.slice a len cap) n k) (hm2 : Nm w (.slice a2 len2 cap2) m k2) (hk : k ≤ 1048576) (hk2 : k2 ≤ 1048576)
    (e1 : sgn (iv s n) = x1) (e2 : sgn (iv s2 m) = x2) (h : x2 < x1) (hc : (1 : Int) = c) :
    Calls Try.prog 30 #[.agg #[.bool s, .slice a len cap], .agg #[.bool s2, .slice a2 len2 cap2]] w (VPost c w) := by
  have K : Keep w (((w.alloc (.cells #[.bool s, .slice a len cap] 25)).alloc (.cells #[.bool s2, .slice a2 len2 cap2] 25)).drew) := (((Keep.refl w).alloc _).alloc _).drew
  have S1 := Lib.hid (isign_c (w := ((w.alloc (.cells #[.bool s, .slice a len cap] 25)).alloc (.cells #[.bool s2, .slice a2 len2 cap2] 25)).drew) (v := .agg #[.bool s, .slice a len cap]) (s := s) ⟨_, rfl, hm.keep K⟩ hk)
  have S2 := Lib.hid (fun w1 (h1 : Nm w1 (.slice a2 len2 cap2) m k2) => isign_c (w := w1) (v := .agg #[.bool s2, .slice a2 len2 cap2]) (s := s2) ⟨_, rfl, h1⟩ hk2)
  rw [e1] at S1
  rw [e2] at S2
  have KB : Hid (∀ w1, Keep (((w.alloc (.cells #[.bool s, .slice a len cap] 25)).alloc (.cells #[.bool s2, .slice a2 len2 cap2] 25)).drew) w1 → (w1.cell? ⟨w.heap.size, 0, none⟩ = some (.bool s) ∧ w1.cell? ⟨w.heap.size, 1, none⟩ = some (.slice a len cap) ∧ w1.cell? ⟨(w.heap.size + 1), 0, none⟩ = some (.bool s2) ∧ w1.cell? ⟨(w.heap.size + 1), 1, none⟩ = some (.slice a2 len2 cap2)) ∧ Hid (Nm w1 (.slice a len cap) n k) ∧ Hid (Nm w1 (.slice a2 len2 cap2) m k2) ∧ Hid (Keep w w1)) := Lib.hid (by
    intro w1 hb
    exact ⟨⟨bcell hb _ _ _ (by simp), bcell hb _ _ _ (by simp), bcell hb _ _ _ (by simp), bcell hb _ _ _ (by simp)⟩, Lib.hid (hm.keep (K.trans hb)), Lib.hid (hm2.keep (K.trans hb)), Lib.hid (K.trans hb)⟩)
  have HC := Lib.hid hc
  clear hm hm2 K e1 e2 hc
  have hn1 : ¬ x1 < x2 := by omega
  go_enter Try.func30, Try.ntmps30
  go_wp2
  go_region_held3 (fun w' => w'.cell? ⟨w.heap.size, 0, none⟩ = some (.bool s) ∧ w'.cell? ⟨w.heap.size, 1, none⟩ = some (.slice a len cap) ∧ w'.cell? ⟨(w.heap.size + 1), 0, none⟩ = some (.bool s2) ∧ w'.cell? ⟨(w.heap.size + 1), 1, none⟩ = some (.slice a2 len2 cap2)) (first | exact ⟨t0, t1, t2, t3⟩ | exact ⟨s0, s1, s2_, s3⟩ | go_keep)
    (first
      | (go_at_call_of 16 (Value.agg #[Value.bool s, Value.slice a len cap]); ((with_reducible refine Calls.mono S1.out ?_); rintro e w1 ⟨rfl, k1⟩; obtain ⟨⟨s0, s1, s2_, s3⟩, ha, hb, bw⟩ := KB.out _ k1; clear k1))
      | (go_at_call_of 16 (Value.agg #[Value.bool s2, Value.slice a2 len2 cap2]); ((with_reducible refine Calls.mono (S2.out _ hb.out) ?_); rintro e w2 ⟨rfl, k2⟩; have t0 := bcell k2 _ _ _ s0; have t1 := bcell k2 _ _ _ s1; have t2 := bcell k2 _ _ _ s2_; have t3 := bcell k2 _ _ _ s3; have ha2 := Lib.hid (ha.out.keep k2); have hb2 := Lib.hid (hb.out.keep k2); have bw2 := Lib.hid (bw.out.trans k2); clear k2)))
  all_goals
    go_wp2
    go_ret
    exact ⟨by rw [← HC.out]; rfl, bw2.out⟩
set_option maxHeartbeats 1000000 in
theorem icmp_2 {w : World} {s s2 : Bool} {a a2 : Option Addr} {len cap len2 cap2 n m k k2 : Nat} {x1 x2 c : Int} (hm : Nm w (.slice a len cap) n k) (hm2 : Nm w (.slice a2 len2 cap2) m k2) (hk : k ≤ 1048576) (hk2 : k2 ≤ 1048576)
    (e1 : sgn (iv s n) = x1) (e2 : sgn (iv s2 m) = x2) (h : x1 = x2) (h2 : x1 < 0) (hc : cmpv m n = c) :
    Calls Try.prog 30 #[.agg #[.bool s, .slice a len cap], .agg #[.bool s2, .slice a2 len2 cap2]] w (VPost c w) := by
  have K : Keep w (((w.alloc (.cells #[.bool s, .slice a len cap] 25)).alloc (.cells #[.bool s2, .slice a2 len2 cap2] 25)).drew) := (((Keep.refl w).alloc _).alloc _).drew
  have S1 := Lib.hid (isign_c (w := ((w.alloc (.cells #[.bool s, .slice a len cap] 25)).alloc (.cells #[.bool s2, .slice a2 len2 cap2] 25)).drew) (v := .agg #[.bool s, .slice a len cap]) (s := s) ⟨_, rfl, hm.keep K⟩ hk)
  have S2 := Lib.hid (fun w1 (h1 : Nm w1 (.slice a2 len2 cap2) m k2) => isign_c (w := w1) (v := .agg #[.bool s2, .slice a2 len2 cap2]) (s := s2) ⟨_, rfl, h1⟩ hk2)
  rw [e1] at S1
  rw [e2] at S2
  have KB : Hid (∀ w1, Keep (((w.alloc (.cells #[.bool s, .slice a len cap] 25)).alloc (.cells #[.bool s2, .slice a2 len2 cap2] 25)).drew) w1 → (w1.cell? ⟨w.heap.size, 0, none⟩ = some (.bool s) ∧ w1.cell? ⟨w.heap.size, 1, none⟩ = some (.slice a len cap) ∧ w1.cell? ⟨(w.heap.size + 1), 0, none⟩ = some (.bool s2) ∧ w1.cell? ⟨(w.heap.size + 1), 1, none⟩ = some (.slice a2 len2 cap2)) ∧ Hid (Nm w1 (.slice a len cap) n k) ∧ Hid (Nm w1 (.slice a2 len2 cap2) m k2) ∧ Hid (Keep w w1)) := Lib.hid (by
    intro w1 hb
    exact ⟨⟨bcell hb _ _ _ (by simp), bcell hb _ _ _ (by simp), bcell hb _ _ _ (by simp), bcell hb _ _ _ (by simp)⟩, Lib.hid (hm.keep (K.trans hb)), Lib.hid (hm2.keep (K.trans hb)), Lib.hid (K.trans hb)⟩)
  have HC := Lib.hid hc
  clear hm hm2 K e1 e2 hc
  have hn1 : ¬ x1 < x2 := by omega
  have hn2 : ¬ x2 < x1 := by omega
  clear h
  go_enter Try.func30, Try.ntmps30
  go_wp2
  go_region_held3 (fun w' => w'.cell? ⟨w.heap.size, 0, none⟩ = some (.bool s) ∧ w'.cell? ⟨w.heap.size, 1, none⟩ = some (.slice a len cap) ∧ w'.cell? ⟨(w.heap.size + 1), 0, none⟩ = some (.bool s2) ∧ w'.cell? ⟨(w.heap.size + 1), 1, none⟩ = some (.slice a2 len2 cap2)) (first | exact ⟨t0, t1, t2, t3⟩ | exact ⟨s0, s1, s2_, s3⟩ | go_keep)
    (first
      | (go_at_call_of 16 (Value.agg #[Value.bool s, Value.slice a len cap]); ((with_reducible refine Calls.mono S1.out ?_); rintro e w1 ⟨rfl, k1⟩; obtain ⟨⟨s0, s1, s2_, s3⟩, ha, hb, bw⟩ := KB.out _ k1; clear k1))
      | (go_at_call_of 16 (Value.agg #[Value.bool s2, Value.slice a2 len2 cap2]); ((with_reducible refine Calls.mono (S2.out _ hb.out) ?_); rintro e w2 ⟨rfl, k2⟩; have t0 := bcell k2 _ _ _ s0; have t1 := bcell k2 _ _ _ s1; have t2 := bcell k2 _ _ _ s2_; have t3 := bcell k2 _ _ _ s3; have ha2 := Lib.hid (ha.out.keep k2); have hb2 := Lib.hid (hb.out.keep k2); have bw2 := Lib.hid (bw.out.trans k2); clear k2)))
  all_goals
    go_wp2_with fail
    refine Calls.mono (cmp_n hb2.out ha2.out) ?_
    rintro e w9 ⟨rfl, k9⟩
    have bw3 := Lib.hid (bw2.out.trans k9)
    clear k9
    go_wp2
    go_ret
    exact ⟨by rw [← HC.out]; rfl, bw3.out⟩
set_option maxHeartbeats 1000000 in
theorem icmp_3 {w : World} {s s2 : Bool} {a a2 : Option Addr} {len cap len2 cap2 n m k k2 : Nat} {x1 x2 c : Int} (hm : Nm w (.slice a len cap) n k) (hm2 : Nm w (.slice a2 len2 cap2) m k2) (hk : k ≤ 1048576) (hk2 : k2 ≤ 1048576)
    (e1 : sgn (iv s n) = x1) (e2 : sgn (iv s2 m) = x2) (h : x1 = x2) (h2 : ¬ x1 < 0) (hc : cmpv n m = c) :
    Calls Try.prog 30 #[.agg #[.bool s, .slice a len cap], .agg #[.bool s2, .slice a2 len2 cap2]] w (VPost c w) := by
  have K : Keep w (((w.alloc (.cells #[.bool s, .slice a len cap] 25)).alloc (.cells #[.bool s2, .slice a2 len2 cap2] 25)).drew) := (((Keep.refl w).alloc _).alloc _).drew
  have S1 := Lib.hid (isign_c (w := ((w.alloc (.cells #[.bool s, .slice a len cap] 25)).alloc (.cells #[.bool s2, .slice a2 len2 cap2] 25)).drew) (v := .agg #[.bool s, .slice a len cap]) (s := s) ⟨_, rfl, hm.keep K⟩ hk)
  have S2 := Lib.hid (fun w1 (h1 : Nm w1 (.slice a2 len2 cap2) m k2) => isign_c (w := w1) (v := .agg #[.bool s2, .slice a2 len2 cap2]) (s := s2) ⟨_, rfl, h1⟩ hk2)
  rw [e1] at S1
  rw [e2] at S2
  have KB : Hid (∀ w1, Keep (((w.alloc (.cells #[.bool s, .slice a len cap] 25)).alloc (.cells #[.bool s2, .slice a2 len2 cap2] 25)).drew) w1 → (w1.cell? ⟨w.heap.size, 0, none⟩ = some (.bool s) ∧ w1.cell? ⟨w.heap.size, 1, none⟩ = some (.slice a len cap) ∧ w1.cell? ⟨(w.heap.size + 1), 0, none⟩ = some (.bool s2) ∧ w1.cell? ⟨(w.heap.size + 1), 1, none⟩ = some (.slice a2 len2 cap2)) ∧ Hid (Nm w1 (.slice a len cap) n k) ∧ Hid (Nm w1 (.slice a2 len2 cap2) m k2) ∧ Hid (Keep w w1)) := Lib.hid (by
    intro w1 hb
    exact ⟨⟨bcell hb _ _ _ (by simp), bcell hb _ _ _ (by simp), bcell hb _ _ _ (by simp), bcell hb _ _ _ (by simp)⟩, Lib.hid (hm.keep (K.trans hb)), Lib.hid (hm2.keep (K.trans hb)), Lib.hid (K.trans hb)⟩)
  have HC := Lib.hid hc
  clear hm hm2 K e1 e2 hc
  have hn1 : ¬ x1 < x2 := by omega
  have hn2 : ¬ x2 < x1 := by omega
  clear h
  go_enter Try.func30, Try.ntmps30
  go_wp2
  go_region_held3 (fun w' => w'.cell? ⟨w.heap.size, 0, none⟩ = some (.bool s) ∧ w'.cell? ⟨w.heap.size, 1, none⟩ = some (.slice a len cap) ∧ w'.cell? ⟨(w.heap.size + 1), 0, none⟩ = some (.bool s2) ∧ w'.cell? ⟨(w.heap.size + 1), 1, none⟩ = some (.slice a2 len2 cap2)) (first | exact ⟨t0, t1, t2, t3⟩ | exact ⟨s0, s1, s2_, s3⟩ | go_keep)
    (first
      | (go_at_call_of 16 (Value.agg #[Value.bool s, Value.slice a len cap]); ((with_reducible refine Calls.mono S1.out ?_); rintro e w1 ⟨rfl, k1⟩; obtain ⟨⟨s0, s1, s2_, s3⟩, ha, hb, bw⟩ := KB.out _ k1; clear k1))
      | (go_at_call_of 16 (Value.agg #[Value.bool s2, Value.slice a2 len2 cap2]); ((with_reducible refine Calls.mono (S2.out _ hb.out) ?_); rintro e w2 ⟨rfl, k2⟩; have t0 := bcell k2 _ _ _ s0; have t1 := bcell k2 _ _ _ s1; have t2 := bcell k2 _ _ _ s2_; have t3 := bcell k2 _ _ _ s3; have ha2 := Lib.hid (ha.out.keep k2); have hb2 := Lib.hid (hb.out.keep k2); have bw2 := Lib.hid (bw.out.trans k2); clear k2)))
  all_goals
    go_wp2_with fail
    refine Calls.mono (cmp_n ha2.out hb2.out) ?_
    rintro e w9 ⟨rfl, k9⟩
    have bw3 := Lib.hid (bw2.out.trans k9)
    clear k9
    go_wp2
    go_ret
    exact ⟨by rw [← HC.out]; rfl, bw3.out⟩
theorem icmp_c {w : World} {v u : Value} {s s' : Bool} {n m k k' : Nat} (h : Im w v s n k) (h' : Im w u s' m k') (hk : k ≤ 1048576) (hk' : k' ≤ 1048576) :
    Calls Try.prog 30 #[v, u] w (VPost (zC (iv s n) (iv s' m)) w) := by
  obtain ⟨x, rfl, hm⟩ := h
  obtain ⟨a, len, cap, l, rfl, _, _, _⟩ := hm.form
  obtain ⟨y, rfl, hm'⟩ := h'
  obtain ⟨a', len', cap', l', rfl, _, _, _⟩ := hm'.form
  have f1 := sgn_facts (iv s n)
  have f2 := sgn_facts (iv s' m)
  by_cases h1 : sgn (iv s n) < sgn (iv s' m)
  · exact icmp_0 hm hm' hk hk' rfl rfl h1 (by unfold zC; rw [if_pos (by omega)])
  · by_cases h2 : sgn (iv s' m) < sgn (iv s n)
    · exact icmp_1 hm hm' hk hk' rfl rfl h2 (by unfold zC; rw [if_neg (by omega), if_neg (by omega)])
    · have h3 : sgn (iv s n) = sgn (iv s' m) := by omega
      by_cases h4 : sgn (iv s n) < 0
      · refine icmp_2 hm hm' hk hk' rfl rfl h3 h4 ?_
        have g1 : iv s n < 0 := by omega
        have g2 : iv s' m < 0 := by omega
        cases s
        · unfold iv at g1; simp at g1; omega
        · cases s'
          · unfold iv at g2; simp at g2; omega
          · unfold zC cmpv iv; simp only [if_true]
            rcases Nat.lt_trichotomy m n with g | g | g
            · rw [if_pos g, if_pos (by omega)]
            · rw [if_neg (by omega), if_neg (by omega), if_neg (by omega), if_pos (by omega)]
            · rw [if_neg (by omega), if_pos (by omega), if_neg (by omega), if_neg (by omega)]
      · refine icmp_3 hm hm' hk hk' rfl rfl h3 h4 ?_
        have g1 : 0 ≤ iv s n := by omega
        have g2 : 0 ≤ iv s' m := by omega
        have a1 : iv s n = (n : Int) := by cases s <;> (unfold iv at *; simp at *; try omega)
        have a2 : iv s' m = (m : Int) := by cases s' <;> (unfold iv at *; simp at *; try omega)
        rw [a1, a2]
        unfold zC cmpv
        rcases Nat.lt_trichotomy n m with g | g | g
        · rw [if_pos g, if_pos (by omega)]
        · rw [if_neg (by omega), if_neg (by omega), if_neg (by omega), if_pos (by omega)]
        · rw [if_neg (by omega), if_pos (by omega), if_neg (by omega), if_neg (by omega)]
end Go.Proofs.Ytjkfnnoakjdgmaa
