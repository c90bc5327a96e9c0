/- What is read from bytes. -/
import Derived.Test.YtcdkehghdhcokaaDoorW8
namespace Go.Proofs.YtcdkehghdhcokaaDoor.wr
open Go.RowKit
set_option linter.unusedVariables false

/-- the number at the beginning of bytes, and what lies behind -/
def lead : Nat → Nat → List Int → Option (Nat × List Int)
  | _, _, [] => none
  | i, acc, x :: T => if i = 9 ∧ 1 < x then none else if x < 128 then (if x = 0 ∧ 0 < i then none else some (acc + x.toNat * 128 ^ i, T)) else lead (i + 1) (acc + (x.toNat % 128) * 128 ^ i) T
def dec (L : List Int) : Option (Nat × List Int) := lead 0 0 L
def Bytes (L : List Int) : Prop := ∀ x ∈ L, 0 ≤ x ∧ x < 256
theorem Bytes.tail {x : Int} {T : List Int} (h : Bytes (x :: T)) : Bytes T := fun y hy => h y (List.mem_cons_of_mem _ hy)
theorem Bytes.right {A T : List Int} (h : Bytes (A ++ T)) : Bytes T := fun y hy => h y (List.mem_append_right _ hy)
theorem Bytes.left {A T : List Int} (h : Bytes (A ++ T)) : Bytes A := fun y hy => h y (List.mem_append_left _ hy)
theorem Bytes.take {T : List Int} (h : Bytes T) (k : Nat) : Bytes (T.take k) := fun y hy => h y (List.mem_of_mem_take hy)
theorem Bytes.drop {T : List Int} (h : Bytes T) (k : Nat) : Bytes (T.drop k) := fun y hy => h y (List.mem_of_mem_drop hy)
theorem p9 : (128 : Nat) ^ 9 = 9223372036854775808 := by decide
theorem p8 : (128 : Nat) ^ 8 = 72057594037927936 := by decide
theorem lead_grp : ∀ (L : List Int) (i acc m : Nat) (T : List Int), i ≤ 9 → Bytes L → lead i acc L = some (m, T) →
    ∃ q, m = acc + q * 128 ^ i ∧ L = grp q ++ T ∧ (0 < i → 0 < q) ∧ (q + 1) * 128 ^ i ≤ 18446744073709551616
  | [], i, acc, m, T, _, _, h => by simp [lead] at h
  | x :: L, i, acc, m, T, hi, hb, h => by
    obtain ⟨hx0, hx1⟩ := hb x (List.mem_cons_self)
    unfold lead at h
    by_cases h1 : i = 9 ∧ 1 < x
    · rw [if_pos h1] at h; cases h
    · rw [if_neg h1] at h
      by_cases h2 : x < 128
      · rw [if_pos h2] at h
        by_cases h3 : x = 0 ∧ 0 < i
        · rw [if_pos h3] at h; cases h
        · rw [if_neg h3] at h
          injection h with h; injection h with h4 h5
          subst h4; subst h5
          refine ⟨x.toNat, rfl, ?_, fun h0 => by omega, ?_⟩
          · rw [grp_small (by omega), Int.toNat_of_nonneg hx0]; rfl
          · by_cases h9 : i = 9
            · subst h9
              rw [p9]
              omega
            · have : 128 ^ i ≤ 128 ^ 8 := Nat.pow_le_pow_right (by omega) (by omega)
              rw [p8] at this
              have h6 : (x.toNat + 1) * 128 ^ i ≤ 128 * 128 ^ i := Nat.mul_le_mul_right _ (by omega)
              omega
      · rw [if_neg h2] at h
        have hi9 : i ≠ 9 := fun e => h1 ⟨e, by omega⟩
        obtain ⟨q, e1, e2, e3, e4⟩ := lead_grp L (i + 1) _ m T (by omega) hb.tail h
        have hq : 0 < q := e3 (by omega)
        refine ⟨x.toNat % 128 + 128 * q, ?_, ?_, fun _ => by omega, ?_⟩
        · rw [e1, Nat.pow_succ, Nat.add_mul, Nat.add_assoc]
          congr 2
          rw [Nat.mul_comm 128 q, Nat.mul_assoc, Nat.mul_comm 128]
        · rw [grp_big (by omega), e2]
          have h6 : (x.toNat % 128 + 128 * q) % 128 = x.toNat % 128 := by omega
          have h7 : (x.toNat % 128 + 128 * q) / 128 = q := by omega
          rw [h6, h7, show ((x.toNat % 128 + 128 : Nat) : Int) = x by omega]
          rfl
        · rw [Nat.pow_succ] at e4
          have h8 : (q + 1) * (128 ^ i * 128) = (128 * q + 128) * 128 ^ i := by rw [Nat.mul_comm (128 ^ i) 128, ← Nat.mul_assoc]; congr 1; omega
          rw [h8] at e4
          exact Nat.le_trans (Nat.mul_le_mul_right _ (by omega)) e4
theorem dec_grp {L T : List Int} {m : Nat} (hb : Bytes L) (h : dec L = some (m, T)) : L = grp m ++ T ∧ m < 18446744073709551616 := by
  obtain ⟨q, e1, e2, _, e4⟩ := lead_grp L 0 0 m T (by omega) hb h
  have e : m = q := by simpa using e1
  subst e
  exact ⟨e2, by simp at e4; omega⟩
theorem grp_lead : ∀ (q i acc : Nat) (T : List Int), i ≤ 9 → (0 < i → 0 < q) → q * 128 ^ i < 18446744073709551616 → lead i acc (grp q ++ T) = some (acc + q * 128 ^ i, T) := by
  intro q
  induction q using Nat.strongRecOn with
  | ind q ih =>
    intro i acc T hi h0 hq
    by_cases hs : q < 128
    · rw [grp_small hs]
      show lead i acc ((q : Int) :: T) = _
      unfold lead
      rw [if_neg, if_pos (by omega), if_neg]
      · rw [Int.toNat_natCast]
      · rintro ⟨h1, h2⟩
        have := h0 h2
        omega
      · rintro ⟨h1, h2⟩
        subst h1
        rw [p9] at hq
        omega
    · rw [grp_big hs]
      have hi9 : i ≠ 9 := by
        rintro rfl
        rw [p9] at hq
        omega
      show lead i acc (((q % 128 + 128 : Nat) : Int) :: (grp (q / 128) ++ T)) = _
      have hle : q / 128 * 128 ^ (i + 1) ≤ q * 128 ^ i := by
        rw [Nat.pow_succ, Nat.mul_comm (128 ^ i) 128, ← Nat.mul_assoc]
        exact Nat.mul_le_mul_right _ (by omega)
      unfold lead
      rw [if_neg (by omega), if_neg (by omega), ih (q / 128) (by omega) (i + 1) _ T (by omega) (fun _ => by omega) (by omega)]
      congr 2
      rw [show ((q % 128 + 128 : Nat) : Int).toNat % 128 = q % 128 by omega, Nat.pow_succ, Nat.add_assoc]
      congr 1
      rw [Nat.mul_comm (128 ^ i) 128, ← Nat.mul_assoc, ← Nat.add_mul]
      congr 1
      omega
theorem dec_of {m : Nat} (T : List Int) (hm : m < 18446744073709551616) : dec (grp m ++ T) = some (m, T) := by
  unfold dec
  rw [grp_lead m 0 0 T (by omega) (fun h => by omega) (by simpa using hm)]
  simp
/-- some bytes as limbs -/
def lbs : Nat → List Int → List Int
  | k + 1, b0 :: b1 :: b2 :: b3 :: T => (b0 + b1 * 256 + b2 * 65536 + b3 * 16777216) :: lbs k T
  | _, _ => []
theorem lbs_len : ∀ (k : Nat) (T : List Int), 4 * k ≤ T.length → (lbs k T).length = k
  | 0, T, _ => by unfold lbs; rfl
  | k + 1, [], h => by simp at h
  | k + 1, [_], h => by simp at h; omega
  | k + 1, [_, _], h => by simp at h; omega
  | k + 1, [_, _, _], h => by simp at h; omega
  | k + 1, b0 :: b1 :: b2 :: b3 :: T, h => by
    unfold lbs
    rw [List.length_cons, lbs_len k T (by simp at h; omega)]
theorem lbs_by4 : ∀ (k : Nat) (T : List Int), Bytes T → 4 * k ≤ T.length → (lbs k T).flatMap by4 = T.take (4 * k)
  | 0, T, _, _ => by unfold lbs; simp
  | k + 1, [], _, h => by simp at h
  | k + 1, [_], _, h => by simp at h; omega
  | k + 1, [_, _], _, h => by simp at h; omega
  | k + 1, [_, _, _], _, h => by simp at h; omega
  | k + 1, b0 :: b1 :: b2 :: b3 :: T, hb, h => by
    have h0 := hb b0 (by simp)
    have h1 := hb b1 (by simp)
    have h2 := hb b2 (by simp)
    have h3 := hb b3 (by simp)
    unfold lbs
    rw [List.flatMap_cons, lbs_by4 k T (fun x hx => hb x (by simp [hx])) (by simp at h; omega), show 4 * (k + 1) = 4 * k + 1 + 1 + 1 + 1 by omega]
    simp only [List.take_succ_cons, by4]
    rw [show (b0 + b1 * 256 + b2 * 65536 + b3 * 16777216) % 256 = b0 by omega, show (b0 + b1 * 256 + b2 * 65536 + b3 * 16777216) / 256 % 256 = b1 by omega, show (b0 + b1 * 256 + b2 * 65536 + b3 * 16777216) / 65536 % 256 = b2 by omega, show (b0 + b1 * 256 + b2 * 65536 + b3 * 16777216) / 16777216 = b3 by omega]
    rfl
theorem by4_lbs : ∀ (l T : List Int), (∀ x ∈ l, 0 ≤ x ∧ x < 4294967296) → lbs l.length (l.flatMap by4 ++ T) = l
  | [], T, _ => by simp [lbs]
  | x :: l, T, h => by
    have hx := h x (by simp)
    rw [List.flatMap_cons]
    show lbs (l.length + 1) (x % 256 :: x / 256 % 256 :: x / 65536 % 256 :: x / 16777216 :: (l.flatMap by4 ++ T)) = _
    unfold lbs
    rw [by4_lbs l T (fun y hy => h y (by simp [hy]))]
    congr 1
    omega
theorem lbs_range : ∀ (k : Nat) (T : List Int), Bytes T → ∀ x ∈ lbs k T, 0 ≤ x ∧ x < 4294967296
  | 0, T, _ => by unfold lbs; simp
  | k + 1, [], _ => by simp [lbs]
  | k + 1, [_], _ => by simp [lbs]
  | k + 1, [_, _], _ => by simp [lbs]
  | k + 1, [_, _, _], _ => by simp [lbs]
  | k + 1, b0 :: b1 :: b2 :: b3 :: T, hb => by
    have h0 := hb b0 (by simp)
    have h1 := hb b1 (by simp)
    have h2 := hb b2 (by simp)
    have h3 := hb b3 (by simp)
    unfold lbs
    intro x hx
    rcases List.mem_cons.1 hx with rfl | hx
    · omega
    · exact lbs_range k T (fun y hy => hb y (by simp [hy])) x hx
/-- the limbs at the beginning of bytes -/
def nat8 (L : List Int) : Option (List Int × List Int) :=
  match dec L with
  | none => none
  | some (m, T) => if T.length / 4 < m then none else if 0 < m ∧ (lbs m T).getD (m - 1) 0 = 0 then none else some (lbs m T, T.drop (4 * m))
theorem nat8_nb {L l T : List Int} (hb : Bytes L) (h : nat8 L = some (l, T)) : L = nb l ++ T ∧ (∀ x ∈ l, 0 ≤ x ∧ x < 4294967296) := by
  unfold nat8 at h
  cases hd : dec L with
  | none => rw [hd] at h; cases h
  | some p =>
    obtain ⟨m, T0⟩ := p
    rw [hd] at h
    obtain ⟨e1, e2⟩ := dec_grp hb hd
    dsimp only at h
    by_cases h1 : T0.length / 4 < m
    · rw [if_pos h1] at h; cases h
    · rw [if_neg h1] at h
      by_cases h2 : 0 < m ∧ (lbs m T0).getD (m - 1) 0 = 0
      · rw [if_pos h2] at h; cases h
      · rw [if_neg h2] at h
        injection h with h; injection h with h3 h4
        subst h3; subst h4
        have hbT : Bytes T0 := by rw [e1] at hb; exact hb.right
        refine ⟨?_, lbs_range m T0 hbT⟩
        unfold nb
        rw [lbs_len m T0 (by omega), lbs_by4 m T0 hbT (by omega), List.append_assoc, List.take_append_drop]
        exact e1
theorem nat8_of {l : List Int} (T : List Int) (h : ∀ x ∈ l, 0 ≤ x ∧ x < 4294967296) (hl : l.length < 4294967296) (hc : 0 < l.length → l.getD (l.length - 1) 0 ≠ 0) : nat8 (nb l ++ T) = some (l, T) := by
  unfold nat8 nb
  rw [List.append_assoc, dec_of _ (by omega)]
  dsimp only
  have e := by4_len l
  rw [if_neg (by rw [List.length_append, e]; omega), by4_lbs l T h, if_neg (fun hh => hc hh.1 hh.2)]
  rw [List.drop_append_of_le_length (by rw [e]; omega), List.drop_of_length_le (by rw [e]; omega)]
  rfl
/-- limbs as natural numbers -/
def nats (l : List Int) : List Nat := l.map Int.toNat

end Go.Proofs.YtcdkehghdhcokaaDoor.wr
