/- Different clauses have different texts. -/
import Derived.Test.YtljgcjmelmpgoaaDoorQ38
namespace Go.Proofs.YtljgcjmelmpgoaaDoor
open Go.RowKit
set_option linter.unusedVariables false

/-- a numeral's value -/
def numVal (l : List UInt8) : Nat := l.foldl (fun a c => 10 * a + (c.toNat - 48)) 0
theorem numVal_snoc (l : List UInt8) (c : UInt8) : numVal (l ++ [c]) = 10 * numVal l + (c.toNat - 48) := by
  unfold numVal; rw [List.foldl_append]; rfl
theorem byte_nat (k : Nat) (hk : k < 10) : (UInt8.ofNat (48 + k)).toNat = 48 + k := by
  rw [UInt8.toNat_ofNat']; omega
theorem numVal_dec : ∀ (g k : Nat), k ≤ g → numVal (Lib.decDigits k) = k
  | 0, k, h => by
    have hk : k < 10 := by omega
    rw [Lib.decDigits_one hk]
    show numVal ([] ++ [_]) = k
    rw [numVal_snoc, byte_nat k hk]
    show 10 * 0 + (48 + k - 48) = k
    omega
  | g + 1, k, h => by
    by_cases hk : k < 10
    · rw [Lib.decDigits_one hk]
      show numVal ([] ++ [_]) = k
      rw [numVal_snoc, byte_nat k hk]
      show 10 * 0 + (48 + k - 48) = k
      omega
    · rw [Lib.decDigits, dif_neg hk, numVal_snoc, numVal_dec g (k / 10) (by omega), byte_nat _ (by omega)]
      omega
theorem dec_no32 : ∀ (g k : Nat), k ≤ g → (32 : UInt8) ∉ Lib.decDigits k
  | 0, k, h => by
    have hk : k < 10 := by omega
    rw [Lib.decDigits_one hk, List.mem_singleton]
    intro he
    have := congrArg UInt8.toNat he
    rw [byte_nat k hk] at this
    have h32 : (32 : UInt8).toNat = 32 := rfl
    omega
  | g + 1, k, h => by
    have key : ∀ j, j < 10 → (32 : UInt8) ≠ UInt8.ofNat (48 + j) := fun j hj he => by
      have := congrArg UInt8.toNat he
      rw [byte_nat j hj] at this
      have h32 : (32 : UInt8).toNat = 32 := rfl
      omega
    by_cases hk : k < 10
    · rw [Lib.decDigits_one hk, List.mem_singleton]; exact key k hk
    · rw [Lib.decDigits, dif_neg hk, List.mem_append, List.mem_singleton]
      rintro (h1 | h1)
      · exact dec_no32 g (k / 10) (by omega) h1
      · exact key _ (by omega) h1
theorem split32 : ∀ {D D' s t : List UInt8}, (32 : UInt8) ∉ D → (32 : UInt8) ∉ D' → D ++ 32 :: s = D' ++ 32 :: t → D = D' ∧ s = t
  | [], [], s, t, _, _, h => ⟨rfl, by simpa using h⟩
  | [], y :: D', s, t, _, h2, h => by
    rw [List.nil_append, List.cons_append] at h
    injection h with h3 h4
    exact absurd (by rw [h3]; simp) h2
  | x :: D, [], s, t, h1, _, h => by
    rw [List.nil_append, List.cons_append] at h
    injection h with h3 h4
    exact absurd (by rw [← h3]; simp) h1
  | x :: D, y :: D', s, t, h1, h2, h => by
    rw [List.cons_append, List.cons_append] at h
    injection h with h3 h4
    obtain ⟨e1, e2⟩ := split32 (fun hm => h1 (by simp [hm])) (fun hm => h2 (by simp [hm])) h4
    exact ⟨by rw [h3, e1], e2⟩
theorem itoa_inj {u v : Int} (hu : 0 ≤ u) (hv : 0 ≤ v) (h : Lib.itoa u = Lib.itoa v) : u = v := by
  obtain ⟨k, rfl⟩ : ∃ k : Nat, u = k := ⟨u.toNat, by omega⟩
  obtain ⟨j, rfl⟩ : ∃ j : Nat, v = j := ⟨v.toNat, by omega⟩
  unfold Lib.itoa at h
  rw [if_neg (by omega), if_neg (by omega), Int.toNat_natCast, Int.toNat_natCast] at h
  have := congrArg numVal h
  rw [numVal_dec k k (Nat.le_refl _), numVal_dec j j (Nat.le_refl _)] at this
  omega
theorem itoa_no32 {u : Int} (hu : 0 ≤ u) : (32 : UInt8) ∉ Lib.itoa u := by
  unfold Lib.itoa
  rw [if_neg (by omega)]
  exact dec_no32 _ _ (Nat.le_refl _)
theorem lit_cancel {x y : Lt} {s t : List UInt8} (hx : 0 ≤ x.1) (hy : 0 ≤ y.1) (h : litText x ++ s = litText y ++ t) : x = y ∧ s = t := by
  obtain ⟨u, o⟩ := x
  obtain ⟨v, p⟩ := y
  unfold litText at h
  rw [List.cons_append, List.cons_append, List.append_assoc, List.append_assoc] at h
  injection h with _ h
  have e : ∀ (q : Bool) (r : List UInt8), tail2 q ++ r = 32 :: ((if q then [111, 110] else [111, 102, 102]) ++ r) := fun q r => by cases q <;> rfl
  rw [e, e] at h
  obtain ⟨h1, h2⟩ := split32 (itoa_no32 hx) (itoa_no32 hy) h
  have huv := itoa_inj hx hy h1
  simp only at huv
  subst huv
  cases o <;> cases p
  · exact ⟨rfl, by simpa using h2⟩
  · simp at h2
  · simp at h2
  · exact ⟨rfl, by simpa using h2⟩
theorem join_inj : ∀ {A B : List Lt}, A ≠ [] → B ≠ [] → (∀ x ∈ A, 0 ≤ x.1) → (∀ x ∈ B, 0 ≤ x.1) → Lib.join (A.map litText) [32, 124, 32] = Lib.join (B.map litText) [32, 124, 32] → A = B
  | [], _, h, _, _, _, _ => absurd rfl h
  | _, [], _, h, _, _, _ => absurd rfl h
  | x :: A, y :: B, _, _, hA, hB, h => by
    rw [List.map_cons, List.map_cons, Lib.join_cons, Lib.join_cons] at h
    obtain ⟨e1, e2⟩ := lit_cancel (hA x (by simp)) (hB y (by simp)) h
    subst e1
    have key : ∀ (A B : List Lt), (∀ x ∈ A, 0 ≤ x.1) → (∀ x ∈ B, 0 ≤ x.1) → Lib.joinTail [32, 124, 32] (A.map litText) = Lib.joinTail [32, 124, 32] (B.map litText) → A = B := by
      intro A
      induction A with
      | nil =>
        intro B _ _ h
        cases B with
        | nil => rfl
        | cons y B => unfold Lib.joinTail at h; simp at h
      | cons x A ih =>
        intro B hA hB h
        cases B with
        | nil => unfold Lib.joinTail at h; simp at h
        | cons y B =>
          unfold Lib.joinTail at h
          simp only [List.map_cons, List.flatten_cons, List.append_assoc] at h
          have h' := List.append_cancel_left h
          obtain ⟨e1, e2⟩ := lit_cancel (hA x (by simp)) (hB y (by simp)) h'
          rw [e1, ih B (fun z hz => hA z (by simp [hz])) (fun z hz => hB z (by simp [hz])) e2]
    rw [key A B (fun z hz => hA z (by simp [hz])) (fun z hz => hB z (by simp [hz])) e2]
theorem textL_head {L : List Lt} (h : L ≠ []) : ∃ r, textL L = 117 :: r := by
  unfold textL
  rw [if_neg h]
  cases L with
  | nil => exact absurd rfl h
  | cons x r => rw [List.map_cons, Lib.join_cons]; exact ⟨_, rfl⟩
theorem text_inj {A B : List Lt} (hA : ∀ x ∈ A, 0 ≤ x.1) (hB : ∀ x ∈ B, 0 ≤ x.1) (h : textL A = textL B) : A = B := by
  by_cases a : A = []
  · by_cases b : B = []
    · rw [a, b]
    · obtain ⟨r, hr⟩ := textL_head b
      rw [hr, a] at h
      exact absurd h (by simp [textL])
  · by_cases b : B = []
    · obtain ⟨r, hr⟩ := textL_head a
      rw [hr, b] at h
      exact absurd h (by simp [textL])
    · unfold textL at h
      rw [if_neg a, if_neg b] at h
      exact join_inj a b hA hB h

end Go.Proofs.YtljgcjmelmpgoaaDoor
