/- The law ScheduleOrder. -/
import Derived.Test.YtigokfcoofbdlaaS12
namespace Go.Proofs.Ytigokfcoofbdlaa
open Go.RowKit
set_option linter.unusedVariables false

theorem ints_nat {l : List Int} (h : ∀ k, k < l.length → 1 ≤ l.getD k 0) : ints (l.map Int.toNat) = l := by
  unfold ints
  rw [List.map_map]
  refine (List.map_congr_left fun x hx => ?_).trans (List.map_id l)
  obtain ⟨k, hk, e⟩ := List.getElem_of_mem hx
  have := h k hk
  rw [List.getD_eq_getElem?_getD, List.getElem?_eq_getElem hk, Option.getD_some, e] at this
  show ((x.toNat : Nat) : Int) = x
  omega
theorem sum_le {c : Nat} : ∀ (L : List Nat), (∀ k, k < L.length → L.getD k 0 ≤ c) → L.sum ≤ c * L.length
  | [], _ => by simp
  | x :: L, h => by
    have h0 := h 0 (by simp)
    have h1 := sum_le (c := c) L (fun k hk => by have := h (k + 1) (by simp; omega); simpa using this)
    simp at h0
    rw [List.sum_cons, List.length_cons, Nat.mul_succ]
    omega
/-- counts that are all at least 1 and at most 50 -/
theorem nats_of {l : List Int} {n : Nat} (hl : l.length = n) (hn : n ≤ 12) (h1 : ∀ k, k < n → l.getD k 0 ≤ 50) (h2 : ∀ k, k < n → 1 ≤ l.getD k 0) :
    ∃ L : List Nat, ints L = l ∧ L.length = n ∧ (∀ i, i < n → 0 < L.getD i 0) ∧ L.sum ≤ 600 := by
  have hi := ints_nat (l := l) (fun k hk => h2 k (by omega))
  have hg : ∀ k, ((l.map Int.toNat).getD k 0 : Int) = l.getD k 0 := fun k => by rw [← ints_at, hi]
  refine ⟨l.map Int.toNat, hi, by simpa using hl, fun i hk => by have := hg i; have := h2 i hk; omega, ?_⟩
  have := sum_le (c := 50) (l.map Int.toNat) (fun k hk => by have := hg k; have := h1 k (by simp at hk; omega); omega)
  rw [List.length_map, hl] at this
  omega
set_option maxHeartbeats 2000000 in
set_option maxRecDepth 100000 in
theorem law_order (a0 : Option Addr) (n0 c0 : Nat) (l0 : List Int) (a1 : Option Addr) (n1 c1 : Nat) (S : List Nat) (most : Int) (w : World) (h0 : SlI w a0 n0 c0 l0) (z0 : a0 = none → n0 = 0 ∧ c0 = 0) (h1 : SlS w a1 n1 c1 S) (hS : ∀ i, S.getD i 0 < 256) :
    Calls Try.prog 3 #[.slice a0 n0 c0, .slice a1 n1 c1, .int .i64 most] w fun e w' => e = .returned (.bool true) ∧ Below w.heap.size w w' := by
  have H0 := Lib.hid h0; clear h0
  have H1 := Lib.hid h1; clear h1
  have HZ := Lib.hid z0; clear z0
  have HSB := Lib.hid hS; clear hS
  go_enter Try.func3, Try.ntmps3
  go_wp2_with fail
  refine (awake_c w).mono ?_
  rintro e w1 ⟨rfl, hb1⟩
  have B1 := Lib.hid hb1; clear hb1
  go_wp2_with fail
  refine (large_c a0 n0 c0 l0 a1 n1 c1 w1 (H0.out.below B1.out)).mono ?_
  rintro e w' ⟨⟨b, rfl, hb⟩, rfl⟩
  cases b with
  | true =>
    clear hb
    go_wp2
    refine bodyPost_ret (results_tmp rfl _ _ _) rfl ?_
    exact ⟨rfl, B1.out⟩
  | false =>
    obtain ⟨hn0, hn1, hle⟩ := hb rfl
    have HLE := Lib.hid hle
    clear hb hle
    by_cases hbad : most < 0 ∨ ∃ i, i < n0 ∧ l0.getD i 0 < 1
    · have HB := Lib.hid hbad; clear hbad
      go_wp2_with fail
      refine (order_neg a0 n0 c0 l0 a1 n1 c1 most w1 (H0.out.below B1.out) HB.out).mono ?_
      rintro e w2 ⟨v1, rfl, ho, hb2⟩
      have B2 := Lib.hid (B1.out.trans (hb2.mono B1.out.size))
      obtain ⟨oa, oc, rfl⟩ := ho.slice
      have T2 : Hid (SlI w2 oa 0 oc []) := Lib.hid (ho.sl rfl)
      clear ho hb2
      go_wp2_with fail
      refine (refOrder_neg a0 n0 c0 l0 a1 n1 c1 most w2 (H0.out.below B2.out) HB.out).mono ?_
      rintro e w' ⟨rfl, rfl⟩
      go_wp2_with fail
      refine (same_c oa 0 oc [] none 0 0 [] w2 T2.out (SlI.nil _ _ _ (by omega))).mono ?_
      rintro e w3 ⟨rfl, hb3⟩
      rw [show decide (([] : List Int) = []) = true from by decide]
      have B3 := Lib.hid (B2.out.trans (hb3.mono B2.out.size))
      clear hb3
      go_wp2
      refine bodyPost_ret (results_tmp rfl _ _ _) rfl ?_
      exact ⟨rfl, B3.out⟩
    · have hm : 0 ≤ most := by
        rcases Int.lt_or_le most 0 with h | h
        · exact absurd (Or.inl h) hbad
        · exact h
      obtain ⟨L, rfl, hL, hp, hsum⟩ := nats_of H0.out.1 hn0 HLE.out (fun k hk => by
        rcases Int.lt_or_le (l0.getD k 0) 1 with h | h
        · exact absurd (Or.inr ⟨k, hk, h⟩) hbad
        · exact h)
      have HL := Lib.hid hL; have HP := Lib.hid hp; have HSm := Lib.hid hsum
      clear hbad hL hp hsum
      go_wp2_with fail
      refine (order_c a0 n0 c0 L a1 n1 c1 S most w1 (H0.out.below B1.out) HZ.out HL.out HP.out hn0 HSm.out (h1 := H1.out.below B1.out) HSB.out hm).mono ?_
      rintro e w2 ⟨v1, rfl, ho, hb2⟩
      obtain ⟨R, hR⟩ : ∃ R, ord S most L.sum L (-1) [] = R := ⟨_, rfl⟩
      rw [hR] at ho ⊢
      have HR := Lib.hid hR; clear hR
      have B2 := Lib.hid (B1.out.trans (hb2.mono B1.out.size))
      obtain ⟨oa, oc, rfl⟩ := ho.slice
      have T2 := Lib.hid (ho.sl rfl)
      clear ho hb2
      go_wp2_with fail
      refine (refOrder_c a0 n0 c0 L a1 n1 c1 S most w2 (H0.out.below B2.out) HZ.out HL.out HP.out hn0 HSm.out (H1.out.below B2.out) HSB.out hm).mono ?_
      rintro e w3 ⟨v2, rfl, ho, hb3⟩
      rw [HR.out] at ho ⊢
      have B3 := Lib.hid (B2.out.trans (hb3.mono B2.out.size))
      have T3 := Lib.hid (T2.out.below hb3)
      obtain ⟨ra, rc, rfl⟩ := ho.slice
      have U3 := Lib.hid (ho.sl rfl)
      clear ho hb3 T2
      go_wp2_with fail
      refine (same_c oa _ oc _ ra _ rc _ w3 T3.out U3.out).mono ?_
      rintro e w4 ⟨rfl, hb4⟩
      rw [decide_eq_true rfl]
      have B4 := Lib.hid (B3.out.trans (hb4.mono B3.out.size))
      clear hb4
      go_wp2
      refine bodyPost_ret (results_tmp rfl _ _ _) rfl ?_
      exact ⟨rfl, B4.out⟩

end Go.Proofs.Ytigokfcoofbdlaa
