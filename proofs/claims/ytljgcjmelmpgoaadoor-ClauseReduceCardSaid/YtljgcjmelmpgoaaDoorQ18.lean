/- Holds. -/
import Derived.Test.YtljgcjmelmpgoaaDoorQ17
namespace Go.Proofs.YtljgcjmelmpgoaaDoor
open Go.RowKit
set_option linter.unusedVariables false

/-- whether a unit is on under bits -/
def bitOn (bits u : Int) : Bool := Go.bits .and .i64 (bits / 2 ^ (u % 32).toNat) 1 == 1
/-- whether a clause holds under bits -/
def holdsL (bits : Int) (L : List Lt) : Bool := L.any fun x => bitOn bits x.1 == x.2
theorem holdsL_yes {bits : Int} {L : List Lt} {i : Nat} (h : i < L.length) (he : (bitOn bits (L.getD i d0).1 == (L.getD i d0).2) = true) : holdsL bits L = true :=
  List.any_eq_true.2 ⟨L.getD i d0, mem_at h rfl, he⟩
theorem holdsL_no {bits : Int} {L : List Lt} (h : ∀ k, k < L.length → (bitOn bits (L.getD k d0).1 == (L.getD k d0).2) = false) : holdsL bits L = false := by
  unfold holdsL
  rw [List.any_eq_false]
  intro x hx
  obtain ⟨k, hk, e⟩ := List.getElem_of_mem hx
  have := h k hk
  rw [List.getD_eq_getElem?_getD, List.getElem?_eq_getElem hk, Option.getD_some, e] at this
  rw [this]; decide
set_option maxHeartbeats 2000000 in
set_option maxRecDepth 100000 in
theorem holds_c (a : Option Addr) (n c : Nat) (L : List Lt) (bits : Int) (w : World) (hs : SlL w a n c L) (hu6 : ∀ i, i < n → 0 ≤ (L.getD i d0).1 ∧ (L.getD i d0).1 < 6) (hbit : 0 ≤ bits ∧ bits < 64) :
    Calls Tryd.prog 22 #[.slice a n c, .int .i64 bits] w fun e w' => e = .returned (.bool (holdsL bits L)) ∧ Below w.heap.size w w' := by
  have HS := Lib.hid hs
  have H6 := Lib.hid hu6
  have hcap : n ≤ 9223372036854775807 := by have := hs.2.1; have := hs.2.2.1; omega
  clear hs hu6
  obtain ⟨V, hV⟩ : ∃ V, holdsL bits L = V := ⟨_, rfl⟩
  rw [hV]
  have HV := Lib.hid hV
  clear hV
  go_enter Tryd.func22, Tryd.ntmps22
  go_wp2
  go_loopw [5] (fun s wr => ∃ i : Nat, i ≤ n ∧ s = .int .i64 (i : Nat) ∧ Hid (∀ k, k < i → (bitOn bits (L.getD k d0).1 == (L.getD k d0).2) = false) ∧ Hid (Below w.heap.size w wr)) (fun s _ => n - (intOf s).toNat)
  case atStart => exact ⟨0, by omega, rfl, Lib.hid (fun k hk => absurd hk (Nat.not_lt_zero k)), Lib.hid (Below.refl _ _)⟩
  case round =>
    obtain ⟨i, hi, rfl, hno, HB⟩ := hrel
    by_cases hlt : i < n
    · obtain ⟨b, off, rfl, hb, hc⟩ := (HS.out.below HB.out).at (by omega)
      obtain ⟨k0, k1⟩ := hc i hlt
      obtain ⟨q0, q1⟩ := H6.out i hlt
      clear hc
      obtain ⟨u, hu⟩ : ∃ u, (L.getD i d0).1 = u := ⟨_, rfl⟩
      obtain ⟨o, ho⟩ : ∃ o, (L.getD i d0).2 = o := ⟨_, rfl⟩
      rw [hu] at k0 q0 q1
      rw [ho] at k1
      have HU := Lib.hid hu
      have HO := Lib.hid ho
      clear hu ho
      have hi0 : (0 : Int) ≤ (i : Int) := by omega
      have hi1 : (i : Int) < (n : Int) := by omega
      cases ht : (Go.bits .and .i64 (bits / 2 ^ (u % 32).toNat) 1 == 1) == o with
      | true =>
        have HN : Hid (V = true) := Lib.hid (by rw [← HV.out]; exact holdsL_yes (i := i) (by rw [HS.out.1]; exact hlt) (by rw [HU.out, HO.out]; exact ht))
        go_upto_region 4 with fail
        go_quiet (fail)
        go_wp2
        refine bodyPost_ret (results_tmp rfl _ _ _) rfl ?_
        exact ⟨by rw [HN.out]; rfl, below_drewN HB.out _⟩
      | false =>
        have HI : Hid (∀ k, k < i + 1 → (bitOn bits (L.getD k d0).1 == (L.getD k d0).2) = false) := Lib.hid (fun k hk => by
          by_cases hki : k = i
          · rw [hki, HU.out, HO.out]; exact ht
          · exact hno.out k (by omega))
        go_upto_region 4 with fail
        go_quiet (fail)
        go_wp2
        go_roundw
        case rel => exact ⟨i + 1, by omega, by go_num, HI, Lib.hid (below_drewN HB.out _)⟩
        case measure => simp [intOf]; omega
    · have HN : Hid (V = false) := Lib.hid (by rw [← HV.out]; exact holdsL_no (fun k hk => hno.out k (by rw [HS.out.1] at hk; omega)))
      go_wp2
      refine bodyPost_ret (results_tmp rfl _ _ _) rfl ?_
      exact ⟨by rw [HN.out]; rfl, HB.out⟩

end Go.Proofs.YtljgcjmelmpgoaaDoor
