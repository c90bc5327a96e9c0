/- Laws: Implies. -/
import Derived.Test.YtljgcjmelmpgoaaDoorQ34
namespace Go.Proofs.YtljgcjmelmpgoaaDoor
open Go.RowKit
set_option linter.unusedVariables false

theorem lval3 (P : List Int) (x : Lt) : lval P x = 1 ∨ lval P x = 0 ∨ lval P x = -1 := by
  unfold lval
  split
  · exact .inr (.inl rfl)
  · split
    · split
      · exact .inl rfl
      · exact .inr (.inr rfl)
    · split
      · split
        · exact .inr (.inr rfl)
        · exact .inl rfl
      · exact .inr (.inl rfl)
theorem stat_sat {P : List Int} : ∀ {L : List Lt} {i c : Nat} {a : Int}, (stat P L i c a).1 = 1 → ∃ x ∈ L, lval P x = 1
  | [], i, c, a, h => by
    unfold stat at h
    split at h
    · cases h
    · split at h <;> cases h
  | x :: r, i, c, a, h => by
    unfold stat at h
    split at h
    · rename_i h1; exact ⟨x, by simp, h1⟩
    · split at h
      · obtain ⟨y, hy, e⟩ := stat_sat h; exact ⟨y, by simp [hy], e⟩
      · obtain ⟨y, hy, e⟩ := stat_sat h; exact ⟨y, by simp [hy], e⟩
theorem stat_false {P : List Int} : ∀ {L : List Lt} {i c : Nat} {a : Int}, (stat P L i c a).1 = 2 → c = 0 ∧ ∀ x ∈ L, lval P x = -1
  | [], i, c, a, h => by
    unfold stat at h
    split at h
    · rename_i h1; exact ⟨h1, fun x hx => by cases hx⟩
    · split at h <;> cases h
  | x :: r, i, c, a, h => by
    unfold stat at h
    split at h
    · cases h
    · rename_i h1
      split at h
      · have := (stat_false h).1; omega
      · rename_i h2
        obtain ⟨e1, e2⟩ := stat_false h
        refine ⟨e1, fun y hy => ?_⟩
        rcases List.mem_cons.1 hy with rfl | hy
        · rcases lval3 P y with h | h | h
          · exact absurd h h1
          · exact absurd h h2
          · exact h
        · exact e2 y hy
theorem stat_unit {P : List Int} : ∀ {L : List Lt} {i c : Nat} {a : Int}, (stat P L i c a).1 = 3 → (c = 1 ∧ (stat P L i c a).2 = a ∧ ∀ x ∈ L, lval P x = -1) ∨ (c = 0 ∧ ∃ j, j < L.length ∧ (stat P L i c a).2 = ((i + j : Nat) : Int) ∧ ∀ k, k < L.length → k ≠ j → lval P (L.getD k d0) = -1)
  | [], i, c, a, h => by
    unfold stat at h ⊢
    split at h
    · cases h
    · rename_i h0
      split at h
      · rename_i h1
        left
        rw [if_neg h0, if_pos h1]
        exact ⟨h1, rfl, fun x hx => by cases hx⟩
      · cases h
  | x :: r, i, c, a, h => by
    unfold stat at h ⊢
    split at h
    · cases h
    · rename_i h1
      split at h
      · rename_i h2
        rw [if_neg h1, if_pos h2]
        rcases stat_unit h with ⟨e1, e2, e3⟩ | ⟨e1, _⟩
        · right
          refine ⟨by omega, 0, by simp, by rw [e2]; simp, fun k hk hne => ?_⟩
          cases k with
          | zero => exact absurd rfl hne
          | succ k =>
            have hk' : k < r.length := by simpa using hk
            exact e3 _ (by simpa using mem_at hk' rfl)
        · omega
      · rename_i h2
        rw [if_neg h1, if_neg h2]
        have hx : lval P x = -1 := by
          rcases lval3 P x with h | h | h
          · exact absurd h h1
          · exact absurd h h2
          · exact h
        rcases stat_unit h with ⟨e1, e2, e3⟩ | ⟨e1, j, hj, e2, e3⟩
        · left
          refine ⟨e1, e2, fun y hy => ?_⟩
          rcases List.mem_cons.1 hy with rfl | hy
          · exact hx
          · exact e3 y hy
        · right
          refine ⟨e1, j + 1, by simpa using hj, by rw [e2]; congr 1; omega, fun k hk hne => ?_⟩
          cases k with
          | zero => exact hx
          | succ k => exact e3 k (by simpa using hk) (by omega)
/-- an assignment agrees with phases -/
def fitAt (bits : Int) (p : Int) (k : Nat) : Prop := (p = 1 → bitOn bits (k : Int) = true) ∧ (p = 2 → bitOn bits (k : Int) = false)
def Fits (bits : Int) (P : List Int) : Prop := ∀ k, k < P.length → fitAt bits (P.getD k 0) k
theorem lval_bit {bits : Int} {P : List Int} {x : Lt} (hf : Fits bits P) : (lval P x = 1 → bitOn bits x.1 = x.2) ∧ (lval P x = -1 → bitOn bits x.1 = !x.2) := by
  obtain ⟨u, o⟩ := x
  unfold lval
  split
  · exact ⟨(fun h => by cases h), (fun h => by cases h)⟩
  · rename_i hr
    obtain ⟨k, rfl⟩ : ∃ k : Nat, u = k := ⟨u.toNat, by omega⟩
    have hk : k < P.length := by omega
    have := hf k hk
    unfold fitAt at this
    simp only [Int.toNat_natCast]
    split
    · rename_i h1
      have hb := this.1 h1
      cases o <;> simp [hb]
    · split
      · rename_i h2
        have hb := this.2 h2
        cases o <;> simp [hb]
      · simp
theorem sat_holds {bits : Int} {P : List Int} {L : List Lt} (hf : Fits bits P) (hv : vld L = true) (h : (status P L).1 = 1) : holdsL bits L = true := by
  unfold status at h
  rw [if_pos hv] at h
  obtain ⟨x, hx, e⟩ := stat_sat h
  exact holds_iff.2 ⟨x, hx, (lval_bit hf).1 e⟩
theorem false_holds {bits : Int} {P : List Int} {L : List Lt} (hf : Fits bits P) (hv : vld L = true) (h : (status P L).1 = 2) : holdsL bits L = false := by
  unfold status at h
  rw [if_pos hv] at h
  rw [← Bool.not_eq_true, holds_iff]
  rintro ⟨x, hx, e⟩
  have := (lval_bit hf).2 ((stat_false h).2 x hx)
  rw [e] at this
  cases hq : x.2 <;> rw [hq] at this <;> cases this
theorem unit_at {P : List Int} {L : List Lt} (hv : vld L = true) (h : (status P L).1 = 3) : ∃ j, j < L.length ∧ (status P L).2 = (j : Int) ∧ ∀ k, k < L.length → k ≠ j → lval P (L.getD k d0) = -1 := by
  unfold status at h ⊢
  rw [if_pos hv] at h ⊢
  rcases stat_unit h with ⟨e1, _⟩ | ⟨_, j, hj, e2, e3⟩
  · omega
  · exact ⟨j, hj, by rw [e2]; congr 1; omega, e3⟩
theorem unit_holds {bits : Int} {P : List Int} {L : List Lt} {j : Nat} (hf : Fits bits P) (hj : j < L.length) (h : ∀ k, k < L.length → k ≠ j → lval P (L.getD k d0) = -1) : holdsL bits L = (bitOn bits (L.getD j d0).1 == (L.getD j d0).2) := by
  rw [Bool.eq_iff_iff, holds_iff]
  constructor
  · rintro ⟨x, hx, e⟩
    obtain ⟨k, hk, rfl⟩ := List.getElem_of_mem hx
    have hg : L.getD k d0 = L[k] := by rw [List.getD_eq_getElem?_getD, List.getElem?_eq_getElem hk]; rfl
    by_cases hkj : k = j
    · subst hkj; rw [hg]; simpa using e
    · have := (lval_bit hf).2 (h k hk hkj)
      rw [hg, e] at this
      cases hq : (L[k]).2 <;> rw [hq] at this <;> cases this
  · intro e
    exact ⟨_, mem_at hj rfl, by simpa using e⟩
theorem bit01 : ∀ i, i < 64 → ∀ k, k < 6 → (Go.bits .and .i64 ((i : Nat) / 2 ^ (k : Nat) : Int) 1 == 0) = !(Go.bits .and .i64 ((i : Nat) / 2 ^ (k : Nat) : Int) 1 == 1) := by decide +kernel
theorem bitOn_nat (bits : Int) (k : Nat) (h : k < 32) : bitOn bits (k : Int) = (Go.bits .and .i64 (bits / 2 ^ k) 1 == 1) := by
  unfold bitOn
  rw [show ((k : Int) % 32).toNat = k by omega]
def FitTo (f : Bool) (bits : Int) (P : List Int) (u : Nat) : Prop := f = true ↔ ∀ k, k < u → fitAt bits (P.getD k 0) k
theorem FitTo.step {f g : Bool} {bits : Int} {P : List Int} {u : Nat} {p : Int} (h : FitTo f bits P u) (hp : P.getD u 0 = p) (hg : g = true ↔ f = true ∧ fitAt bits p u) : FitTo g bits P (u + 1) := by
  unfold FitTo at h ⊢
  rw [hg]
  constructor
  · rintro ⟨h1, h2⟩ k hk
    by_cases hku : k = u
    · rw [hku, hp]; exact h2
    · exact h.1 h1 k (by omega)
  · intro h3
    exact ⟨h.2 (fun k hk => h3 k (by omega)), by rw [← hp]; exact h3 u (by omega)⟩
theorem SlC.one {w' : World} {a0 : Option Addr} {n0 c0 : Nat} {A : List Lt} {g : Nat} (hg : w'.heap[g]? = some (.cells #[.slice a0 n0 c0] 24 (0, 0))) (h0 : SlL w' a0 n0 c0 A) :
    SlC w' (some ⟨g, 0, none⟩) 1 1 [((a0, n0, c0), A)] := by
  refine ⟨⟨rfl, Nat.le_refl _, by omega, .inr ⟨g, 0, rfl, lt_of_block hg, fun i hi => ?_⟩⟩, fun x hx => ?_⟩
  · rw [cell_of_row w' g _ _ 24 (0, 0) hg, Nat.zero_add]
    match i, hi with
    | 0, _ => rfl
  · simp at hx
    rcases hx with rfl
    exact h0

set_option maxHeartbeats 16000000 in
set_option maxRecDepth 100000 in
theorem lawImplies (a0 : Option Addr) (n0 c0 : Nat) (A : List Lt) (a1 : Option Addr) (n1 c1 : Nat) (P : List Int) (w : World) (h0 : SlL w a0 n0 c0 A) (h1 : SlI w a1 n1 c1 P) :
    Calls Tryd.prog 8 #[.slice a0 n0 c0, .slice a1 n1 c1] w fun e w' => e = .returned (.bool true) ∧ Below w.heap.size w w' := by
  have H0 := Lib.hid h0
  have H1 := Lib.hid h1
  have hcap : n0 ≤ 9223372036854775807 := by have := h0.2.1; have := h0.2.2.1; omega
  clear h0 h1
  go_enter Tryd.func8, Tryd.ntmps8
  go_wp2_with fail
  refine Calls.mono (awake_c w) ?_
  rintro e w1 ⟨rfl, hb1⟩
  have B1 := Lib.hid hb1
  clear hb1
  have B2 := Lib.hid (B1.out.alloc B1.out.size (.cells #[.slice a0 n0 c0] 24))
  have K2 := Lib.hid (SlC.one (heap_alloc_new w1 (.cells #[.slice a0 n0 c0] 24)) (H0.out.below B2.out))
  go_wp2_with fail
  refine Calls.mono (small_c _ 1 1 _ _ K2.out) ?_
  rintro e w3 ⟨rfl, hb3⟩
  have B3 := Lib.hid (B2.out.trans (hb3.mono B2.out.size))
  rw [show smallC [((a0, n0, c0), A)] = smallL A by simp [smallC]]
  clear hb3 K2 B2
  cases hs : smallL A with
  | false =>
    clear hs
    go_wp2
    refine bodyPost_ret (results_tmp rfl _ _ _) rfl ?_
    exact ⟨rfl, B3.out⟩
  | true =>
    have HSA := Lib.hid hs
    clear hs
    by_cases g1 : (6 : Int) < (n1 : Int)
    · go_wp2
      refine bodyPost_ret (results_tmp rfl _ _ _) rfl ?_
      exact ⟨rfl, B3.out⟩
    · have g1' : decide ((6 : Int) < (n1 : Int)) = false := decide_eq_false g1
      have l1 : n1 ≤ 6 := by omega
      clear g1
      go_wp2_with fail
      refine Calls.mono (rvalid_c a0 n0 c0 A w3 (H0.out.below B3.out)) ?_
      rintro e w4 ⟨rfl, hb4⟩
      have B4 := Lib.hid (B3.out.trans (hb4.mono B3.out.size))
      clear hb4
      cases hA : vld A with
      | false =>
        clear hA
        go_wp2
        refine bodyPost_ret (results_tmp rfl _ _ _) rfl ?_
        exact ⟨rfl, B4.out⟩
      | true =>
        have HA := Lib.hid hA
        clear hA
        go_wp2_with fail
        refine Calls.mono (status_c a0 n0 c0 A a1 n1 c1 P w4 (H0.out.below B4.out) (H1.out.below B4.out)) ?_
        rintro e w5 ⟨rfl, hb5⟩
        have B5 := Lib.hid (B4.out.trans (hb5.mono B4.out.size))
        clear hb5
        obtain ⟨s, hs⟩ : ∃ s, status P A = s := ⟨_, rfl⟩
        have HS := Lib.hid hs
        rw [hs]
        clear hs
        obtain ⟨s1, s2⟩ := s
        by_cases e3 : s1 = 3
        · obtain ⟨j, hj, hj2, hju⟩ := unit_at (P := P) HA.out (by rw [HS.out]; exact e3)
          rw [HS.out] at hj2
          simp only at hj2
          subst e3 hj2
          have HJL := Lib.hid hj
          have HJU := Lib.hid hju
          have hjn : j < n0 := by rw [← H0.out.1]; exact hj
          clear hj hju
          have hq0 : decide ((j : Int) < 0) = false := decide_eq_false (by omega)
          have hq1 : decide (n0 ≤ j) = false := decide_eq_false (by omega)
          have hq2 : decide ((n0 : Int) ≤ (j : Int)) = false := decide_eq_false (by omega)
          go_wp2
          go_loopw [7, 8, 9, 10, 11, 46] (fun s7 s8 s9 s10 s11 t wr => ∃ (i : Nat), i ≤ 64 ∧ t = .int .i64 (i : Nat) ∧ Hid (Below w5.heap.size w5 wr)) (fun _ _ _ _ _ t _ => 64 - (RowKit.intOf t).toNat)
          case atStart => exact ⟨0, by omega, rfl, Lib.hid (Below.refl _ _)⟩
          case round =>
            obtain ⟨i, hi, rfl, HBL⟩ := hrel
            have BW := Lib.hid (B5.out.trans (HBL.out.mono B5.out.size))
            by_cases hlt : i < 64
            · have hi0 : (0 : Int) ≤ (i : Int) := by omega
              have hi1 : (i : Int) < 64 := by omega
              go_wp2
              go_loopw [8, 9, 10, 51] (fun s8 s9 s10 t ww => ∃ (u : Nat) (f : Bool), u ≤ n1 ∧ t = .int .i64 (u : Nat) ∧ s8 = .bool f ∧ Hid (FitTo f (i : Int) P u) ∧ Hid (Below wr.heap.size wr ww)) (fun _ _ _ t _ => n1 - (RowKit.intOf t).toNat)
              case atStart => exact ⟨0, true, by omega, rfl, rfl, Lib.hid ⟨fun _ k hk => absurd hk (Nat.not_lt_zero k), fun _ => rfl⟩, Lib.hid (Below.refl _ _)⟩
              case round =>
                obtain ⟨u, f, hu, rfl, rfl, HF, HB2⟩ := hrel
                have BW2 := Lib.hid (BW.out.trans (HB2.out.mono BW.out.size))
                by_cases hlt2 : u < n1
                · obtain ⟨b, off, rfl, hb, hc⟩ := (H1.out.below BW2.out).at (by omega)
                  have k0 := hc u hlt2
                  clear hc
                  obtain ⟨p, hp⟩ : ∃ p, P.getD u 0 = p := ⟨_, rfl⟩
                  rw [hp] at k0
                  have HP := Lib.hid hp
                  clear hp
                  have hu0 : (0 : Int) ≤ (u : Int) := by omega
                  have hu1 : (u : Int) < (n1 : Int) := by omega
                  have hu6 : u < 6 := by omega
                  cases f with
                  | false =>
                    have HN := Lib.hid (HF.out.step (g := false) HP.out (by simp))
                    go_wp2
                    go_roundw
                    case rel => exact ⟨u + 1, false, by omega, by go_num, rfl, HN, HB2⟩
                    case measure => simp [RowKit.intOf]; omega
                  | true =>
                    obtain ⟨v, hv⟩ : ∃ v, (Go.bits .and .i64 ((i : Int) / 2 ^ u) 1 == 1) = v := ⟨_, rfl⟩
                    have hv0 : (Go.bits .and .i64 ((i : Int) / 2 ^ u) 1 == 0) = !v := by rw [← hv]; exact bit01 i hlt u hu6
                    have HBT : Hid (bitOn (i : Int) (u : Int) = v) := Lib.hid (by rw [bitOn_nat _ _ (by omega)]; exact hv)
                    have HSTEP := Lib.hid (fun g hg => HF.out.step (g := g) HP.out hg)
                    by_cases p1 : p = 1
                    · subst p1
                      have HN := Lib.hid (HSTEP.out v (by unfold fitAt; rw [HBT.out]; simp))
                      cases v <;>
                        (go_wp2
                         go_roundw
                         case rel => exact ⟨u + 1, _, by omega, by go_num, rfl, HN, HB2⟩
                         case measure => simp [RowKit.intOf]; omega)
                    · by_cases p2 : p = 2
                      · subst p2
                        have HN := Lib.hid (HSTEP.out (!v) (by unfold fitAt; rw [HBT.out]; simp))
                        clear p1
                        cases v <;>
                          (go_wp2
                           go_roundw
                           case rel => exact ⟨u + 1, _, by omega, by go_num, rfl, HN, HB2⟩
                           case measure => simp [RowKit.intOf]; omega)
                      · have HN := Lib.hid (HSTEP.out true (by unfold fitAt; simp [p1, p2]))
                        have q1 : (p != 1) = true := by simpa using p1
                        have q2 : (p != 2) = true := by simpa using p2
                        clear p1 p2
                        go_wp2
                        go_roundw
                        case rel => exact ⟨u + 1, true, by omega, by go_num, rfl, HN, HB2⟩
                        case measure => simp [RowKit.intOf]; omega
                · have hne : ¬ (u : Int) < (n1 : Int) := by omega
                  have HFE : Hid (f = true ↔ Fits (i : Int) P) := Lib.hid (by
                    have h := HF.out
                    obtain rfl : u = n1 := by omega
                    unfold FitTo at h
                    unfold Fits
                    rw [H1.out.1]
                    exact h)
                  have BL2 := Lib.hid (HBL.out.trans (HB2.out.mono HBL.out.size))
                  cases f with
                  | false =>
                    clear HFE
                    go_wp2
                    go_roundw
                    case rel => exact ⟨i + 1, by omega, by go_num, BL2⟩
                    case measure => simp [RowKit.intOf]; omega
                  | true =>
                    have HFT := Lib.hid (HFE.out.1 rfl)
                    clear HFE
                    go_wp2_with fail
                    refine Calls.mono (holds_c a0 n0 c0 A i wr (H0.out.below BW2.out) (fun j hj => smallL_iff.1 HSA.out j (by rw [H0.out.1]; exact hj)) (fin_bits hlt)) ?_
                    rintro e w8 ⟨rfl, hb8⟩
                    have BL8 := Lib.hid (BL2.out.trans (hb8.mono BL2.out.size))
                    have BW8 := Lib.hid (B5.out.trans (BL8.out.mono B5.out.size))
                    clear hb8
                    have HH := Lib.hid (unit_holds HFT.out HJL.out HJU.out)
                    obtain ⟨b, off, rfl, hb, hc⟩ := (H0.out.below BW8.out).at (by omega)
                    obtain ⟨k0, k1⟩ := hc j hjn
                    clear hc
                    obtain ⟨u1, hu1⟩ : ∃ u, (A.getD j d0).1 = u := ⟨_, rfl⟩
                    obtain ⟨o, ho⟩ : ∃ o, (A.getD j d0).2 = o := ⟨_, rfl⟩
                    have hu6 := smallL_iff.1 HSA.out j HJL.out
                    rw [hu1, ho] at HH
                    rw [hu1] at k0 hu6
                    rw [ho] at k1
                    clear hu1 ho
                    obtain ⟨m, rfl⟩ : ∃ m : Nat, u1 = (m : Int) := ⟨u1.toNat, by omega⟩
                    obtain ⟨v, hv⟩ : ∃ v, (Go.bits .and .i64 ((i : Int) / 2 ^ m) 1 == 1) = v := ⟨_, rfl⟩
                    have HH2 : Hid (holdsL (i : Int) A = (v == o)) := Lib.hid (by rw [HH.out, bitOn_nat _ _ (by omega), hv])
                    have hm0 : (0 : Int) ≤ (m : Int) := by omega
                    have hj0 : (0 : Int) ≤ (j : Int) := by omega
                    have hj1 : (j : Int) < (n0 : Int) := by omega
                    clear hq0 hq1 hq2
                    rw [HH2.out]
                    have hmin : min m 64 = m := by omega
                    have hne2 : (!(v == o) == (v == o)) = false := by cases v <;> cases o <;> rfl
                    clear HH hu6
                    go_wp2
                    go_quiet (fail)
                    go_wp2
                    go_roundw
                    case rel => exact ⟨i + 1, by omega, by go_num, Lib.hid (below_drewN BL8.out _)⟩
                    case measure => simp [RowKit.intOf]; omega

            · have hne : ¬ (i : Int) < 64 := by omega
              go_wp2
              refine bodyPost_ret (results_tmp rfl _ _ _) rfl ?_
              exact ⟨rfl, BW.out⟩

        · have q3 : (s1 == 3) = false := by simpa using e3
          clear e3
          go_wp2
          go_loopw [7, 8, 9, 10, 11, 46] (fun s7 s8 s9 s10 s11 t wr => ∃ (i : Nat), i ≤ 64 ∧ t = .int .i64 (i : Nat) ∧ Hid (Below w5.heap.size w5 wr)) (fun _ _ _ _ _ t _ => 64 - (RowKit.intOf t).toNat)
          case atStart => exact ⟨0, by omega, rfl, Lib.hid (Below.refl _ _)⟩
          case round =>
            obtain ⟨i, hi, rfl, HBL⟩ := hrel
            have BW := Lib.hid (B5.out.trans (HBL.out.mono B5.out.size))
            by_cases hlt : i < 64
            · have hi0 : (0 : Int) ≤ (i : Int) := by omega
              have hi1 : (i : Int) < 64 := by omega
              go_wp2
              go_loopw [8, 9, 10, 51] (fun s8 s9 s10 t ww => ∃ (u : Nat) (f : Bool), u ≤ n1 ∧ t = .int .i64 (u : Nat) ∧ s8 = .bool f ∧ Hid (FitTo f (i : Int) P u) ∧ Hid (Below wr.heap.size wr ww)) (fun _ _ _ t _ => n1 - (RowKit.intOf t).toNat)
              case atStart => exact ⟨0, true, by omega, rfl, rfl, Lib.hid ⟨fun _ k hk => absurd hk (Nat.not_lt_zero k), fun _ => rfl⟩, Lib.hid (Below.refl _ _)⟩
              case round =>
                obtain ⟨u, f, hu, rfl, rfl, HF, HB2⟩ := hrel
                have BW2 := Lib.hid (BW.out.trans (HB2.out.mono BW.out.size))
                by_cases hlt2 : u < n1
                · obtain ⟨b, off, rfl, hb, hc⟩ := (H1.out.below BW2.out).at (by omega)
                  have k0 := hc u hlt2
                  clear hc
                  obtain ⟨p, hp⟩ : ∃ p, P.getD u 0 = p := ⟨_, rfl⟩
                  rw [hp] at k0
                  have HP := Lib.hid hp
                  clear hp
                  have hu0 : (0 : Int) ≤ (u : Int) := by omega
                  have hu1 : (u : Int) < (n1 : Int) := by omega
                  have hu6 : u < 6 := by omega
                  cases f with
                  | false =>
                    have HN := Lib.hid (HF.out.step (g := false) HP.out (by simp))
                    go_wp2
                    go_roundw
                    case rel => exact ⟨u + 1, false, by omega, by go_num, rfl, HN, HB2⟩
                    case measure => simp [RowKit.intOf]; omega
                  | true =>
                    obtain ⟨v, hv⟩ : ∃ v, (Go.bits .and .i64 ((i : Int) / 2 ^ u) 1 == 1) = v := ⟨_, rfl⟩
                    have hv0 : (Go.bits .and .i64 ((i : Int) / 2 ^ u) 1 == 0) = !v := by rw [← hv]; exact bit01 i hlt u hu6
                    have HBT : Hid (bitOn (i : Int) (u : Int) = v) := Lib.hid (by rw [bitOn_nat _ _ (by omega)]; exact hv)
                    have HSTEP := Lib.hid (fun g hg => HF.out.step (g := g) HP.out hg)
                    by_cases p1 : p = 1
                    · subst p1
                      have HN := Lib.hid (HSTEP.out v (by unfold fitAt; rw [HBT.out]; simp))
                      cases v <;>
                        (go_wp2
                         go_roundw
                         case rel => exact ⟨u + 1, _, by omega, by go_num, rfl, HN, HB2⟩
                         case measure => simp [RowKit.intOf]; omega)
                    · by_cases p2 : p = 2
                      · subst p2
                        have HN := Lib.hid (HSTEP.out (!v) (by unfold fitAt; rw [HBT.out]; simp))
                        clear p1
                        cases v <;>
                          (go_wp2
                           go_roundw
                           case rel => exact ⟨u + 1, _, by omega, by go_num, rfl, HN, HB2⟩
                           case measure => simp [RowKit.intOf]; omega)
                      · have HN := Lib.hid (HSTEP.out true (by unfold fitAt; simp [p1, p2]))
                        have q1 : (p != 1) = true := by simpa using p1
                        have q2 : (p != 2) = true := by simpa using p2
                        clear p1 p2
                        go_wp2
                        go_roundw
                        case rel => exact ⟨u + 1, true, by omega, by go_num, rfl, HN, HB2⟩
                        case measure => simp [RowKit.intOf]; omega
                · have hne : ¬ (u : Int) < (n1 : Int) := by omega
                  have HFE : Hid (f = true ↔ Fits (i : Int) P) := Lib.hid (by
                    have h := HF.out
                    obtain rfl : u = n1 := by omega
                    unfold FitTo at h
                    unfold Fits
                    rw [H1.out.1]
                    exact h)
                  have BL2 := Lib.hid (HBL.out.trans (HB2.out.mono HBL.out.size))
                  cases f with
                  | false =>
                    clear HFE
                    go_wp2
                    go_roundw
                    case rel => exact ⟨i + 1, by omega, by go_num, BL2⟩
                    case measure => simp [RowKit.intOf]; omega
                  | true =>
                    have HFT := Lib.hid (HFE.out.1 rfl)
                    clear HFE
                    go_wp2_with fail
                    refine Calls.mono (holds_c a0 n0 c0 A i wr (H0.out.below BW2.out) (fun j hj => smallL_iff.1 HSA.out j (by rw [H0.out.1]; exact hj)) (fin_bits hlt)) ?_
                    rintro e w8 ⟨rfl, hb8⟩
                    have BL8 := Lib.hid (BL2.out.trans (hb8.mono BL2.out.size))
                    have BW8 := Lib.hid (B5.out.trans (BL8.out.mono B5.out.size))
                    clear hb8
                    by_cases e1 : s1 = 1
                    · have HH := Lib.hid (sat_holds HFT.out HA.out (by rw [HS.out]; exact e1))
                      rw [HH.out]
                      subst e1
                      go_wp2
                      go_quiet (fail)
                      go_wp2
                      go_roundw
                      case rel => exact ⟨i + 1, by omega, by go_num, Lib.hid (below_drewN BL8.out _)⟩
                      case measure => simp [RowKit.intOf]; omega
                    · have q1 : (s1 == 1) = false := by simpa using e1
                      by_cases e2 : s1 = 2
                      · have HH := Lib.hid (false_holds HFT.out HA.out (by rw [HS.out]; exact e2))
                        rw [HH.out]
                        subst e2
                        clear e1
                        go_wp2
                        go_quiet (fail)
                        go_wp2
                        go_roundw
                        case rel => exact ⟨i + 1, by omega, by go_num, Lib.hid (below_drewN BL8.out _)⟩
                        case measure => simp [RowKit.intOf]; omega
                      · have q2 : (s1 == 2) = false := by simpa using e2
                        clear e1 e2
                        go_wp2
                        go_quiet (fail)
                        go_wp2
                        go_roundw
                        case rel => exact ⟨i + 1, by omega, by go_num, Lib.hid (below_drewN BL8.out _)⟩
                        case measure => simp [RowKit.intOf]; omega

            · have hne : ¬ (i : Int) < 64 := by omega
              go_wp2
              refine bodyPost_ret (results_tmp rfl _ _ _) rfl ?_
              exact ⟨rfl, BW.out⟩

end Go.Proofs.YtljgcjmelmpgoaaDoor
