/- The reference: Status. -/
import Derived.Test.YtljgcjmelmpgoaaDoorQ4
namespace Go.Proofs.YtljgcjmelmpgoaaDoor
open Go.RowKit
set_option linter.unusedVariables false

/-- the state of a clause's rest: i literals are past, c of them open, the last of these at place a -/
def stat (P : List Int) : List Lt → Nat → Nat → Int → Int × Int
  | [], _, c, a => if c = 0 then (2, -1) else if c = 1 then (3, a) else (4, -1)
  | x :: r, i, c, a => if lval P x = 1 then (1, -1) else if lval P x = 0 then stat P r (i + 1) (c + 1) (i : Int) else stat P r (i + 1) c a
/-- the state of a clause, and the place of its only open literal -/
def status (P : List Int) (L : List Lt) : Int × Int := if vld L then stat P L 0 0 (-1) else (0, -1)
theorem stat_step {P : List Int} {L : List Lt} {i c : Nat} {a : Int} {x : Lt} (h : i < L.length) (hx : L.getD i d0 = x) : stat P (L.drop i) i c a = if lval P x = 1 then (1, -1) else if lval P x = 0 then stat P (L.drop (i + 1)) (i + 1) (c + 1) (i : Int) else stat P (L.drop (i + 1)) (i + 1) c a := by
  rw [drop_at h, hx]; rfl
theorem stat_end {P : List Int} {L : List Lt} {i c : Nat} {a : Int} (h : L.length ≤ i) : stat P (L.drop i) i c a = if c = 0 then (2, -1) else if c = 1 then (3, a) else (4, -1) := by
  rw [List.drop_of_length_le h]; rfl
set_option maxHeartbeats 2000000 in
set_option maxRecDepth 100000 in
theorem rstatus_c (ad : Option Addr) (n cap : Nat) (L : List Lt) (a1 : Option Addr) (n1 c1 : Nat) (P : List Int) (w : World) (hs : SlL w ad n cap L) (h1 : SlI w a1 n1 c1 P) :
    Calls Tryd.prog 26 #[.slice ad n cap, .slice a1 n1 c1] w fun e w' => e = .returned (.tuple #[.int .i64 (status P L).1, .int .i64 (status P L).2]) ∧ Below w.heap.size w w' := by
  have HS := Lib.hid hs
  have H1 := Lib.hid h1
  have hcap : n ≤ 9223372036854775807 := by have := hs.2.1; have := hs.2.2.1; omega
  clear hs h1
  obtain ⟨R, hR⟩ : ∃ R, status P L = R := ⟨_, rfl⟩
  rw [hR]
  have HR := Lib.hid hR
  clear hR
  go_enter Tryd.func26, Tryd.ntmps26
  go_wp2_with fail
  refine (rvalid_c ad n cap L w HS.out).mono ?_
  rintro e w1 ⟨rfl, hb1⟩
  have B1 := Lib.hid hb1; clear hb1
  cases hv : vld L with
  | false =>
    have HE : Hid (((0 : Int), (-1 : Int)) = R) := Lib.hid (by rw [← HR.out]; unfold status; rw [hv]; rfl)
    clear hv
    go_wp2
    refine bodyPost_ret (results_tmp2 rfl _ _ _) rfl ?_
    exact ⟨by rw [← HE.out]; rfl, B1.out⟩
  | true =>
    have HE : Hid (stat P L 0 0 (-1) = R) := Lib.hid (by rw [← HR.out]; unfold status; rw [hv]; rfl)
    clear hv
    go_wp2
    go_loopw [6, 7, 8] (fun s6 s7 s wr => ∃ (i c : Nat) (a : Int), i ≤ n ∧ s = .int .i64 (i : Nat) ∧ s6 = .int .i64 (c : Nat) ∧ s7 = .int .i64 a ∧ c ≤ i ∧ Hid (stat P (L.drop i) i c a = R) ∧ Hid (Below w.heap.size w wr)) (fun _ _ s _ => n - (intOf s).toNat)
    case atStart => exact ⟨0, 0, -1, by omega, rfl, rfl, rfl, by omega, HE, B1⟩
    case round =>
      clear HE
      obtain ⟨i, c, a, hi, rfl, rfl, rfl, hci, HF, HB⟩ := hrel
      by_cases hlt : i < n
      · obtain ⟨b, off, rfl, hb, hc⟩ := (HS.out.below HB.out).at (by omega)
        obtain ⟨k0, k1⟩ := hc i hlt
        clear hc
        obtain ⟨u, hu⟩ : ∃ u, (L.getD i d0).1 = u := ⟨_, rfl⟩
        obtain ⟨o, ho⟩ : ∃ o, (L.getD i d0).2 = o := ⟨_, rfl⟩
        rw [hu] at k0
        rw [ho] at k1
        have HST := Lib.hid (stat_step (P := P) (c := c) (a := a) (x := (u, o)) (by rw [HS.out.1]; exact hlt) (by rw [← hu, ← ho]))
        clear hu ho
        have hi0 : (0 : Int) ≤ (i : Int) := by omega
        have hi1 : (i : Int) < (n : Int) := by omega
        go_wp2_with fail
        refine (value_c u o a1 n1 c1 P wr (H1.out.below HB.out)).mono ?_
        rintro e w2 ⟨rfl, hb2⟩
        have B2 := Lib.hid (HB.out.trans (hb2.mono HB.out.size))
        clear hb2 k0 k1 hb
        by_cases hv1 : lval P (u, o) = 1
        · have HE : Hid (((1 : Int), (-1 : Int)) = R) := Lib.hid (by rw [← HF.out, HST.out, if_pos hv1])
          rw [hv1]
          clear hv1
          go_wp2
          refine bodyPost_ret (results_tmp2 rfl _ _ _) rfl ?_
          exact ⟨by rw [← HE.out]; rfl, B2.out⟩
        · by_cases hv0 : lval P (u, o) = 0
          · have HE : Hid (stat P (L.drop (i + 1)) (i + 1) (c + 1) (i : Int) = R) := Lib.hid (by rw [← HF.out, HST.out, if_neg hv1, if_pos hv0])
            rw [hv0]
            clear hv1 hv0
            go_wp2
            go_roundw
            case rel => exact ⟨i + 1, c + 1, (i : Int), by omega, by go_num, by go_num, rfl, by omega, HE, B2⟩
            case measure => simp [intOf]; omega
          · have HE : Hid (stat P (L.drop (i + 1)) (i + 1) c a = R) := Lib.hid (by rw [← HF.out, HST.out, if_neg hv1, if_neg hv0])
            obtain ⟨z, hz⟩ : ∃ z, lval P (u, o) = z := ⟨_, rfl⟩
            rw [hz] at hv1 hv0 ⊢
            have q1 : (z == 1) = false := by rw [beq_eq_false_iff_ne]; exact hv1
            have q0 : (z == 0) = false := by rw [beq_eq_false_iff_ne]; exact hv0
            clear hz hv1 hv0
            go_wp2
            go_roundw
            case rel => exact ⟨i + 1, c, a, by omega, by go_num, rfl, rfl, by omega, HE, B2⟩
            case measure => simp [intOf]; omega
      · have hF := HF.out
        rw [stat_end (by rw [HS.out.1]; omega)] at hF
        by_cases hc0 : c = 0
        · rw [if_pos hc0] at hF
          have HE := Lib.hid hF
          subst hc0
          clear hF
          go_wp2
          refine bodyPost_ret (results_tmp2 rfl _ _ _) rfl ?_
          exact ⟨by rw [← HE.out]; rfl, HB.out⟩
        · rw [if_neg hc0] at hF
          by_cases hc1 : c = 1
          · rw [if_pos hc1] at hF
            have HE := Lib.hid hF
            subst hc1
            clear hF hc0
            go_wp2
            refine bodyPost_ret (results_tmp2 rfl _ _ _) rfl ?_
            exact ⟨by rw [← HE.out]; rfl, HB.out⟩
          · rw [if_neg hc1] at hF
            have HE := Lib.hid hF
            have q0 : ((c : Int) == 0) = false := by rw [beq_eq_false_iff_ne]; omega
            have q1 : ((c : Int) == 1) = false := by rw [beq_eq_false_iff_ne]; omega
            clear hF hc0 hc1
            go_wp2
            refine bodyPost_ret (results_tmp2 rfl _ _ _) rfl ?_
            exact ⟨by rw [← HE.out]; rfl, HB.out⟩

end Go.Proofs.YtljgcjmelmpgoaaDoor
