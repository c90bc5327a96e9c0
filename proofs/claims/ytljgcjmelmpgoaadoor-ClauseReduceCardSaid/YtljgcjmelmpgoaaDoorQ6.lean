/- The program: Status. -/
import Derived.Test.YtljgcjmelmpgoaaDoorQ5
namespace Go.Proofs.YtljgcjmelmpgoaaDoor
open Go.RowKit
set_option linter.unusedVariables false

theorem vldFrom_gt : ∀ {L : List Lt} {last : Int}, vldFrom last L = true → ∀ x ∈ L, last < x.1 ∧ x.1 < 1024
  | [], _, _, x, hx => by cases hx
  | (u, o) :: r, last, h, x, hx => by
    have h' : (decide (last < u) && decide (u < 1024) && vldFrom u r) = true := h
    simp only [Bool.and_eq_true, decide_eq_true_eq] at h'
    rcases List.mem_cons.1 hx with e | e
    · subst e; exact h'.1
    · have := vldFrom_gt h'.2 x e
      omega
theorem vld_at {L : List Lt} (h : vld L = true) {i : Nat} (hi : i < L.length) : 0 ≤ (L.getD i d0).1 ∧ (L.getD i d0).1 < 1024 := by
  have := vldFrom_gt h _ (mem_at (x := L.getD i d0) hi rfl)
  omega
set_option maxHeartbeats 4000000 in
set_option maxRecDepth 100000 in
theorem status_c (ad : Option Addr) (n cap : Nat) (L : List Lt) (a1 : Option Addr) (n1 c1 : Nat) (P : List Int) (w : World) (hs : SlL w ad n cap L) (h1 : SlI w a1 n1 c1 P) :
    Calls Tryd.prog 25 #[.slice ad n cap, .slice a1 n1 c1] w fun e w' => e = .returned (.tuple #[.int .i64 (status P L).1, .int .i64 (status P L).2]) ∧ Below w.heap.size w w' := by
  have HS := Lib.hid hs
  have H1 := Lib.hid h1
  have hcap : n ≤ 9223372036854775807 := by have := hs.2.1; have := hs.2.2.1; omega
  have hcap1 : n1 ≤ 9223372036854775807 := by have := h1.2.1; have := h1.2.2.1; omega
  clear hs h1
  obtain ⟨R, hR⟩ : ∃ R, status P L = R := ⟨_, rfl⟩
  rw [hR]
  have HR := Lib.hid hR
  clear hR
  go_enter Tryd.func25, Tryd.ntmps25
  go_wp2_with fail
  refine (valid_c ad n cap L w HS.out).mono ?_
  rintro e w1 ⟨rfl, hb1⟩
  have B1 := Lib.hid hb1; clear hb1
  cases hv : vld L with
  | false =>
    have HE : Hid (((0 : Int), (-1 : Int)) = R) := Lib.hid (by rw [← HR.out]; unfold status; rw [hv]; rfl)
    clear hv
    go_wp2
    refine bodyPost_ret (results_tmp2 rfl _ _ _) rfl ?_
    exact ⟨by rw [← HE.out]; rfl, B1.out⟩
  | true =>
    have HE : Hid (stat P L 0 0 (-1) = R) := Lib.hid (by rw [← HR.out]; unfold status; rw [hv]; rfl)
    have HVL := Lib.hid hv
    clear hv
    go_wp2
    go_loopw [6, 7, 15] (fun s6 s7 s wr => ∃ (i c : Nat) (a : Int), i ≤ n ∧ s = .int .i64 (i : Nat) ∧ s6 = .int .i64 (c : Nat) ∧ s7 = .int .i64 a ∧ c ≤ i ∧ Hid (stat P (L.drop i) i c a = R) ∧ Hid (Below w.heap.size w wr)) (fun _ _ s _ => n - (intOf s).toNat)
    case atStart => exact ⟨0, 0, -1, by omega, rfl, rfl, rfl, by omega, HE, B1⟩
    case round =>
      clear HE
      obtain ⟨i, c, a, hi, rfl, rfl, rfl, hci, HF, HB⟩ := hrel
      by_cases hlt : i < n
      · obtain ⟨b, off, rfl, hb, hc⟩ := (HS.out.below HB.out).at (by omega)
        obtain ⟨k0, k1⟩ := hc i hlt
        clear hc
        have hva := vld_at HVL.out (i := i) (by rw [HS.out.1]; exact hlt)
        obtain ⟨u, hu⟩ : ∃ u, (L.getD i d0).1 = u := ⟨_, rfl⟩
        obtain ⟨o, ho⟩ : ∃ o, (L.getD i d0).2 = o := ⟨_, rfl⟩
        rw [hu] at k0 hva
        rw [ho] at k1
        have HST := Lib.hid (stat_step (P := P) (c := c) (a := a) (x := (u, o)) (by rw [HS.out.1]; exact hlt) (by rw [← hu, ← ho]))
        clear hu ho
        obtain ⟨m, rfl⟩ : ∃ m : Nat, u = (m : Int) := ⟨u.toNat, by omega⟩
        have BA : Hid (Below w.heap.size w (wr.alloc (.cells #[.int .i64 (m : Nat), .bool o] 30))) := Lib.hid (HB.out.alloc HB.out.size _)
        have hi0 : (0 : Int) ≤ (i : Int) := by omega
        have hi1 : (i : Int) < (n : Int) := by omega
        have m0 : (0 : Int) ≤ (m : Int) := by omega
        clear hva
        by_cases hmn : m < n1
        · obtain ⟨b1, o1, rfl, hb1, hc1⟩ := (H1.out.below BA.out).at (by omega)
          have kp := hc1 m hmn
          clear hc1
          obtain ⟨p, hp⟩ : ∃ p, P.getD m 0 = p := ⟨_, rfl⟩
          rw [hp] at kp
          have HV : Hid (lval P ((m : Int), o) = if p = 1 then (if o then 1 else -1) else if p = 2 then (if o then -1 else 1) else 0) := Lib.hid (by
            unfold lval
            rw [if_neg (by rw [H1.out.1]; intro h; rcases h with h | h <;> omega)]
            show (if P.getD ((m : Int)).toNat 0 = 1 then _ else _) = _
            rw [Int.toNat_natCast, hp])
          have m1 : (m : Int) < (n1 : Int) := by omega
          clear hp
          by_cases p1 : p = 1
          · subst p1
            cases o with
            | true =>
              have HE : Hid (((1 : Int), (-1 : Int)) = R) := Lib.hid (by rw [← HF.out, HST.out, if_pos (by rw [HV.out]; rfl)])
              go_wp2
              go_quiet (fail)
              go_wp2
              refine bodyPost_ret (results_tmp2 rfl _ _ _) rfl ?_
              exact ⟨by rw [← HE.out]; rfl, below_drewN BA.out _⟩
            | false =>
              have HE : Hid (stat P (L.drop (i + 1)) (i + 1) c a = R) := Lib.hid (by rw [← HF.out, HST.out, HV.out]; rfl)
              go_wp2
              go_quiet (fail)
              go_wp2
              go_roundw
              case rel => exact ⟨i + 1, c, a, by omega, by go_num, rfl, rfl, by omega, HE, Lib.hid (below_drewN BA.out _)⟩
              case measure => simp [intOf]; omega
          · by_cases p2 : p = 2
            · subst p2
              cases o with
              | false =>
                have HE : Hid (((1 : Int), (-1 : Int)) = R) := Lib.hid (by rw [← HF.out, HST.out, if_pos (by rw [HV.out]; rfl)])
                go_wp2
                go_quiet (fail)
                go_wp2
                refine bodyPost_ret (results_tmp2 rfl _ _ _) rfl ?_
                exact ⟨by rw [← HE.out]; rfl, below_drewN BA.out _⟩
              | true =>
                have HE : Hid (stat P (L.drop (i + 1)) (i + 1) c a = R) := Lib.hid (by rw [← HF.out, HST.out, HV.out]; rfl)
                go_wp2
                go_quiet (fail)
                go_wp2
                go_roundw
                case rel => exact ⟨i + 1, c, a, by omega, by go_num, rfl, rfl, by omega, HE, Lib.hid (below_drewN BA.out _)⟩
                case measure => simp [intOf]; omega
            · have HE : Hid (stat P (L.drop (i + 1)) (i + 1) (c + 1) (i : Int) = R) := Lib.hid (by rw [← HF.out, HST.out, HV.out, if_neg p1, if_neg p2]; rfl)
              have q1 : (p != 1) = true := by rw [bne_iff_ne]; exact p1
              have q2 : (p != 2) = true := by rw [bne_iff_ne]; exact p2
              clear p1 p2
              go_wp2
              go_roundw
              case rel => exact ⟨i + 1, c + 1, (i : Int), by omega, by go_num, by go_num, rfl, by omega, HE, BA⟩
              case measure => simp [intOf]; omega
        · have hv : lval P ((m : Int), o) = 0 := by unfold lval; rw [if_pos (.inr (by rw [H1.out.1]; omega))]
          have HE : Hid (stat P (L.drop (i + 1)) (i + 1) (c + 1) (i : Int) = R) := Lib.hid (by rw [← HF.out, HST.out, hv]; rfl)
          clear hv
          go_wp2
          go_roundw
          case rel => exact ⟨i + 1, c + 1, (i : Int), by omega, by go_num, by go_num, rfl, by omega, HE, BA⟩
          case measure => simp [intOf]; omega
      · have hF := HF.out
        rw [stat_end (by rw [HS.out.1]; omega)] at hF
        by_cases hc0 : c = 0
        · rw [if_pos hc0] at hF
          have HE := Lib.hid hF
          subst hc0
          clear hF
          go_wp2
          refine bodyPost_ret (results_tmp2 rfl _ _ _) rfl ?_
          exact ⟨by rw [← HE.out]; rfl, HB.out⟩
        · rw [if_neg hc0] at hF
          by_cases hc1 : c = 1
          · rw [if_pos hc1] at hF
            have HE := Lib.hid hF
            subst hc1
            clear hF hc0
            go_wp2
            refine bodyPost_ret (results_tmp2 rfl _ _ _) rfl ?_
            exact ⟨by rw [← HE.out]; rfl, HB.out⟩
          · rw [if_neg hc1] at hF
            have HE := Lib.hid hF
            have q0 : ((c : Int) == 0) = false := by rw [beq_eq_false_iff_ne]; omega
            have q1 : ((c : Int) == 1) = false := by rw [beq_eq_false_iff_ne]; omega
            clear hF hc0 hc1
            go_wp2
            refine bodyPost_ret (results_tmp2 rfl _ _ _) rfl ?_
            exact ⟨by rw [← HE.out]; rfl, HB.out⟩

end Go.Proofs.YtljgcjmelmpgoaaDoor
