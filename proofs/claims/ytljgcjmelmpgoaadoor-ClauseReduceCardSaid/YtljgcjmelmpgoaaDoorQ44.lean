/- Reduce. -/
import Derived.Test.YtljgcjmelmpgoaaDoorQ43
import Derived.Test.YtljgcjmelmpgoaaDoorQ28
import Derived.WalkMore
import Derived.Deep.LoopGhost
namespace Go.Proofs.YtljgcjmelmpgoaaDoor
open Go.RowKit
set_option linter.unusedVariables false

theorem vlds_ok {K : List Cl} : ∀ x ∈ vlds K, vld x.2 = true := fun x hx => (List.mem_filter.1 hx).2
theorem vlds_sub {K : List Cl} : ∀ x ∈ vlds K, x ∈ K := fun x hx => (List.mem_filter.1 hx).1
/-- what Reduce answers -/
def RedSays (w : World) (R : List Cl) (e : Ending) (w' : World) : Prop := ∃ v, e = .returned v ∧ OwnC w' w.heap.size v R ∧ Below w.heap.size w w'
set_option maxHeartbeats 8000000 in
set_option maxRecDepth 100000 in
theorem reduce_c (a : Option Addr) (n c : Nat) (K : List Cl) (w : World) (hs : SlC w a n c K) (hn : n ≤ 1000) :
    Calls Tryd.prog 27 #[.slice a n c] w fun e w' => RedSays w (redG sub allOk [] (vlds K)) e w' := by
  have HS := Lib.hid hs
  clear hs
  obtain ⟨V, hV⟩ : ∃ V, vlds K = V := ⟨_, rfl⟩
  have HVV := Lib.hid hV
  have HVOK : Hid (∀ x ∈ V, vld x.2 = true) := Lib.hid (by rw [← hV]; exact vlds_ok)
  have HVSUB : Hid (∀ x ∈ V, x ∈ K) := Lib.hid (by rw [← hV]; exact vlds_sub)
  have HVL : V.length ≤ n := by rw [← hV, ← HS.out.1.1]; exact List.length_filter_le _ _
  rw [hV]
  clear hV
  obtain ⟨R, hR⟩ : ∃ R, redG sub allOk [] V = R := ⟨_, rfl⟩
  have HR := Lib.hid hR
  rw [hR]
  clear hR
  go_enter Tryd.func27, Tryd.ntmps27
  go_wp2_with fail
  go_step3
  go_wp2_with fail
  refine Calls.mono (cclone_c a n c K w HS.out hn) ?_
  rintro e w1 ⟨v, rfl, hO1, hb1⟩
  have B1 := Lib.hid hb1
  have O1 := Lib.hid hO1
  clear hb1 hO1
  go_wp2_with fail
  refine Calls.mono (cdel_c w.heap.size v K w1 O1.out (by rw [HS.out.1.1]; exact hn) B1.out.size (fun x hx W hW => (HS.out.2 x hx).below (B1.out.trans hW))) ?_
  rintro e w2 ⟨v2, rfl, hO2, hb2⟩
  have B2 := Lib.hid (B1.out.trans hb2)
  rw [HVV.out] at hO2
  obtain ⟨a2, c2, hv2⟩ := hO2.slice
  subst hv2
  obtain ⟨nv, hnv⟩ : ∃ m, V.length = m := ⟨_, rfl⟩
  have HNV := Lib.hid hnv
  rw [hnv] at hO2 HVL
  rw [hnv]
  have KV := Lib.hid (hO2.sl hnv (fun x hx => (HS.out.2 x (HVSUB.out x hx)).below B2.out))
  clear hO2 hb2 hnv O1
  have BSZ := Lib.hid B2.out.size
  go_wp2
  go_step3
  go_wp2
  go_loopg [4, 5, 6, 7, 8, 14] nv (fun g s4 s5 s6 s7 s8 s wr => ∃ (i m : Nat) (ao : Option Addr) (co : Nat) (out : List Cl), i ≤ nv ∧ nv - i ≤ g ∧ s = .int .i64 (i : Nat) ∧ s4 = .slice ao m co ∧ m ≤ i ∧ Hid (out.length = m) ∧ Hid (OwnC wr w2.heap.size (.slice ao m co) out) ∧ Hid (Below w2.heap.size w2 wr) ∧ Hid (out ++ redG sub allOk (V.take i) (V.drop i) = R))
  case atStart => exact ⟨0, 0, none, 0, [], by omega, by omega, rfl, rfl, by omega, Lib.hid rfl, Lib.hid (OwnC.nil _ _), Lib.hid (Below.refl _ _), Lib.hid (by rw [List.nil_append, List.take_zero, List.drop_zero]; exact HR.out)⟩
  case round =>
    obtain ⟨i, m, ao, co, out, hi, hg1, rfl, rfl, hmi, HM, HOW, HB, HF⟩ := hrel
    by_cases hlt : i < nv
    · obtain ⟨b, off, rfl, hb, hc⟩ := (KV.out.below HB.out).at (by omega)
      have k0 := hc i hlt
      clear hc
      have HX := Lib.hid ((KV.out.below HB.out).entry hlt)
      have HIL := Lib.hid (show i < V.length by rw [HNV.out]; exact hlt)
      have HVC := Lib.hid (HVOK.out _ (cl_mem HIL.out))
      obtain ⟨x, hx⟩ : ∃ x, V.getD i c0 = x := ⟨_, rfl⟩
      rw [hx] at k0 HX HVC
      have HXE := Lib.hid hx
      clear hx
      have HST := Lib.hid (red_step (S := sub) (ok := allOk) HIL.out HXE.out)
      have HKP := Lib.hid (keep_iff (S := sub) HIL.out HXE.out)
      obtain ⟨⟨xa, xn, xc⟩, X⟩ := x
      replace k0 : wr.cell? ⟨b, off + i, none⟩ = some (.slice xa xn xc) := k0
      have HX' : Hid (SlL wr xa xn xc X) := HX
      have HVX : Hid (vld X = true) := HVC
      clear HX HVC
      have hi0 : (0 : Int) ≤ (i : Int) := by omega
      have hi1 : (i : Int) < (nv : Int) := by omega
      have hxn : xn ≤ 1024 := by have := vld_len HVX.out; rw [HX'.out.1] at this; exact this
      go_wp2
      clear k0 hb
      go_loopg [7, 8, 21] nv (fun g2 s7 s8 s ww => ∃ j : Nat, j ≤ nv ∧ nv - j ≤ g2 ∧ s = .int .i64 (j : Nat) ∧ Hid (∀ k, k < j → ¬ Bad sub V ((xa, xn, xc), X) i k) ∧ Hid (Below wr.heap.size wr ww))
      case atStart => exact ⟨0, by omega, by omega, rfl, Lib.hid (fun k hk => absurd hk (Nat.not_lt_zero k)), Lib.hid (Below.refl _ _)⟩
      case round =>
        obtain ⟨j, hj, hg2, rfl, hno, HB2⟩ := hrel
        have BL2 := Lib.hid (HB.out.trans (HB2.out.mono HB.out.size))
        have HOW2 := Lib.hid (HOW.out.below HB2.out)
        by_cases hlt2 : j < nv
        · obtain ⟨b2, off2, e2, hb2, hc2⟩ := (KV.out.below BL2.out).at (by omega)
          cases e2
          have m0 := hc2 j hlt2
          clear hc2
          have HD := Lib.hid ((KV.out.below BL2.out).entry hlt2)
          have HVD := Lib.hid (HVOK.out _ (cl_mem (K := V) (i := j) (by rw [HNV.out]; exact hlt2)))
          obtain ⟨d, hd⟩ : ∃ x, V.getD j c0 = x := ⟨_, rfl⟩
          rw [hd] at m0 HD HVD
          have HDE := Lib.hid hd
          clear hd
          obtain ⟨⟨da, dn, dc⟩, D⟩ := d
          replace m0 : _ = some (Value.slice da dn dc) := m0
          have HD' : Hid (SlL wr da dn dc D) := HD
          have HVD' : Hid (vld D = true) := HVD
          clear HD HVD
          have hj0 : (0 : Int) ≤ (j : Int) := by omega
          have hj1 : (j : Int) < (nv : Int) := by omega
          have HBD : Hid (Bad sub V ((xa, xn, xc), X) i j ↔ (∀ x ∈ D, x ∈ X) ∧ (dn < xn ∨ j < i)) := Lib.hid (by
            unfold Bad
            rw [HDE.out]
            show (decide (∀ x ∈ D, x ∈ X) = true ∧ (D.length < X.length ∨ j < i)) ↔ _
            rw [decide_eq_true_iff, HD'.out.1, HX'.out.1])
          have HNX : Hid (¬ Bad sub V ((xa, xn, xc), X) i j → ∀ k, k < j + 1 → ¬ Bad sub V ((xa, xn, xc), X) i k) := Lib.hid (fun h k hk => by
            by_cases hkj : k = j
            · rw [hkj]; exact h
            · exact hno.out k (by omega))
          by_cases hji : j = i
          · have q1 : (j != i) = false := by rw [hji]; simp
            have q2 : ((j : Int) != (i : Int)) = false := by rw [hji]; simp
            have HNB : Hid (∀ k, k < j + 1 → ¬ Bad sub V ((xa, xn, xc), X) i k) := Lib.hid (HNX.out (fun h => by
              have := (HBD.out.1 h).2
              have hdx : D = X := by
                have e1 := HDE.out
                rw [hji, HXE.out] at e1
                exact (congrArg Prod.snd e1).symm
              have hl : dn = xn := by rw [← HD'.out.1, ← HX'.out.1, hdx]
              omega))
            clear hji
            go_wp2
            go_roundg (nv - (j + 1))
            case measure => omega
            case rel => exact ⟨j + 1, by omega, Nat.le_refl _, by go_num, HNB, HB2⟩
          · have q1 : (j != i) = true := by simpa using hji
            have q2 : ((j : Int) != (i : Int)) = true := by
              rw [bne_iff_ne]; omega
            clear hji
            go_wp2_with fail
            refine Calls.mono (contained_c da dn dc D xa xn xc X wr HD'.out (HX'.out.below HB2.out) HVD'.out HVX.out (by omega)) ?_
            rintro e w4 ⟨rfl, hb4⟩
            have HB4 := Lib.hid (HB2.out.trans (hb4.mono HB2.out.size))
            clear hb4 m0 hb2
            by_cases hsub : ∀ x ∈ D, x ∈ X
            · rw [decide_eq_true hsub]
              by_cases hlen : dn < xn ∨ j < i
              · have HBAD := Lib.hid (HBD.out.2 ⟨hsub, hlen⟩)
                have HSK : Hid (out ++ redG sub allOk (V.take (i + 1)) (V.drop (i + 1)) = R) := Lib.hid (by
                  rw [← HF.out, HST.out, if_neg]
                  intro hk
                  rw [Bool.and_eq_true] at hk
                  exact HKP.out.1 hk.2 j (by rw [HNV.out]; exact hlt2) HBAD.out)
                have BL4 := Lib.hid (HB.out.trans (HB4.out.mono HB.out.size))
                have HOW4 := Lib.hid (HOW.out.below HB4.out)
                clear hsub
                by_cases l1 : dn < xn
                · have l1' : decide (dn < xn) = true := decide_eq_true l1
                  clear hlen
                  go_wp2
                  go_roundg (nv - (i + 1))
                  case measure => omega
                  case rel => exact ⟨i + 1, m, ao, co, out, by omega, Nat.le_refl _, by go_num, rfl, by omega, HM, HOW4, BL4, HSK⟩
                · have l1' : decide (dn < xn) = false := decide_eq_false l1
                  have l2 : j < i := by omega
                  have l2' : decide (j < i) = true := decide_eq_true l2
                  clear hlen
                  go_wp2
                  go_roundg (nv - (i + 1))
                  case measure => omega
                  case rel => exact ⟨i + 1, m, ao, co, out, by omega, Nat.le_refl _, by go_num, rfl, by omega, HM, HOW4, BL4, HSK⟩
              · have HNB := Lib.hid (HNX.out (fun h => hlen (HBD.out.1 h).2))
                have l1' : decide (dn < xn) = false := decide_eq_false (by omega)
                have l2' : decide (j < i) = false := decide_eq_false (by omega)
                clear hsub hlen
                go_wp2
                go_roundg (nv - (j + 1))
                case measure => omega
                case rel => exact ⟨j + 1, by omega, Nat.le_refl _, by go_num, HNB, HB4⟩
            · have HNB := Lib.hid (HNX.out (fun h => hsub (HBD.out.1 h).1))
              rw [decide_eq_false hsub]
              clear hsub
              go_wp2
              go_roundg (nv - (j + 1))
              case measure => omega
              case rel => exact ⟨j + 1, by omega, Nat.le_refl _, by go_num, HNB, HB4⟩
        · have hne : ¬ (j : Int) < (nv : Int) := by omega
          have HKT : Hid (out ++ [((xa, xn, xc), X)] ++ redG sub allOk (V.take (i + 1)) (V.drop (i + 1)) = R) := Lib.hid (by
            rw [← HF.out, HST.out, if_pos, List.append_assoc]; rfl
            rw [Bool.and_eq_true]
            exact ⟨rfl, HKP.out.2 (fun k hk => hno.out k (by rw [HNV.out] at hk; omega))⟩)
          have BA := Lib.hid ((Below.refl wr.heap.size wr).alloc (o := .cells #[.slice xa xn xc] 24) (Nat.le_refl _))
          have KC := Lib.hid (SlC.one (heap_alloc_new wr (.cells #[.slice xa xn xc] 24)) ((HX'.out.below HB2.out).below BA.out))
          go_wp2_with (at_builtin; refine wpList_append_cls rfl (.tmp 47) (.tmp 49) 43 43 rfl Tryd.underlying43 Tryd.underlying43 w2.heap.size _ out rfl (HOW2.out.below BA.out) _ _ _ _ rfl KC.out (by rw [HM.out]; omega) (Nat.le_trans BL2.out.size BA.out.size) ?_; intro v4 w5 hO4 hB4; have O4 := Lib.hid hO4; have B4 := Lib.hid ((BL2.out.alloc BL2.out.size (.cells #[.slice xa xn xc] 24)).trans hB4); clear hO4 hB4; obtain ⟨a4, c4, hv4⟩ := O4.out.slice; rw [List.length_append, HM.out] at hv4; change v4 = .slice a4 (m + 1) c4 at hv4; subst hv4)
          go_roundg (nv - (i + 1))
          case measure => omega
          case rel => exact ⟨i + 1, m + 1, a4, c4, _, by omega, Nat.le_refl _, by go_num, rfl, by omega, Lib.hid (by rw [List.length_append, HM.out]; rfl), O4, B4, HKT⟩
    · have hne : ¬ (i : Int) < (nv : Int) := by omega
      have HRE : Hid (out = R) := Lib.hid (by rw [← HF.out, red_end (by rw [HNV.out]; omega), List.append_nil])
      go_wp2
      (try rw [Exit.noGoto_ret])
      refine bodyPost_ret (results_tmp rfl _ _ _) rfl ?_
      exact ⟨_, rfl, by rw [← HRE.out]; exact HOW.out.le BSZ.out, B2.out.trans (HB.out.mono B2.out.size)⟩

end Go.Proofs.YtljgcjmelmpgoaaDoor
