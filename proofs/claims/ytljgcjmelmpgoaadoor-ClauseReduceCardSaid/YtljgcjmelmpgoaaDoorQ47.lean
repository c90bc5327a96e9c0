/- Laws: Reduce. -/
import Derived.Test.YtljgcjmelmpgoaaDoorQ46
namespace Go.Proofs.YtljgcjmelmpgoaaDoor
open Go.RowKit
set_option linter.unusedVariables false

theorem red_has {S : Cl → Cl → Bool} {ok : Cl → Bool} : ∀ (L pre : List Cl) (i : Nat) (c : Cl), L[i]? = some c → ok c = true → keepG S (pre ++ L.take i) c (L.drop (i + 1)) = true → c ∈ redG S ok pre L
  | [], pre, i, c, h, _, _ => by cases h
  | x :: r, pre, 0, c, h, ho, hk => by
    obtain rfl : x = c := Option.some.inj h
    unfold redG
    rw [if_pos (by rw [ho]; simpa using hk)]
    simp
  | x :: r, pre, i + 1, c, h, ho, hk => by
    have ih := red_has r (pre ++ [x]) i c (by simpa using h) ho (by simpa using hk)
    unfold redG
    split
    · exact List.mem_cons_of_mem _ ih
    · exact ih
/-- every clause has a kept one within it -/
theorem red_cover {V : List Cl} (hv : ∀ x ∈ V, vld x.2 = true) : ∀ (g i : Nat), i < V.length → (V.getD i c0).2.length * (V.length + 1) + i ≤ g → ∃ d ∈ redG sub allOk [] V, sub d (V.getD i c0) = true
  | g, i, hi, hg => by
    have hget : V[i]? = some (V.getD i c0) := by rw [List.getD_eq_getElem?_getD, List.getElem?_eq_getElem hi]; rfl
    by_cases hk : keepG sub (V.take i) (V.getD i c0) (V.drop (i + 1)) = true
    · exact ⟨_, red_has V [] i _ hget rfl (by simpa using hk), by unfold sub; simp⟩
    · have : ∃ k, k < V.length ∧ Bad sub V (V.getD i c0) i k := by
        refine Classical.byContradiction (fun hn => hk ((keep_iff hi rfl).2 (fun k hkl hb => hn ⟨k, hkl, hb⟩)))
      obtain ⟨k, hkl, hb1, hb2⟩ := this
      have hle : (V.getD k c0).2.length ≤ (V.getD i c0).2.length := sub_len (hv _ (cl_mem hkl)) (hv _ (cl_mem hi)) (of_decide_eq_true hb1)
      have hlt : (V.getD k c0).2.length * (V.length + 1) + k < (V.getD i c0).2.length * (V.length + 1) + i := by
        rcases Nat.lt_or_eq_of_le hle with h | h
        · have h1 := Nat.mul_le_mul_right (V.length + 1) (show (V.getD k c0).2.length + 1 ≤ (V.getD i c0).2.length from h)
          rw [Nat.add_mul, Nat.one_mul] at h1
          omega
        · rw [h]
          have : k < i := by omega
          omega
      cases g with
      | zero => omega
      | succ g =>
        obtain ⟨d, hd, hs⟩ := red_cover hv g k hkl (by omega)
        refine ⟨d, hd, ?_⟩
        unfold sub at hs hb1 ⊢
        rw [decide_eq_true_iff] at hs hb1 ⊢
        exact fun x hx => hb1 x (hs x hx)
theorem reduce_holds {K : List Cl} {bits : Int} : (∀ c ∈ K, vld c.2 = true → holdsL bits c.2 = true) ↔ ∀ c ∈ redG sub allOk [] (vlds K), holdsL bits c.2 = true := by
  constructor
  · intro h c hc
    have := List.mem_filter.1 (red_mem hc)
    exact h c this.1 (by simpa using this.2)
  · intro h c hc hv
    have hm : c ∈ vlds K := List.mem_filter.2 ⟨hc, by simpa using hv⟩
    obtain ⟨i, hi, e⟩ := List.getElem_of_mem hm
    obtain ⟨d, hd, hs⟩ := red_cover (V := vlds K) vlds_ok _ i hi (Nat.le_refl _)
    rw [List.getD_eq_getElem?_getD, List.getElem?_eq_getElem hi, Option.getD_some, e] at hs
    obtain ⟨x, hx, hb⟩ := holds_iff.1 (h d hd)
    exact holds_iff.2 ⟨x, of_decide_eq_true hs x hx, hb⟩
theorem smallC_mem {K : List Cl} (h : smallC K = true) : ∀ x ∈ K, smallL x.2 = true := by
  intro x hx
  unfold smallC at h
  exact List.all_eq_true.1 h x hx
def AllTo1 (b : Bool) (bits : Int) (K : List Cl) (j : Nat) : Prop := b = true ↔ ∀ k, k < j → vld (K.getD k c0).2 = true → holdsL bits (K.getD k c0).2 = true
def AllTo2 (b : Bool) (bits : Int) (K : List Cl) (j : Nat) : Prop := b = true ↔ ∀ k, k < j → holdsL bits (K.getD k c0).2 = true
theorem AllTo1.step {b q : Bool} {bits : Int} {K : List Cl} {j : Nat} {X : List Lt} (h : AllTo1 b bits K j) (hx : (K.getD j c0).2 = X) (hq : q = true ↔ b = true ∧ (vld X = true → holdsL bits X = true)) : AllTo1 q bits K (j + 1) := by
  unfold AllTo1 at h ⊢
  rw [hq]
  constructor
  · rintro ⟨h1, h2⟩ k hk
    by_cases hkj : k = j
    · rw [hkj, hx]; exact h2
    · exact h.1 h1 k (by omega)
  · intro h3
    exact ⟨h.2 (fun k hk => h3 k (by omega)), by rw [← hx]; exact h3 j (by omega)⟩
theorem AllTo2.step {b q : Bool} {bits : Int} {K : List Cl} {j : Nat} {X : List Lt} (h : AllTo2 b bits K j) (hx : (K.getD j c0).2 = X) (hq : q = true ↔ b = true ∧ holdsL bits X = true) : AllTo2 q bits K (j + 1) := by
  unfold AllTo2 at h ⊢
  rw [hq]
  constructor
  · rintro ⟨h1, h2⟩ k hk
    by_cases hkj : k = j
    · rw [hkj, hx]; exact h2
    · exact h.1 h1 k (by omega)
  · intro h3
    exact ⟨h.2 (fun k hk => h3 k (by omega)), by rw [← hx]; exact h3 j (by omega)⟩
theorem cl_all {K : List Cl} {P : Cl → Prop} : (∀ k, k < K.length → P (K.getD k c0)) ↔ ∀ c ∈ K, P c := by
  constructor
  · intro h c hc
    obtain ⟨i, hi, e⟩ := List.getElem_of_mem hc
    have := h i hi
    rwa [List.getD_eq_getElem?_getD, List.getElem?_eq_getElem hi, Option.getD_some, e] at this
  · intro h k hk
    exact h _ (cl_mem hk)
set_option maxHeartbeats 16000000 in
set_option maxRecDepth 100000 in
theorem lawReduce (a0 : Option Addr) (n0 c0' : Nat) (K : List Cl) (w : World) (h0 : SlC w a0 n0 c0' K) :
    Calls Tryd.prog 9 #[.slice a0 n0 c0'] w fun e w' => e = .returned (.bool true) ∧ Below w.heap.size w w' := by
  have H0 := Lib.hid h0
  have hcap : n0 ≤ 9223372036854775807 := by have := h0.1.2.1; have := h0.1.2.2.1; omega
  clear h0
  go_enter Tryd.func9, Tryd.ntmps9
  go_wp2_with fail
  refine Calls.mono (awake_c w) ?_
  rintro e w1 ⟨rfl, hb1⟩
  have B1 := Lib.hid hb1
  clear hb1
  by_cases g0 : (12 : Int) < (n0 : Int)
  · go_wp2
    refine bodyPost_ret (results_tmp rfl _ _ _) rfl ?_
    exact ⟨rfl, B1.out⟩
  · have g0' : decide ((12 : Int) < (n0 : Int)) = false := decide_eq_false g0
    have l0 : n0 ≤ 12 := by omega
    clear g0
    go_wp2
    go_loopw [4, 20] (fun s4 s wr => ∃ i : Nat, i ≤ n0 ∧ s = .int .i64 (i : Nat) ∧ Hid (Below w.heap.size w wr)) (fun _ s _ => n0 - (RowKit.intOf s).toNat)
    case atStart => exact ⟨0, by omega, rfl, B1⟩
    case round =>
      obtain ⟨i, hi, rfl, HB⟩ := hrel
      by_cases hlt : i < n0
      · obtain ⟨b, off, rfl, hb, hc⟩ := (H0.out.below HB.out).at (by omega)
        have k0 := hc i hlt
        clear hc
        obtain ⟨x, hx⟩ : ∃ x, K.getD i c0 = x := ⟨_, rfl⟩
        rw [hx] at k0
        clear hx
        obtain ⟨⟨xa, xn, xc⟩, X⟩ := x
        replace k0 : wr.cell? ⟨b, off + i, none⟩ = some (.slice xa xn xc) := k0
        have hi0 : (0 : Int) ≤ (i : Int) := by omega
        have hi1 : (i : Int) < (n0 : Int) := by omega
        by_cases g1 : (12 : Int) < (xn : Int)
        · go_wp2
          refine bodyPost_ret (results_tmp rfl _ _ _) rfl ?_
          exact ⟨rfl, HB.out⟩
        · go_wp2
          go_roundw
          case rel => exact ⟨i + 1, by omega, by go_num, HB⟩
          case measure => simp [RowKit.intOf]; omega
      · have hne : ¬ (i : Int) < (n0 : Int) := by omega
        obtain ⟨R, hR⟩ : ∃ R, redG sub allOk [] (vlds K) = R := ⟨_, rfl⟩
        have HR := Lib.hid hR
        have HRA := Lib.hid (show redG subV okV [] K = R by rw [red_alike]; exact hR)
        have HRM : Hid (∀ x ∈ R, x ∈ K) := Lib.hid (by rw [← hR]; exact fun x hx => vlds_sub x (red_mem hx))
        clear hR
        go_wp2_with fail
        refine Calls.mono (reduce_c a0 n0 c0' K wr (H0.out.below HB.out) (by omega)) ?_
        rintro e w2 ⟨v2, rfl, hO2, hb2⟩
        rw [HR.out] at hO2
        have B2 := Lib.hid (HB.out.trans (hb2.mono HB.out.size))
        obtain ⟨a2, c2, hv2⟩ := hO2.slice
        subst hv2
        obtain ⟨m, hm⟩ : ∃ m, R.length = m := ⟨_, rfl⟩
        have HM := Lib.hid hm
        rw [hm] at hO2
        rw [hm]
        have K2 := Lib.hid (hO2.sl hm (fun x hx => (H0.out.2 x (HRM.out x hx)).below B2.out))
        have hm9 : m ≤ 9223372036854775807 := by have := K2.out.1.2.1; have := K2.out.1.2.2.1; omega
        clear hO2 hb2 hm
        go_wp2_with fail
        refine Calls.mono (rreduce_c a0 n0 c0' K w2 (H0.out.below B2.out) (by omega)) ?_
        rintro e w3 ⟨v3, rfl, hO3, hb3⟩
        rw [HRA.out] at hO3
        have B3 := Lib.hid (B2.out.trans (hb3.mono B2.out.size))
        obtain ⟨a3, c3, hv3⟩ := hO3.slice
        subst hv3
        rw [HM.out] at hO3
        rw [HM.out]
        have K3 := Lib.hid (hO3.sl HM.out (fun x hx => (H0.out.2 x (HRM.out x hx)).below B3.out))
        have K23 := Lib.hid (K2.out.below hb3)
        clear hO3 hb3
        go_wp2_with fail
        refine Calls.mono (sameall_c a2 m c2 R a3 m c3 R w3 K23.out K3.out) ?_
        rintro e w4 ⟨rfl, hb4⟩
        rw [decide_eq_true rfl]
        have B4 := Lib.hid (B3.out.trans (hb4.mono B3.out.size))
        have K24 := Lib.hid (K23.out.below hb4)
        clear hb4
        go_wp2_with fail
        refine Calls.mono (small_c a0 n0 c0' K w4 (H0.out.below B4.out)) ?_
        rintro e w5 ⟨rfl, hb5⟩
        have B5 := Lib.hid (B4.out.trans (hb5.mono B4.out.size))
        have K25 := Lib.hid (K24.out.below hb5)
        clear hb5
        cases hs : smallC K with
        | false =>
          clear hs
          go_wp2
          refine bodyPost_ret (results_tmp rfl _ _ _) rfl ?_
          exact ⟨rfl, B5.out⟩
        | true =>
          have HSM := Lib.hid (smallC_mem hs)
          clear hs
          go_wp2
          go_loopw [6, 7, 8, 10, 12, 38] (fun s6 s7 s8 s10 s12 t wr => ∃ (i : Nat), i ≤ 64 ∧ t = .int .i64 (i : Nat) ∧ Hid (Below w5.heap.size w5 wr)) (fun _ _ _ _ _ t _ => 64 - (RowKit.intOf t).toNat)
          case atStart => exact ⟨0, by omega, rfl, Lib.hid (Below.refl _ _)⟩
          case round =>
            obtain ⟨q, hq, rfl, HBL⟩ := hrel
            have BW := Lib.hid (B5.out.trans (HBL.out.mono B5.out.size))
            by_cases hltq : q < 64
            · have hq0 : (0 : Int) ≤ (q : Int) := by omega
              have hq1 : (q : Int) < 64 := by omega
              go_wp2
              go_loopw [7, 10, 43] (fun s7 s10 t ww => ∃ (j : Nat) (f : Bool), j ≤ n0 ∧ t = .int .i64 (j : Nat) ∧ s7 = .bool f ∧ Hid (AllTo1 f (q : Int) K j) ∧ Hid (Below w5.heap.size w5 ww)) (fun _ _ t _ => n0 - (RowKit.intOf t).toNat)
              case atStart => exact ⟨0, true, by omega, rfl, rfl, Lib.hid ⟨fun _ k hk => absurd hk (Nat.not_lt_zero k), fun _ => rfl⟩, HBL⟩
              case round =>
                obtain ⟨j, f, hj, rfl, rfl, HF, HB2⟩ := hrel
                have BW2 := Lib.hid (B5.out.trans (HB2.out.mono B5.out.size))
                by_cases hlt2 : j < n0
                · obtain ⟨b, off, e2, hb, hc⟩ := (H0.out.below BW2.out).at (by omega)
                  subst e2
                  have k0 := hc j hlt2
                  clear hc
                  have HX := Lib.hid ((H0.out.below BW2.out).entry hlt2)
                  have HSX := Lib.hid (HSM.out _ (cl_mem (K := K) (i := j) (by rw [H0.out.1.1]; exact hlt2)))
                  obtain ⟨x, hx⟩ : ∃ x, K.getD j c0 = x := ⟨_, rfl⟩
                  rw [hx] at k0 HX HSX
                  have HXE := Lib.hid hx
                  clear hx
                  obtain ⟨⟨xa, xn, xc⟩, X⟩ := x
                  replace k0 : wr.cell? ⟨b, off + j, none⟩ = some (.slice xa xn xc) := k0
                  have HX' : Hid (SlL wr xa xn xc X) := HX
                  have HSX' : Hid (smallL X = true) := HSX
                  clear HX HSX
                  have HXE2 := Lib.hid (show (K.getD j c0).2 = X by rw [HXE.out])
                  have hj0 : (0 : Int) ≤ (j : Int) := by omega
                  have hj1 : (j : Int) < (n0 : Int) := by omega
                  cases f with
                  | false =>
                    have HN := Lib.hid (HF.out.step (q := false) HXE2.out (by simp))
                    go_wp2
                    go_roundw
                    case rel => exact ⟨j + 1, false, by omega, by go_num, rfl, HN, HB2⟩
                    case measure => simp [RowKit.intOf]; omega
                  | true =>
                    go_wp2_with fail
                    refine Calls.mono (rvalid_c xa xn xc X wr HX'.out) ?_
                    rintro e w7 ⟨rfl, hb7⟩
                    have B7 := Lib.hid (HB2.out.trans (hb7.mono HB2.out.size))
                    have HX7 := Lib.hid (HX'.out.below hb7)
                    clear hb7
                    cases hv : vld X with
                    | false =>
                      have HN := Lib.hid (HF.out.step (q := true) HXE2.out (by rw [hv]; simp))
                      clear hv
                      go_wp2
                      go_roundw
                      case rel => exact ⟨j + 1, true, by omega, by go_num, rfl, HN, B7⟩
                      case measure => simp [RowKit.intOf]; omega
                    | true =>
                      have HVX := Lib.hid hv
                      clear hv
                      go_wp2_with fail
                      refine Calls.mono (holds_c xa xn xc X q w7 HX7.out (fun t ht => smallL_iff.1 HSX'.out t (by rw [HX'.out.1]; exact ht)) (fin_bits hltq)) ?_
                      rintro e w8 ⟨rfl, hb8⟩
                      have B8 := Lib.hid (B7.out.trans (hb8.mono B7.out.size))
                      clear hb8
                      obtain ⟨z, hz⟩ : ∃ z, holdsL (q : Int) X = z := ⟨_, rfl⟩
                      rw [hz]
                      have HN := Lib.hid (HF.out.step (q := z) HXE2.out (by rw [HVX.out, hz]; simp))
                      clear hz
                      go_wp2
                      go_roundw
                      case rel => exact ⟨j + 1, z, by omega, by go_num, rfl, HN, B8⟩
                      case measure => simp [RowKit.intOf]; omega
                · have hne : ¬ (j : Int) < (n0 : Int) := by omega
                  have HFE : Hid (f = true ↔ ∀ c ∈ K, vld c.2 = true → holdsL (q : Int) c.2 = true) := Lib.hid (by
                    have h := HF.out
                    obtain rfl : j = n0 := by omega
                    unfold AllTo1 at h
                    rw [h, ← H0.out.1.1]
                    exact cl_all (P := fun c => vld c.2 = true → holdsL (q : Int) c.2 = true))
                  go_wp2
                  go_loopw [8, 12, 61] (fun s8 s12 t ww => ∃ (j : Nat) (g : Bool), j ≤ m ∧ t = .int .i64 (j : Nat) ∧ s8 = .bool g ∧ Hid (AllTo2 g (q : Int) R j) ∧ Hid (Below w5.heap.size w5 ww)) (fun _ _ t _ => m - (RowKit.intOf t).toNat)
                  case atStart => exact ⟨0, true, by omega, rfl, rfl, Lib.hid ⟨fun _ k hk => absurd hk (Nat.not_lt_zero k), fun _ => rfl⟩, HB2⟩
                  case round =>
                    obtain ⟨p, g, hp, rfl, rfl, HG, HB3⟩ := hrel
                    by_cases hlt3 : p < m
                    · obtain ⟨b, off, e2, hb, hc⟩ := (K25.out.below HB3.out).at (by omega)
                      subst e2
                      have k0 := hc p hlt3
                      clear hc
                      have HX := Lib.hid ((K25.out.below HB3.out).entry hlt3)
                      have HSX := Lib.hid (HSM.out _ (HRM.out _ (cl_mem (K := R) (i := p) (by rw [HM.out]; exact hlt3))))
                      obtain ⟨x, hx⟩ : ∃ x, R.getD p c0 = x := ⟨_, rfl⟩
                      rw [hx] at k0 HX HSX
                      have HXE := Lib.hid hx
                      clear hx
                      obtain ⟨⟨xa, xn, xc⟩, X⟩ := x
                      replace k0 : wr.cell? ⟨b, off + p, none⟩ = some (.slice xa xn xc) := k0
                      have HX' : Hid (SlL wr xa xn xc X) := HX
                      have HSX' : Hid (smallL X = true) := HSX
                      clear HX HSX
                      have HXE2 := Lib.hid (show (R.getD p c0).2 = X by rw [HXE.out])
                      have hj0 : (0 : Int) ≤ (p : Int) := by omega
                      have hj1 : (p : Int) < (m : Int) := by omega
                      cases g with
                      | false =>
                        have HN := Lib.hid (HG.out.step (q := false) HXE2.out (by simp))
                        go_wp2
                        go_roundw
                        case rel => exact ⟨p + 1, false, by omega, by go_num, rfl, HN, HB3⟩
                        case measure => simp [RowKit.intOf]; omega
                      | true =>
                        go_wp2_with fail
                        refine Calls.mono (holds_c xa xn xc X q wr HX'.out (fun t ht => smallL_iff.1 HSX'.out t (by rw [HX'.out.1]; exact ht)) (fin_bits hltq)) ?_
                        rintro e w8 ⟨rfl, hb8⟩
                        have B8 := Lib.hid (HB3.out.trans (hb8.mono HB3.out.size))
                        clear hb8
                        obtain ⟨z, hz⟩ : ∃ z, holdsL (q : Int) X = z := ⟨_, rfl⟩
                        rw [hz]
                        have HN := Lib.hid (HG.out.step (q := z) HXE2.out (by rw [hz]; simp))
                        clear hz
                        go_wp2
                        go_roundw
                        case rel => exact ⟨p + 1, z, by omega, by go_num, rfl, HN, B8⟩
                        case measure => simp [RowKit.intOf]; omega
                    · have hne2 : ¬ (p : Int) < (m : Int) := by omega
                      have HFG : Hid (f = g) := Lib.hid (by
                        have h := HG.out
                        obtain rfl : p = m := by omega
                        unfold AllTo2 at h
                        rw [← HM.out] at h
                        have h2 := h.trans (cl_all (P := fun c => holdsL (q : Int) c.2 = true))
                        have h3 := HFE.out.trans reduce_holds
                        rw [HR.out] at h3
                        rw [Bool.eq_iff_iff]
                        exact h3.trans h2.symm)
                      have hfg := HFG.out
                      subst hfg
                      clear HFG HFE HG HF
                      cases f <;>
                        (go_wp2
                         go_roundw
                         case rel => exact ⟨q + 1, by omega, by go_num, HB3⟩
                         case measure => simp [RowKit.intOf]; omega)
            · have hne : ¬ (q : Int) < 64 := by omega
              go_wp2
              refine bodyPost_ret (results_tmp rfl _ _ _) rfl ?_
              exact ⟨rfl, BW.out⟩

end Go.Proofs.YtljgcjmelmpgoaaDoor
