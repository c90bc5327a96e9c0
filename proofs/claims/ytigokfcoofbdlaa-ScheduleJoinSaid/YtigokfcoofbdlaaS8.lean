/- The program: run. -/
import Derived.Test.YtigokfcoofbdlaaS7
import Derived.Deep.OwnRows
namespace Go.Proofs.Ytigokfcoofbdlaa
open Go.RowKit
set_option linter.unusedVariables false

/-- the steps' number and the error that run returns, and what holds behind it -/
def RunSays (I : World → List Nat → List Nat → Prop) (R : List Nat × Int) (e : Ending) (w' : World) : Prop := ∃ L', e = .returned (.tuple #[.int .i64 (R.1.length : Nat), .int .i64 R.2]) ∧ I w' L' R.1
/-- what copy asks of its source -/
def SrcOk (w : World) (dp sp : Option Addr) (g off : Nat) (cs : List Value) : Prop := 0 < cs.length → dp = some ⟨g, off, none⟩ ∧ ∃ ad, sp = some ad ∧ ∀ j v, cs[j]? = some v → w.cell? (ad.add j) = some v
/-- what is left of the script -/
theorem SlS.tail {w : World} {b off n c : Nat} {S : List Nat} {k : Nat} (h : SlS w (some ⟨b, off, none⟩) n c (S.drop k)) (hn : 0 < n) : SlS w (some ⟨b, if c = 1 then off else off + 1, none⟩) (n - 1) (c - 1) (S.drop (k + 1)) := by
  obtain ⟨h1, h2, h3, h4⟩ := h
  refine ⟨by clear h4; rw [List.length_drop] at h1 ⊢; omega, by clear h4; omega, by clear h4; omega, ?_⟩
  by_cases hc : c = 1
  · exact .inl (by omega)
  · rcases h4 with h4 | ⟨b', off', e, hlt, hcell⟩
    · omega
    · cases e
      rw [if_neg hc]
      refine .inr ⟨b, off + 1, rfl, hlt, fun i hi => ?_⟩
      have := hcell (i + 1) (by omega)
      rw [show off + (i + 1) = off + 1 + i by omega] at this
      rw [this]
      simp only [List.getD_eq_getElem?_getD, List.getElem?_drop]
      rw [show k + (i + 1) = k + 1 + i by omega]
set_option maxHeartbeats 2000000 in
set_option maxRecDepth 100000 in
theorem run_c (g : Nat) (lb : Array Value) (eg : ∀ args w, (callFunc g args).run Try.prog w = .ok (.enter g args) w) (n : Nat) (L : List Nat) (a1 : Option Addr) (n1 c1 : Nat) (S : List Nat) (most : Int) (w w0 : World) (I : World → List Nat → List Nat → Prop) (hL : L.length = n)
    (hpos : ∀ i, i < n → 0 < L.getD i 0) (hn : n ≤ 12) (hsum : L.sum ≤ 600) (H : StepOk g lb w0 w.heap.size I) (hI : I w L []) (h1 : SlS w0 a1 n1 c1 S) (hS : ∀ i, S.getD i 0 < 256) (hm : 0 ≤ most) :
    Calls Try.prog 23 #[.int .i64 (n : Nat), .slice a1 n1 c1, .int .i64 most, .func (.func g) #[] lb] w fun e w' => RunSays I (ord S most L.sum L (-1) []) e w' := by
  obtain ⟨i0, hi, hz0, hz1, hz2⟩ := info_parts info3z
  have HH := Lib.hid H; clear H
  have H1 := Lib.hid h1; clear h1
  have HP := Lib.hid hpos; clear hpos
  have HSB := Lib.hid hS; clear hS
  have HII := Lib.hid hI; clear hI
  obtain ⟨R, hR⟩ : ∃ R, ord S most L.sum L (-1) [] = R := ⟨_, rfl⟩
  rw [hR]
  have HR := Lib.hid hR; clear hR
  have HU0 : Hid (unf L = List.range n) := Lib.hid (by rw [← hL]; exact unf_all (fun i hi => HP.out i (by omega)))
  have HL := Lib.hid hL; clear hL
  have HSm := Lib.hid hsum; clear hsum
  have hbz : i0.bytes * n ≤ 281474976710656 := by rw [hz2]; omega
  go_enter Try.func23, Try.ntmps23
  go_wp2_with (at_make; refine wpList_make_row _ rfl _ _ 22 rfl 3 i0 (.int .i64 0) Try.underlying22 hi hz0 hz1 rfl _ _ n rfl rfl hbz (by omega) ?_)
  obtain ⟨u, hu⟩ : ∃ u, w.heap.size = u := ⟨_, rfl⟩
  have HUE := Lib.hid hu
  rw [hu] at HH ⊢
  clear hu hbz
  obtain ⟨w1, hw1⟩ : ∃ x, w.alloc (.cells (madeCells #[.int .i64 0] n) 3) = x := ⟨_, rfl⟩
  have UB1 : Hid (UB w1 u n []) := Lib.hid ⟨(madeCells #[.int .i64 0] n).toList, by rw [← hw1, ← HUE.out]; simpa using heap_alloc_new w _, by simp [size_madeCells], by simp [ints, ivals]⟩
  have G1 : Hid (w.grownBy w1 (some u)) := Lib.hid (by rw [← hw1]; exact World.grownBy_alloc w _ _)
  rw [hw1]
  clear hw1
  go_loopw [18] (fun s wr => ∃ i : Nat, i ≤ n ∧ s = .int .i64 i ∧ Hid (UB wr u n (List.range i)) ∧ Hid (w.grownBy wr (some u))) (fun s _ => n - (intOf s).toNat)
  case atStart => exact ⟨0, by omega, rfl, UB1, G1⟩
  case round =>
    clear UB1 G1
    obtain ⟨i, hi2, rfl, hub, hgr⟩ := hrel
    by_cases hlt : i < n
    · obtain ⟨v0, kc⟩ := hub.out.spare hlt
      have kf := hub.out.frozen i
      go_wp2
      go_roundw
      case rel => exact ⟨i + 1, by omega, by go_num, Lib.hid (by rw [List.range_succ]; exact hub.out.put (by simp) hlt i), Lib.hid (grown_trans hgr.out (grown_set _ _ _ _))⟩
      case measure => simp [intOf]; omega
    · have hin : i = n := by omega
      have hub2 : Hid (UB wr u n (unf L)) := Lib.hid (by rw [HU0.out]; have := hub.out; rwa [hin] at this)
      have HI1 : Hid (I wr L []) := Lib.hid (HH.out.keep _ _ _ _ HII.out hgr.out)
      clear hub hgr HII hin
      obtain ⟨w2, hw2⟩ : ∃ x, wr = x := ⟨_, rfl⟩
      rw [hw2] at hub2 HI1
      have hul : (unf L).length = n := by rw [HU0.out]; simp
      go_wp2
      go_loopw [1, 10, 12, 13] (fun s1 s10 s12 s13 wr => ∃ (L' out : List Nat) (x : Int) (nx : Nat) (ad : Option Addr) (m m1 c : Nat), s1 = .slice ad m1 c ∧ s10 = .slice (some ⟨u, 0, none⟩) m n ∧ s12 = .int .i64 (nx : Nat) ∧ s13 = .int .i64 (out.length : Nat) ∧
          m ≤ n ∧ (0 < m → nx < m) ∧ (m = 0 → out.length = 0) ∧ Hid ((unf L').length = m) ∧ Hid (SlS w0 ad m1 c (S.drop out.length)) ∧ Hid (UB wr u n (unf L')) ∧ Hid (I wr L' out) ∧ Hid (aft (unf L') x = (unf L').getD nx 0) ∧ Hid (L'.length = n) ∧ Hid (L'.sum + out.length = L.sum) ∧ Hid (ord S most L'.sum L' x out = R)) (fun _ _ _ s _ => 1000 - (intOf s).toNat)
      case atStart =>
        refine ⟨L, [], -1, 0, a1, n, n1, c1, rfl, rfl, rfl, rfl, by omega, by omega, by intro _; rfl, Lib.hid hul, H1, hub2, HI1, Lib.hid ?_, HL, Lib.hid rfl, HR⟩
        rw [HU0.out]
        cases n with
        | zero => rfl
        | succ n => rw [List.range_succ_eq_map]; rfl
      case round =>
        clear hub2 HI1 H1 HR hul
        obtain ⟨L', out, x, nx, ad, m, m1, c, rfl, rfl, rfl, rfl, hmn, hnx, hm0, HM, HS1, HUB, HI', HA, HL', HSL, HRR⟩ := hrel
        by_cases hpm : 0 < m
        · have hnx2 := hnx hpm
          clear hnx hm0
          have hne : unf L' ≠ [] := by intro e; have := HM.out; rw [e] at this; simp at this; omega
          have HNE := Lib.hid hne
          clear hne
          by_cases hlim : (out.length : Int) = most
          · have HE : Hid ((out, (8 : Int)) = R) := Lib.hid (by
              have := HRR.out
              obtain ⟨f, hf⟩ : ∃ f, L'.sum = f + 1 := ⟨L'.sum - 1, by have := sum_pos HNE.out; omega⟩
              rwa [hf, ord_limit HNE.out hlim] at this)
            go_wp2
            refine bodyPost_ret (results_tmp2 rfl _ _ _) rfl ?_
            rw [← HE.out]
            exact ⟨L', rfl, HI'.out⟩
          · obtain ⟨p, hp⟩ : ∃ p, pick S L' x out = p := ⟨_, rfl⟩
            have HP1 := Lib.hid hp
            clear hp
            go_upto_if 37 with fail
            go_cut [1, 12] (fun s1 s12 wc => ∃ (nx' : Nat) (ad' : Option Addr) (m1' c' : Nat), s1 = .slice ad' m1' c' ∧ s12 = .int .i64 (nx' : Nat) ∧ nx' < m ∧ Hid (SlS w0 ad' m1' c' (S.drop (out.length + 1))) ∧ Hid ((unf L').getD nx' 0 = p) ∧ wr = wc)
            case first =>
              by_cases hs : 0 < m1
              · have SW := HS1.out.below (HH.out.below _ _ _ HI'.out)
                obtain ⟨b, off, rfl, hcs⟩ : ∃ b off, ad = some ⟨b, off, none⟩ ∧ ∀ i, i < m1 → wr.cell? ⟨b, off + i, none⟩ = some (.int .u8 ((S.drop out.length).getD i 0 : Nat)) := by
                  rcases SW.2.2.2 with h | ⟨b, off, e, _, hc⟩
                  · omega
                  · exact ⟨b, off, e, hc⟩
                have k0 := hcs 0 hs
                rw [Nat.add_zero] at k0
                have hsl : out.length < S.length := by have := HS1.out.1; rw [List.length_drop] at this; omega
                have TL := Lib.hid (HS1.out.tail hs)
                have hcap : m1 ≤ c ∧ c ≤ 9223372036854775807 := ⟨HS1.out.2.1, HS1.out.2.2.1⟩
                obtain ⟨sb, hsb⟩ : ∃ y, S.getD out.length 0 = y := ⟨_, rfl⟩
                have e0 : (S.drop out.length).getD 0 0 = sb := by rw [← hsb]; simp [List.getD_eq_getElem?_getD]
                rw [e0] at k0
                have HPE : Hid ((unf L').getD (sb % m) 0 = p) := Lib.hid (by rw [← HP1.out, ← hsb, ← HM.out]; unfold pick; rw [if_pos hsl])
                have hsb2 : sb < 256 := by rw [← hsb]; exact HSB.out _
                have hkl := Nat.mod_lt sb hpm
                clear hcs SW hsb e0 hsl
                by_cases hc1 : c = 1
                · have T2 := TL.out
                  rw [if_pos hc1] at T2
                  have TT := Lib.hid T2
                  clear T2 TL
                  subst hc1
                  obtain rfl : m1 = 1 := by omega
                  go_wp2_with fail
                  go_meet
                  case rel => exact ⟨sb % m, _, _, _, rfl, rfl, hkl, TT, HPE, rfl⟩
                · have T2 := TL.out
                  rw [if_neg hc1] at T2
                  have TT := Lib.hid T2
                  clear T2 TL
                  go_wp2_with fail
                  go_meet
                  case rel => exact ⟨sb % m, _, _, _, rfl, rfl, hkl, TT, HPE, rfl⟩
              · have hsl : ¬ out.length < S.length := by have := HS1.out.1; rw [List.length_drop] at this; omega
                have HPE : Hid ((unf L').getD nx 0 = p) := Lib.hid (by rw [← HP1.out]; unfold pick; rw [if_neg hsl]; exact HA.out.symm)
                have TT : Hid (SlS w0 ad m1 c (S.drop (out.length + 1))) := Lib.hid (by
                  obtain ⟨q1, q2, q3, q4⟩ := HS1.out
                  rw [List.length_drop] at q1
                  exact ⟨by rw [List.length_drop]; omega, q2, q3, .inl (by omega)⟩)
                go_wp2_with fail
                go_meet
                case rel => exact ⟨nx, _, _, _, rfl, rfl, hnx2, TT, HPE, rfl⟩
            case rest =>
              clear HS1 hnx2 HA
              obtain ⟨nx', ad', m1', c', rfl, rfl, hnx', HS2, HPE, rfl⟩ := hcut
              obtain ⟨k, rfl⟩ : ∃ k, m = k + 1 := ⟨m - 1, by omega⟩
              have kp := HUB.out.cell (i := nx') (by rw [HM.out]; exact hnx')
              rw [HPE.out] at kp
              have hpm2 : Hid (p ∈ unf L') := Lib.hid (by rw [← HPE.out]; simp [HM.out, hnx'])
              have hpl : Hid (p < L'.length ∧ 0 < L'.getD p 0) := Lib.hid (mem_unf.1 hpm2.out)
              have HX : Hid (ord S most (dec L' p).sum (dec L' p) p (out ++ [p]) = R) := Lib.hid (by
                have := HRR.out
                rw [← sum_dec hpl.out.1 hpl.out.2, ord_step HNE.out hlim, HP1.out] at this
                exact this)
              clear HP1 HRR
              have HSZ : Hid (out.length < 600) := Lib.hid (by have := HSL.out; have := HSm.out; have := sum_pos HNE.out; omega)
              have hszb := HSZ.out
              have HLN : Hid ((dec L' p).length = n ∧ (dec L' p).sum + (out ++ [p]).length = L.sum) := Lib.hid ⟨by rw [dec_len]; exact HL'.out, by have := sum_dec hpl.out.1 hpl.out.2; have := HSL.out; rw [List.length_append]; simp; omega⟩
              have SL2 : Hid (SlS w0 ad' m1' c' (S.drop (out ++ [p]).length)) := Lib.hid (by rw [List.length_append]; exact HS2.out)
              clear HS2
              go_wp2_with fail
              refine (HH.out.step wr L' out p HI'.out hpl.out.1 hpl.out.2 (by have := HSL.out; have := HSm.out; omega) HUB.out.lt).mono ?_
              rintro e w3 ⟨rfl, hi3, hu3, hz3⟩
              have HI3 := Lib.hid hi3; clear hi3
              have UB3 : Hid (UB w3 u n (unf L')) := Lib.hid (HUB.out.of hu3)
              clear hu3 hz3 kp
              have pw : IntKind.i64.wrap ((nx' : Int) + 1) = (nx' : Int) + 1 := by apply IntWalk.i64_in _ <;> omega
              have HPW := Lib.hid pw
              by_cases hfin : L'.getD p 0 = 1
              · rw [decide_eq_true hfin]
                have HN : Hid (unf (dec L' p) = (unf L').take nx' ++ (unf L').drop (nx' + 1)) := Lib.hid (by
                  have h1 := unf_gone (L := L') (k := nx') (by rw [HM.out]; exact hnx') (by rw [HPE.out]; exact hfin)
                  rwa [HPE.out] at h1)
                have HA2 : Hid (aft (unf (dec L' p)) (p : Nat) = (unf (dec L' p)).getD (if nx' < k then nx' else 0) 0) := Lib.hid (by
                  have h1 := aft_gone (unf_sorted L') (n := nx') (by rw [HM.out]; exact hnx')
                  rw [HPE.out, HM.out] at h1
                  rw [HN.out]; exact h1)
                have HM2 : Hid ((unf (dec L' p)).length = k) := Lib.hid (by rw [HN.out, List.length_append, List.length_take, List.length_drop, HM.out]; omega)
                obtain ⟨cur, hcu, hcl, hct⟩ := UB3.out
                have HCU := Lib.hid hcu; have HCL := Lib.hid hcl; have HCT := Lib.hid hct
                clear hcu hcl hct hfin
                have hw0 : (0 : Int) ≤ (nx' : Int) + 1 := by omega
                have hw1 : ((nx' : Int) + 1).toNat = nx' + 1 := by omega
                have hw2 : (nx' : Int) ≤ (k : Int) + 1 := by omega
                have hw3 : (nx' : Int) ≤ (k : Int) := by omega
                have hc0 : ¬ n = nx' := by omega
                have hcs : ((ivals (ints (unf L'))).drop (nx' + 1)).length = k - nx' := by rw [List.length_drop]; simp only [ivals, List.length_map, ints_len, HM.out]; omega
                have s1 : Hid (((ivals (ints (unf L'))).drop (nx' + 1)).length = Nat.min (k - nx') (k + 1 - nx')) := Lib.hid (by rw [hcs]; exact (Nat.min_eq_left (by omega)).symm)
                have s3 : Hid (nx' + ((ivals (ints (unf L'))).drop (nx' + 1)).length ≤ cur.length) := Lib.hid (by rw [hcs, HCL.out]; omega)
                have s4 : Hid (∀ v ∈ (ivals (ints (unf L'))).drop (nx' + 1), v.oneCell' = true) := Lib.hid (fun v hv => iv_one v (List.mem_of_mem_drop hv))
                by_cases hlast : nx' = k
                · have hl1 : (k : Int) ≤ (nx' : Int) := by omega
                  have s2 : SrcOk w3.drew (some ⟨u, nx', none⟩) (if n = nx' + 1 then some ⟨u, 0, none⟩ else some ⟨u, nx' + 1, none⟩) u nx' ((ivals (ints (unf L'))).drop (nx' + 1)) := by intro h; omega
                  clear hcs hlast
                  go_upto_region 17 with fail
                  go_region_law (refine step_copy_grown rfl (.tmp 55) (.tmp 59) 22 22 rfl 3 Try.underlying22 (by kernel_rfl) (some ⟨u, nx', none⟩) (if n = nx' + 1 then some ⟨u, 0, none⟩ else some ⟨u, nx' + 1, none⟩) (k + 1 - nx') (n - nx') (k - nx') (n - (nx' + 1)) (by simp [Act.eval, Act.put]) (by simp [Act.eval, Act.put]) u nx' cur 3 HCU.out ((ivals (ints (unf L'))).drop (nx' + 1)) s1.out s2 s3.out s4.out ?_; intro w4 hg4 hb4)
                  have UB4 : Hid (UB w4 u n (unf (dec L' p))) := Lib.hid (by rw [HN.out]; exact UB.cut HCL.out HCT.out (by rw [HM.out]; exact hnx') (by rw [HM.out]; exact hmn) hg4.out)
                  have HI4 : Hid (I w4 (dec L' p) (out ++ [p])) := Lib.hid (HH.out.keep _ _ _ _ HI3.out (grown_trans (grown_drew w3 (some u)) hb4.out))
                  clear hg4 hb4 HI3 HCU HCL HCT HN UB3 s1 s2 s3 s4 pw hw0 hw1 hc0
                  by_cases hk0 : k = 0
                  · have HE : Hid ((out ++ [p], (0 : Int)) = R) := Lib.hid (by
                      have := HX.out
                      rwa [ord_done (List.eq_nil_of_length_eq_zero (by rw [HM2.out]; exact hk0))] at this)
                    go_wp2
                    all_goals
                      refine bodyPost_ret (results_tmp2 rfl _ _ _) rfl ?_
                      rw [← HE.out]
                      exact ⟨dec L' p, by rw [List.length_append]; go_num, HI4.out⟩
                  · go_wp2
                    all_goals
                      go_roundw
                      case rel => exact ⟨dec L' p, out ++ [p], p, 0, ad', k, m1', c', rfl, rfl, rfl, by rw [List.length_append]; go_num, by omega, by omega, by omega, HM2, SL2, UB4, HI4, Lib.hid (by have := HA2.out; rwa [if_neg (by omega)] at this), Lib.hid HLN.out.1, Lib.hid HLN.out.2, HX⟩
                      case measure => simp [intOf]; omega

                · have hcap : ¬ n = nx' + 1 := by omega
                  have s2 : SrcOk w3.drew (some ⟨u, nx', none⟩) (some ⟨u, nx' + 1, none⟩) u nx' ((ivals (ints (unf L'))).drop (nx' + 1)) := fun _ => ⟨rfl, _, rfl, fun j v hv => by
                    have hj : j < k - nx' := by
                      rcases Nat.lt_or_ge j (k - nx') with h | h
                      · exact h
                      · rw [List.getElem?_eq_none (by omega)] at hv; cases hv
                    rw [Addr.add_mid]
                    show w3.cell? _ = _
                    rw [UB3.out.cell (by rw [HM.out]; omega)]
                    rw [List.getElem?_drop, iv_at (by rw [ints_len, HM.out]; omega), ints_at] at hv
                    exact hv⟩
                  clear hcs
                  go_upto_region 17 with fail
                  go_region_law (refine step_copy_grown rfl (.tmp 55) (.tmp 59) 22 22 rfl 3 Try.underlying22 (by kernel_rfl) (some ⟨u, nx', none⟩) (some ⟨u, nx' + 1, none⟩) (k + 1 - nx') (n - nx') (k - nx') (n - (nx' + 1)) (by simp [Act.eval, Act.put]) (by simp [Act.eval, Act.put]) u nx' cur 3 HCU.out ((ivals (ints (unf L'))).drop (nx' + 1)) s1.out s2 s3.out s4.out ?_; intro w4 hg4 hb4)
                  have UB4 : Hid (UB w4 u n (unf (dec L' p))) := Lib.hid (by rw [HN.out]; exact UB.cut HCL.out HCT.out (by rw [HM.out]; exact hnx') (by rw [HM.out]; exact hmn) hg4.out)
                  have HI4 : Hid (I w4 (dec L' p) (out ++ [p])) := Lib.hid (HH.out.keep _ _ _ _ HI3.out (grown_trans (grown_drew w3 (some u)) hb4.out))
                  clear hg4 hb4 HI3 HCU HCL HCT HN UB3 s1 s2 s3 s4 pw hw0 hw1 hc0
                  go_wp2
                  go_roundw
                  case rel => exact ⟨dec L' p, out ++ [p], p, nx', ad', k, m1', c', rfl, rfl, rfl, by rw [List.length_append]; go_num, by omega, by omega, by omega, HM2, SL2, UB4, HI4, Lib.hid (by have := HA2.out; rwa [if_pos (by omega)] at this), Lib.hid HLN.out.1, Lib.hid HLN.out.2, HX⟩
                  case measure => simp [intOf]; omega
              · rw [decide_eq_false hfin]
                have HN : Hid (unf (dec L' p) = unf L') := Lib.hid (unf_more hpl.out.1 (by have := hpl.out.2; omega))
                have HA2 : Hid (aft (unf (dec L' p)) (p : Nat) = (unf (dec L' p)).getD (if nx' + 1 < k + 1 then nx' + 1 else 0) 0) := Lib.hid (by
                  have h1 := aft_next (unf_sorted L') (n := nx') (by rw [HM.out]; exact hnx')
                  rw [HPE.out, HM.out] at h1
                  rw [HN.out]; exact h1)
                have UB4 : Hid (UB w3 u n (unf (dec L' p))) := Lib.hid (by rw [HN.out]; exact UB3.out)
                have HM2 : Hid ((unf (dec L' p)).length = k + 1) := Lib.hid (by rw [HN.out]; exact HM.out)
                clear hfin HN UB3 pw
                by_cases hlast : nx' = k
                · go_wp2
                  go_roundw
                  case rel => exact ⟨dec L' p, out ++ [p], p, 0, ad', k + 1, m1', c', rfl, rfl, rfl, by rw [List.length_append]; go_num, by omega, by omega, by omega, HM2, SL2, UB4, HI3, Lib.hid (by have := HA2.out; rwa [if_neg (by omega)] at this), Lib.hid HLN.out.1, Lib.hid HLN.out.2, HX⟩
                  case measure => simp [intOf]; omega
                · go_wp2
                  go_roundw
                  case rel => exact ⟨dec L' p, out ++ [p], p, nx' + 1, ad', k + 1, m1', c', rfl, rfl, by go_num, by rw [List.length_append]; go_num, by omega, by omega, by omega, HM2, SL2, UB4, HI3, Lib.hid (by have := HA2.out; rwa [if_pos (by omega)] at this), Lib.hid HLN.out.1, Lib.hid HLN.out.2, HX⟩
                  case measure => simp [intOf]; omega
        · have hmz : m = 0 := by omega
          have ho := hm0 hmz
          have HE : Hid ((out, (0 : Int)) = R) := Lib.hid (by
              have := HRR.out
              rwa [ord_done (List.eq_nil_of_length_eq_zero (by rw [HM.out]; exact hmz))] at this)
          have HO := Lib.hid ho
          clear ho hm0 hnx
          go_wp2
          refine bodyPost_ret (results_tmp2 rfl _ _ _) rfl ?_
          rw [← HE.out]
          exact ⟨L', by rw [HO.out]; rfl, HI'.out⟩

end Go.Proofs.Ytigokfcoofbdlaa
