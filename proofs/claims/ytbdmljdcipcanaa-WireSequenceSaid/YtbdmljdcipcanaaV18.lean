/- The law of the sequence. -/
import Derived.Test.YtbdmljdcipcanaaV9
import Derived.Test.YtbdmljdcipcanaaV17
namespace Go.Proofs.Ytbdmljdcipcanaa
open Go.RowKit
set_option linter.unusedVariables false

/-- a slice of texts that reads as S -/
def SlS (w : World) (ad : Option Addr) (n cap : Nat) (S : List ByteArray) : Prop :=
  S.length = n ∧ n ≤ cap ∧ cap ≤ 9223372036854775807 ∧ (n = 0 ∨ ∃ b off, ad = some ⟨b, off, none⟩ ∧ b < w.heap.size ∧ ∀ i, i < n → w.cell? ⟨b, off + i, none⟩ = some (.string (S.getD i ByteArray.empty)))
theorem SlS.below {w w' : World} {ad : Option Addr} {n cap : Nat} {S : List ByteArray} (h : SlS w ad n cap S) (hb : Below w.heap.size w w') : SlS w' ad n cap S := by
  obtain ⟨h1, h2, h3, h4⟩ := h
  refine ⟨h1, h2, h3, ?_⟩
  rcases h4 with h4 | ⟨b, off, e, hlt, hc⟩
  · exact .inl h4
  · exact .inr ⟨b, off, e, Nat.lt_of_lt_of_le hlt hb.size, fun i hi => (hb.cell (p := ⟨b, off + i, none⟩) hlt).trans (hc i hi)⟩
theorem SlS.at {w : World} {ad : Option Addr} {n cap : Nat} {S : List ByteArray} (h : SlS w ad n cap S) (hn : 0 < n) : ∃ b off, ad = some ⟨b, off, none⟩ ∧ b < w.heap.size ∧ ∀ i, i < n → w.cell? ⟨b, off + i, none⟩ = some (.string (S.getD i ByteArray.empty)) := by
  rcases h.2.2.2 with h | h
  · omega
  · exact h
/-- texts and numbers one after the other -/
def encF : Nat → List ByteArray → List Int
  | _, [] => []
  | j, s :: r => grp s.size ++ (nums s ++ (grp (zz ((j : Int) - 5)) ++ encF (j + 1) r))
theorem encF_at {S : List ByteArray} {i : Nat} (h : i < S.length) : encF i (S.drop i) = grp (S.getD i ByteArray.empty).size ++ (nums (S.getD i ByteArray.empty) ++ (grp (zz ((i : Int) - 5)) ++ encF (i + 1) (S.drop (i + 1)))) := by
  rw [List.drop_eq_getElem_cons h]
  have e : S.getD i ByteArray.empty = S[i] := by simp [h]
  rw [e]
  rfl
theorem encF_end {S : List ByteArray} {i : Nat} (h : S.length ≤ i) : encF i (S.drop i) = [] := by
  rw [List.drop_eq_nil_of_le h]; rfl
theorem below_R {B R : Nat} {w0 w w' : World} (hb : Below B w0 w) (hg : w.grownBy w' (some R)) (hs : B ≤ R) (hz : B ≤ w.heap.size) : Below B w0 w' := below_grownR hb hg hz hs
set_option maxHeartbeats 8000000 in
set_option maxRecDepth 100000 in
theorem law_sequence (ad : Option Addr) (n cap : Nat) (S : List ByteArray) (w : World) (hs : SlS w ad n cap S) (hz : ∀ s ∈ S, s.size ≤ maxLen) :
    Calls Try.prog 6 #[.slice ad n cap] w fun e w' => e = .returned (.bool true) ∧ Below w.heap.size w w' := by
  have HS := Lib.hid hs
  have HZ := Lib.hid hz
  have hnc : n ≤ cap := hs.2.1
  have hc63 := hs.2.2.1
  have HLN : Hid (S.length = n) := Lib.hid hs.1
  clear hs hz
  by_cases hn : 20 < n
  · go_enter Try.func6, Try.ntmps6
    go_wp2_with fail
    refine (awake_c w).mono ?_
    rintro e w1 ⟨rfl, hb1⟩
    have B1 := Lib.hid hb1
    clear hb1
    go_wp2_with fail
    refine (awake_c w1).mono ?_
    rintro e w2 ⟨rfl, hb2⟩
    have B2 := Lib.hid (B1.out.trans (hb2.mono B1.out.size))
    go_wp2
    refine bodyPost_ret (results_tmp rfl _ _ _) rfl ?_
    exact ⟨rfl, B2.out⟩
  · go_enter Try.func6, Try.ntmps6
    go_wp2_with fail
    refine (awake_c w).mono ?_
    rintro e w1 ⟨rfl, hb1⟩
    have B1 := Lib.hid hb1
    clear hb1
    go_wp2
    go_loopw [3, 4] (fun s3 s4 wr => ∃ (i : Nat) (M : List Int) (v : Value), i ≤ n ∧ s4 = .int .i64 (i : Nat) ∧ s3 = v ∧ OwnB wr w.heap.size v M ∧ Below w.heap.size w wr ∧ M ++ encF i (S.drop i) = encF 0 S ∧ M.length ≤ 220 * i ∧ ∀ k, k < i → (S.getD k ByteArray.empty).size ≤ 200) (fun _ s _ => n - (intOf s).toNat)
    case atStart => exact ⟨0, [], _, Nat.zero_le _, rfl, rfl, OwnB.nil _ _, B1.out, rfl, by simp, fun k hk => by omega⟩
    case round =>
      clear B1
      obtain ⟨i, M, v, hi, rfl, rfl, ho, hb, he, hl, hq⟩ := hrel
      obtain ⟨a, c, hv⟩ := ho.slice
      obtain ⟨m, hm⟩ : ∃ m, M.length = m := ⟨_, rfl⟩
      rw [hm] at hv hl
      subst hv
      have BB := Lib.hid hb
      have MM := Lib.hid (ho.sl hm)
      have EE := Lib.hid he
      have LM := Lib.hid hm
      have HQ := Lib.hid hq
      clear ho hb he hm hq
      by_cases hlt : i < n
      · obtain ⟨b, off, ea, hbl, hcs⟩ := (HS.out.below BB.out).at (by omega)
        subst ea
        have k0 := hcs i hlt
        have ef := Lib.hid (encF_at (S := S) (i := i) (by rw [HLN.out]; exact hlt))
        have hsz : (S.getD i ByteArray.empty).size ≤ maxLen := by
          have e : S.getD i ByteArray.empty = S[i]'(by rw [HLN.out]; exact hlt) := by simp [HLN.out, hlt]
          rw [e]
          exact HZ.out _ (List.getElem_mem _)
        obtain ⟨s, hs⟩ : ∃ s, S.getD i ByteArray.empty = s := ⟨_, rfl⟩
        rw [hs] at k0 ef hsz
        have HSS := Lib.hid hs
        have hmx : (s.size : Int) ≤ 9223372036854775807 := by unfold maxLen at hsz; omega
        clear hcs hs
        by_cases hbig : 200 < s.size
        · go_wp2
          refine bodyPost_ret (results_tmp rfl _ _ _) rfl ?_
          exact ⟨rfl, BB.out⟩
        · have NLs := Lib.hid (nums_len s)
          have g1 := Lib.hid (grp_len10 (n := s.size) (by omega))
          have g2 := Lib.hid (grp_len10 (zz_lt (i := (i : Int) - 5) (by omega) (by omega)))
          have HT := Lib.hid (appendText2_c a m c M s wr MM.out (by omega) (by omega))
          go_wp2_with fail
          refine HT.out.mono ?_
          rintro e w2 ⟨v, rfl, hO, hb⟩
          have B2 := Lib.hid (BB.out.trans (hb.mono BB.out.size))
          obtain ⟨a2, c2, rfl⟩ := hO.slice
          have S2 := Lib.hid (hO.sl rfl)
          have l2 : Hid ((M ++ grp s.size ++ nums s).length ≤ m + 210) := Lib.hid (by rw [List.length_append, List.length_append, LM.out, NLs.out]; have := g1.out; omega)
          obtain ⟨m2, hm2⟩ : ∃ m2, (M ++ grp s.size ++ nums s).length = m2 := ⟨_, rfl⟩
          have LM2 := Lib.hid hm2
          rw [hm2] at S2 l2 ⊢
          clear hO hb HT hm2
          have HI := Lib.hid (appendInt_c a2 m2 c2 _ ((i : Int) - 5) w2 S2.out (by omega) (by omega) (by have := l2.out; omega))
          go_wp2_with fail
          refine HI.out.mono ?_
          rintro e w3 ⟨v, rfl, hO, hb⟩
          have B3 := Lib.hid (B2.out.trans (hb.mono B2.out.size))
          have O3 := Lib.hid (hO.le B2.out.size)
          clear hO hb HI
          go_wp2
          go_roundw
          case rel => exact ⟨i + 1, _, _, by omega, by go_num, rfl, O3.out, B3.out, by rw [← EE.out, ef.out]; simp, by rw [List.length_append, LM2.out]; have := l2.out; have := g2.out; omega, fun k hk => (Nat.lt_or_ge k i).elim (fun h => HQ.out k h) (fun h => by have e : k = i := (by omega); rw [e, HSS.out]; omega)⟩
          case measure => simp [intOf]; omega
      · obtain rfl : i = n := by omega
        have EM : Hid (M = encF 0 S) := Lib.hid (by rw [← EE.out, encF_end (by rw [HLN.out]; exact Nat.le_refl _), List.append_nil])
        have hm7 : m ≤ 8000 := by omega
        go_wp2_with fail
        refine (new_c a m c M wr MM.out hm7).mono ?_
        rintro e w2 ⟨R, rfl, hR, hR2, hrd, hb⟩
        have B2 := Lib.hid (BB.out.trans (hb.mono BB.out.size))
        have RD := Lib.hid hrd
        have LR : Hid (w.heap.size ≤ R) := Lib.hid (Nat.le_trans BB.out.size hR)
        clear hb hrd hR hR2
        go_wp2
        go_loopw [6] (fun s6 wr => ∃ (j : Nat), j ≤ i ∧ s6 = .int .i64 (j : Nat) ∧ Rd wr R (encF j (S.drop j)) ∧ Below w.heap.size w wr ∧ (encF j (S.drop j)).length ≤ 5000) (fun s _ => i - (intOf s).toNat)
        case atStart => exact ⟨0, Nat.zero_le _, rfl, by rw [EM.out] at RD; exact RD.out, B2.out, by show (encF 0 S).length ≤ 5000; rw [← EM.out, LM.out]; omega⟩
        case round =>
          clear RD B2
          obtain ⟨j, hj, rfl, hrd, hb, hl5⟩ := hrel
          have BB2 := Lib.hid hb
          have RD := Lib.hid hrd
          have HL5 := Lib.hid hl5
          clear hb hrd hl5
          by_cases hlt : j < i
          · obtain ⟨b, off, ea, hbl, hcs⟩ := (HS.out).at (by omega)
            subst ea
            have k0 := hcs j hlt
            have KC : Hid (∀ W, Below w.heap.size w W → W.cell? ⟨b, off + j, none⟩ = some (.string (S.getD j ByteArray.empty))) := Lib.hid (fun W hW => (hW.cell (p := ⟨b, off + j, none⟩) hbl).trans k0)
            have ef := Lib.hid (encF_at (S := S) (i := j) (by rw [HLN.out]; exact hlt))
            obtain ⟨s, hs⟩ : ∃ s, S.getD j ByteArray.empty = s := ⟨_, rfl⟩
            have hs200 : s.size ≤ 200 := by rw [← hs]; exact HQ.out j hlt
            rw [hs] at KC ef
            obtain ⟨T, hT⟩ : ∃ T, encF (j + 1) (S.drop (j + 1)) = T := ⟨_, rfl⟩
            rw [hT] at ef
            have HT := Lib.hid hT
            rw [ef.out] at RD HL5
            have NLs := Lib.hid (nums_len s)
            have NBs := Lib.hid (nums_back s)
            have hl5 := HL5.out
            rw [List.length_append, List.length_append, List.length_append, NLs.out] at hl5
            have gp := grp_pos s.size
            have TL : Hid (T.length ≤ 5000) := Lib.hid (by omega)
            have LB : Hid (T.length < (grp s.size ++ (nums s ++ (grp (zz ((j : Int) - 5)) ++ T))).length) := Lib.hid (by rw [List.length_append, List.length_append, List.length_append]; omega)
            clear k0 hcs hs hT hl5 gp
            have HLf := Lib.hid (left_c R _ wr RD.out)
            have CT := Lib.hid (text_c R (nums s) (grp (zz ((j : Int) - 5)) ++ T) wr (by rw [NLs.out]; exact RD.out) (by rw [NLs.out]; omega) (by rw [List.length_append]; have := TL.out; have := grp_len10 (zz_lt (i := (j : Int) - 5) (by omega) (by omega)); omega))
            rw [NBs.out] at CT
            obtain ⟨X, hX⟩ : ∃ X, (grp s.size ++ (nums s ++ (grp (zz ((j : Int) - 5)) ++ T))).length = X := ⟨_, rfl⟩
            rw [hX] at HLf LB
            obtain ⟨Y, hY⟩ : ∃ Y, T.length = Y := ⟨_, rfl⟩
            have HY := Lib.hid hY
            rw [hY] at LB TL
            have hYX : (Y : Int) < (X : Int) := by have := LB.out; omega
            clear RD HL5 hX hY ef
            go_wp2_with fail
            refine HLf.out.mono ?_
            rintro e w3 ⟨rfl, rfl⟩
            go_wp2_with fail
            refine CT.out.mono ?_
            rintro e w4 ⟨rfl, hr, hg⟩
            have B4 := Lib.hid (below_R BB2.out hg LR.out BB2.out.size)
            have R4 := Lib.hid hr
            clear hr hg CT HLf
            have CI := Lib.hid (int_c R ((j : Int) - 5) T w4 R4.out (by omega) (by omega))
            go_wp2_with fail
            refine CI.out.mono ?_
            rintro e w5 ⟨rfl, hr, hg⟩
            have B5 := Lib.hid (below_R B4.out hg LR.out B4.out.size)
            have R5 := Lib.hid hr
            clear hr hg CI R4
            have HLg := Lib.hid (left_c R _ w5 R5.out)
            rw [HY.out] at HLg
            have k5 := KC.out w5 B5.out
            go_wp2_with fail
            refine HLg.out.mono ?_
            rintro e w6 ⟨rfl, rfl⟩
            clear HLg
            go_wp2
            go_roundw
            case rel => exact ⟨j + 1, by omega, by go_num, by rw [HT.out]; exact R5.out, B5.out, by rw [HT.out, HY.out]; exact TL.out⟩
            case measure => simp [intOf]; omega
          · obtain rfl : j = i := by omega
            rw [encF_end (by rw [HLN.out]; exact Nat.le_refl _)] at RD
            go_wp2_with fail
            refine (uint_none R wr RD.out).mono ?_
            rintro e w3 ⟨rfl, hr, hg⟩
            have B3 := Lib.hid (below_R BB2.out hg LR.out BB2.out.size)
            have RB := Lib.hid hr
            clear hr hg
            go_wp2_with fail
            refine (done_bad R w3 RB.out).mono ?_
            rintro e w4 ⟨rfl, rfl⟩
            go_wp2
            refine bodyPost_ret (results_tmp rfl _ _ _) rfl ?_
            exact ⟨rfl, B3.out⟩

end Go.Proofs.Ytbdmljdcipcanaa
