/- The law of reading. -/
import Derived.Test.YtcdkehghdhcokaaDoorX16
namespace Go.Proofs.YtcdkehghdhcokaaDoor.wr
open Go.RowKit
set_option linter.unusedVariables false
set_option linter.unusedSimpArgs false

/-- a reader whose bytes are its own: in blocks from B on -/
def StB (B t : Nat) (w : World) (R : Nat) (L : List Int) : Prop := ∃ a c, w.heap[R]? = some (.cells #[.slice a L.length c, .bool false] t (0, 0)) ∧ SlB w a L.length c L ∧ (∀ b off, a = some ⟨b, off, none⟩ → 0 < L.length → b ≠ R) ∧ ∀ b off, a = some ⟨b, off, none⟩ → 0 < L.length → B ≤ b
theorem StB.st {B t : Nat} {w : World} {R : Nat} {L : List Int} (h : StB B t w R L) : St t w R (some L) := by
  obtain ⟨a, c, h1, h2, h3, _⟩ := h
  exact ⟨a, c, h1, h2, h3⟩
theorem StB.below {B t : Nat} {w w' : World} {R : Nat} {L : List Int} (h : StB B t w R L) (hb : Below w.heap.size w w') : StB B t w' R L := by
  obtain ⟨a, c, h1, h2, h3, h4⟩ := h
  exact ⟨a, c, (hb.block R (Array.getElem?_eq_some_iff.1 h1).1).trans h1, h2.below hb, h3, h4⟩
theorem StB.set {B t g i : Nat} {w : World} {R : Nat} {L : List Int} {v : Value} (h : StB B t w R L) (hR : B ≤ R) (hg : g < B) : StB B t (w.setCell ⟨g, i, none⟩ v) R L := by
  obtain ⟨a, c, h1, h2, h3, h4⟩ := h
  refine ⟨a, c, (heap_setCell_other _ _ R _ (by show R ≠ g; omega)).trans h1, ?_, h3, h4⟩
  obtain ⟨g1, g2, g3, g4, g5⟩ := h2
  refine ⟨g1, g2, g3, g4, ?_⟩
  rcases g5 with g5 | ⟨b, off, e, hlt, hc⟩
  · exact .inl g5
  · by_cases hn : L.length = 0
    · exact .inl hn
    · have hb := h4 b off e (by omega)
      exact .inr ⟨b, off, e, by rw [World.size_setCell]; exact hlt, fun j hj => ((grown_set w g i v).cell (hc j hj) (by simp; omega))⟩
/-- what New answers, with the place of its bytes -/
def MadeB (t : Nat) (L : List Int) (w : World) (e : Ending) (w' : World) : Prop := ∃ R, e = .returned (.pointer (some ⟨R, 0, none⟩)) ∧ w.heap.size ≤ R ∧ R < w'.heap.size ∧ StB w.heap.size t w' R L ∧ Below w.heap.size w w'
theorem OwnB.from {w : World} {base : Nat} {a : Option Addr} {n c : Nat} {L : List Int} (h : OwnB w base (.slice a n c) L) : ∀ b off, a = some ⟨b, off, none⟩ → base ≤ b := by
  intro b off e
  rcases id h.2 with ⟨hv, h0⟩ | ⟨g, cap, cur, hv, hg, _⟩
  · injection hv with e1 e2 e3
    rw [e1] at e; cases e
  · injection hv with e1 e2 e3
    rw [e1] at e
    injection e with e; injection e with e1 e2
    omega
set_option maxHeartbeats 4000000 in
set_option maxRecDepth 100000 in
theorem madeB_g (a : Option Addr) (n c : Nat) (L : List Int) (w : World) (hs : SlB w a n c L) (hn : n ≤ 8000) : Calls Tryd.prog 8 #[.slice a n c] w (MadeB 63 L w) := by
  have HC := Lib.hid (clone_c a n c L w hs hn)
  clear hs
  go_enter Tryd.func8, Tryd.ntmps8
  go_wp2_with fail
  refine HC.out.mono ?_
  rintro e w1 ⟨v, rfl, hO, hb⟩
  obtain ⟨a1, c1, rfl⟩ := hO.slice
  have S1 := Lib.hid (hO.sl rfl)
  have F1 := Lib.hid hO.from
  have B1 := Lib.hid hb
  clear hO hb HC
  go_wp2
  refine bodyPost_ret (results_tmp rfl _ _ _) rfl ?_
  refine ⟨w1.heap.size, rfl, B1.out.size, by simp, ⟨a1, c1, heap_alloc_new w1 _, S1.out.below (Below.newBlock _), fun b off e h0 => ?_, fun b off e h0 => F1.out b off e⟩, B1.out.alloc B1.out.size _⟩
  obtain ⟨b', off', e', hlt, _⟩ := S1.out.at h0
  rw [e] at e'
  injection e' with e'; injection e' with e1 e2
  omega
set_option maxHeartbeats 4000000 in
set_option maxRecDepth 100000 in
theorem rmadeB_g (a : Option Addr) (n c : Nat) (L : List Int) (w : World) (hs : SlB w a n c L) (hn : n ≤ 8000) : Calls Tryd.prog 9 #[.slice a n c] w (MadeB 65 L w) := by
  have SA := Lib.hid (hs.below (Below.newBlock (.cells #[] 5)))
  have HLN : Hid (L.length = n) := Lib.hid hs.1
  have OH := Lib.hid (OwnB.made (w := w) (Nat.le_refl _) [] (by simp))
  clear hs
  go_enter Tryd.func9, Tryd.ntmps9
  go_wp2_with (at_builtin; refine wpList_append_bs rfl (.tmp 3) (.tmp 4) 22 22 rfl Tryd.underlying22 w.heap.size _ [] rfl OH.out _ n L rfl (SA.out.asSrc Tryd.underlying22) HLN.out (by simp; omega) (by simp) ?_; intro v1 w1 hO1 hB1; rw [List.nil_append] at hO1; have O1 := Lib.hid hO1; have B1 := Lib.hid ((Below.newBlock (w := w) (.cells #[] 5)).trans hB1); clear hO1 hB1 OH SA; obtain ⟨a1, c1, rfl⟩ := O1.out.slice; have S1 := Lib.hid (O1.out.sl rfl); have F1 := Lib.hid O1.out.from; clear O1)
  refine bodyPost_ret (results_tmp rfl _ _ _) rfl ?_
  refine ⟨w1.heap.size, rfl, B1.out.size, by simp, ⟨a1, c1, heap_alloc_new w1 _, S1.out.below (Below.newBlock _), fun b off e h0 => ?_, fun b off e h0 => F1.out b off e⟩, B1.out.alloc B1.out.size _⟩
  obtain ⟨b', off', e', hlt, _⟩ := S1.out.at h0
  rw [e] at e'
  injection e' with e'; injection e' with e1 e2
  omega

set_option maxHeartbeats 8000000 in
set_option maxRecDepth 100000 in
theorem law_reads (a : Option Addr) (n c : Nat) (L : List Int) (a2 : Option Addr) (n2 c2 : Nat) (K : List Int) (w : World) (h : SlB w a n c L) (h2 : SlB w a2 n2 c2 K) (hby : Bytes L) (hky : Bytes K) (hT : Tab w) :
    Calls Tryd.prog 3 #[.slice a n c, .slice a2 n2 c2] w fun e w' => e = .returned (.bool true) ∧ Below w.heap.size w w' := by
  have H := Lib.hid h
  have H2 := Lib.hid h2
  have HT := Lib.hid hT
  have HBY := Lib.hid hby
  have HKY := Lib.hid hky
  have HL := Lib.hid h.1
  have HK := Lib.hid h2.1
  clear h h2 hT hby hky
  by_cases q0 : 400 < n
  · have q0i : (400 : Int) < (n : Int) := by omega
    go_enter Tryd.func3, Tryd.ntmps3
    go_wp2_with fail
    refine (awake_c w).mono ?_
    rintro e w1 ⟨rfl, hb1⟩
    have B1 := Lib.hid hb1
    clear hb1
    go_wp2_with fail
    refine (awake_c w1).mono ?_
    rintro e w2 ⟨rfl, hb2⟩
    have B2 := Lib.hid (B1.out.trans (hb2.mono B1.out.size))
    clear hb2
    go_wp2
    refine bodyPost_ret (results_tmp rfl _ _ _) rfl ?_
    exact ⟨rfl, B2.out⟩
  by_cases q1 : 30 < n2
  · have q0i : ¬ ((400 : Int) < (n : Int)) := by omega
    have q1i : (30 : Int) < (n2 : Int) := by omega
    go_enter Tryd.func3, Tryd.ntmps3
    go_wp2_with fail
    refine (awake_c w).mono ?_
    rintro e w1 ⟨rfl, hb1⟩
    have B1 := Lib.hid hb1
    clear hb1
    go_wp2_with fail
    refine (awake_c w1).mono ?_
    rintro e w2 ⟨rfl, hb2⟩
    have B2 := Lib.hid (B1.out.trans (hb2.mono B1.out.size))
    clear hb2
    go_wp2
    refine bodyPost_ret (results_tmp rfl _ _ _) rfl ?_
    exact ⟨rfl, B2.out⟩
  · have q0i : ¬ ((400 : Int) < (n : Int)) := by omega
    have q1i : ¬ ((30 : Int) < (n2 : Int)) := by omega
    have hn4 : (n : Int) ≤ 400 := by omega
    go_enter Tryd.func3, Tryd.ntmps3
    go_wp2_with fail
    refine (awake_c w).mono ?_
    rintro e w1 ⟨rfl, hb1⟩
    have B1 := Lib.hid hb1
    have S1 := Lib.hid (H.out.below hb1)
    clear hb1
    have OH := Lib.hid (OwnB.made (w := w1) (Nat.le_refl _) [] (by simp))
    have SA := Lib.hid (S1.out.below (Below.newBlock (.cells #[] 5)))
    go_wp2_with (at_builtin; refine wpList_append_bs rfl (.tmp 23) (.tmp 24) 22 22 rfl Tryd.underlying22 w1.heap.size _ [] rfl OH.out _ n L rfl (SA.out.asSrc Tryd.underlying22) HL.out (by simp; omega) (by simp) ?_; intro v2 w2 hO2 hB2; rw [List.nil_append] at hO2; have O2 := Lib.hid hO2; have B2 := Lib.hid (B1.out.trans (((Below.newBlock (w := w1) (.cells #[] 5)).trans hB2).mono B1.out.size)); clear hO2 hB2 OH SA)
    obtain ⟨g1, cg, hv2⟩ := O2.out.slice
    rw [HL.out] at hv2
    subst hv2
    have SL2 := O2.out.sl HL.out
    have HG : ∀ x, g1 = some x → 0 < n → ∃ g cur, x = ⟨g, 0, none⟩ ∧ w2.heap[g]? = some (.cells cur 5 (0, 0)) ∧ n ≤ cur.size := fun x ex h0 => by
      rcases id O2.out.2 with ⟨hv, h0'⟩ | ⟨g, cap, cur, hv, hg, hh, h1, h2, h3, h4⟩
      · rw [HL.out] at h0'; omega
      · injection hv with e1 e2 e3
        rw [ex] at e1
        injection e1 with e1
        refine ⟨g, cur, e1, hh, ?_⟩
        rw [HL.out] at h1
        simp at h3
        omega
    have HG2 := Lib.hid HG
    have GF := Lib.hid (show ∀ g, g1 = some ⟨g, 0, none⟩ → w.heap.size ≤ g from fun g e => Nat.le_trans B1.out.size (O2.out.from g 0 e))
    have S2 := Lib.hid SL2
    clear O2 HG SL2
    refine (madeB_g g1 n cg L w2 S2.out (by omega)).mono ?_
    rintro e w3 ⟨R, rfl, hR, hR2, hst, hb3⟩
    have B3 := Lib.hid (B2.out.trans (hb3.mono B2.out.size))
    have SR3 := Lib.hid hst
    have LR := Lib.hid hR
    have b3 := Lib.hid hb3
    have HR3 := Lib.hid hR2
    clear hst hb3 hR hR2
    go_wp2_with fail
    refine (rmadeB_g a n c L w3 (H.out.below B3.out) (by omega)).mono ?_
    rintro e w4 ⟨Q, rfl, hQ, hQ2, hst, hb4⟩
    have B4 := Lib.hid (B3.out.trans (hb4.mono B3.out.size))
    have SR4 := Lib.hid (SR3.out.below hb4)
    have NE := Lib.hid (show R ≠ Q by have := HR3.out; omega)
    have LQ := Lib.hid (show w2.heap.size ≤ Q from Nat.le_trans b3.out.size hQ)
    have SQ4 : Hid (StB w2.heap.size 65 w4 Q L) := Lib.hid (by obtain ⟨x, y, h1, h2, h3, h4⟩ := hst; exact ⟨x, y, h1, h2, h3, fun b off e h => Nat.le_trans b3.out.size (h4 b off e h)⟩)
    have b24 := Lib.hid (b3.out.trans (hb4.mono b3.out.size))
    clear hst hb4 hQ hQ2 SR3 B3 b3 HR3
    go_wp2
    go_loopw [8] (fun s8 wr => ∃ i : Nat, i ≤ n ∧ s8 = .int .i64 (i : Nat) ∧ StB w2.heap.size 63 wr R L ∧ StB w2.heap.size 65 wr Q L ∧ Below w.heap.size w wr ∧ (∀ x, g1 = some x → 0 < n → ∃ g cur, x = ⟨g, 0, none⟩ ∧ g < w2.heap.size ∧ w.heap.size ≤ g ∧ wr.heap[g]? = some (.cells cur 5 (0, 0)) ∧ n ≤ cur.size)) (fun s _ => n - (intOf s).toNat)
    case atStart =>
      refine ⟨0, by omega, rfl, SR4.out, SQ4.out, B4.out, fun x ex h0 => ?_⟩
      obtain ⟨g, cur, e1, e2, e3⟩ := HG2.out x ex h0
      have hgl : g < w2.heap.size := (Array.getElem?_eq_some_iff.1 e2).1
      refine ⟨g, cur, e1, hgl, ?_, (b24.out.block g hgl).trans e2, e3⟩
      have hF := GF.out g (by rw [ex, e1])
      exact hF
    case round =>
      obtain ⟨i, hi, rfl, hr, hq, hb, hg⟩ := hrel
      have SR5 := Lib.hid hr
      have SQ5 := Lib.hid hq
      have B5 := Lib.hid hb
      have GG := Lib.hid hg
      clear hr hq hb hg SR4 SQ4 B4 HG2
      by_cases hlt : i < n
      · obtain ⟨b, off, ea, _, _⟩ := S2.out.at (by omega)
        subst ea
        obtain ⟨g, cur, ex, hgl, hgb, hh, hcur⟩ := GG.out _ rfl (by omega)
        injection ex with e1 e2
        subst e1; subst e2
        have HH := Lib.hid hh
        have ki : wr.cell? ⟨b, 0 + i, none⟩ = some (cur[i]'(by omega)) := by rw [Nat.zero_add, cell_of_row wr b i _ 5 (0, 0) hh]; simp [show i < cur.size by omega]
        have fi := frozen_of_row wr b (0 + i) _ 5 hh
        rw [Nat.zero_add] at ki fi
        have hii : (i : Int) < (n : Int) := by omega
        have hi0 : (0 : Int) ≤ (i : Int) := by omega
        obtain ⟨u, hu⟩ : ∃ u, cur[i]'(by omega) = u := ⟨_, rfl⟩
        rw [hu] at ki
        have HCUR := Lib.hid hcur
        have HGL := Lib.hid hgl
        have HGB := Lib.hid hgb
        clear hh hcur hu hgl hgb
        go_wp2
        go_roundw
        case rel => exact ⟨i + 1, by omega, by go_num, SR5.out.set LR.out HGL.out, SQ5.out.set LQ.out HGL.out, B5.out.setCell HGB.out _, fun x ex h0 => by injection ex with ex; subst ex; exact ⟨b, _, rfl, HGL.out, HGB.out, heap_setCell_same wr b i _ 5 _ HH.out, by simpa using HCUR.out⟩⟩
        case measure => simp [intOf]; omega
      · obtain rfl : i = n := by omega
        have hge : ¬ ((i : Int) < (i : Int)) := by omega
        have S63 := Lib.hid SR5.out.st
        have S65 := Lib.hid SQ5.out.st
        have OK := Lib.hid (show Ok (some L) from fun L' e => by injection e with e; subst e; exact ⟨HBY.out, by rw [HL.out]; omega⟩)
        have LRQ := Lib.hid (show w.heap.size ≤ R ∧ w.heap.size ≤ Q from ⟨Nat.le_trans B2.out.size LR.out, Nat.le_trans B2.out.size LQ.out⟩)
        clear SR5 SQ5 GG S2 LR LQ
        go_wp2
        go_loopw [9] (fun s9 wq => ∃ (k : Nat) (s : Option (List Int)), k ≤ n2 ∧ s9 = .int .i64 (k : Nat) ∧ St 63 wq R s ∧ St 65 wq Q s ∧ Ok s ∧ Below w.heap.size w wq) (fun s _ => n2 - (intOf s).toNat)
        case atStart => exact ⟨0, _, by omega, rfl, S63.out, S65.out, OK.out, B5.out⟩
        case round =>
          clear S63 S65 OK B5
          obtain ⟨k, s, hk, rfl, hr, hq, hok, hb⟩ := hrel
          have SR6 := Lib.hid hr
          have SQ6 := Lib.hid hq
          have OK6 := Lib.hid hok
          have B6 := Lib.hid hb
          clear hr hq hok hb
          by_cases hlt : k < n2
          · obtain ⟨b, off, ea, hbl, hcs⟩ := H2.out.at (by omega)
            subst ea
            have kk := (B6.out.cell (p := ⟨b, off + k, none⟩) hbl).trans (hcs k hlt)
            have hyy := HKY.out (K.getD k 0) (getD_mem (by rw [HK.out]; exact hlt))
            obtain ⟨y, hy⟩ : ∃ y, K.getD k 0 = y := ⟨_, rfl⟩
            rw [hy] at kk hyy
            have hki : (k : Int) < (n2 : Int) := by omega
            have hk0 : (0 : Int) ≤ (k : Int) := by omega
            have SC := Lib.hid (step_c R Q y s _ SR6.out SQ6.out NE.out OK6.out (HT.out.below B6.out) hyy)
            clear hcs hy hyy hbl
            go_wp2_with fail
            refine SC.out.mono ?_
            rintro e w7 ⟨rfl, s7, hr7, hq7, ok7, be7⟩
            have B7 := Lib.hid (B6.out.trans (be7 _ LRQ.out.1 LRQ.out.2 B6.out.size))
            have SR7 := Lib.hid hr7
            have SQ7 := Lib.hid hq7
            have OK7 := Lib.hid ok7
            obtain ⟨lf, hlf⟩ : ∃ q, lft s7 = q := ⟨_, rfl⟩
            obtain ⟨df, hdf⟩ : ∃ q, dn s7 = q := ⟨_, rfl⟩
            have CL1 := left_g R s7 w7 hr7
            have CL2 := rleft_g Q s7 w7 hq7
            have CD1 := done_g R s7 w7 hr7
            have CD2 := rdone_g Q s7 w7 hq7
            rw [hlf] at CL1 CL2
            rw [hdf] at CD1 CD2
            have L1 := Lib.hid CL1
            have L2 := Lib.hid CL2
            have D1 := Lib.hid CD1
            have D2 := Lib.hid CD2
            clear hr7 hq7 ok7 be7 SC hlf hdf CL1 CL2 CD1 CD2
            go_wp2_with fail
            refine L1.out.mono ?_
            rintro e w8 ⟨rfl, rfl⟩
            go_wp2_with fail
            refine L2.out.mono ?_
            rintro e w9 ⟨rfl, rfl⟩
            go_wp2_with fail
            refine D1.out.mono ?_
            rintro e w10 ⟨rfl, rfl⟩
            go_wp2_with fail
            refine D2.out.mono ?_
            rintro e w11 ⟨rfl, rfl⟩
            go_wp2
            go_roundw
            case rel => exact ⟨k + 1, s7, by omega, by go_num, SR7.out, SQ7.out, OK7.out, B7.out⟩
            case measure => simp [intOf]; omega
          · obtain rfl : k = n2 := by omega
            have hge : ¬ ((k : Int) < (k : Int)) := by omega
            obtain ⟨lf, hlf⟩ : ∃ q, lft s = q := ⟨_, rfl⟩
            obtain ⟨df, hdf⟩ : ∃ q, dn s = q := ⟨_, rfl⟩
            have CL1 := left_g R s _ SR6.out
            have CL2 := rleft_g Q s _ SQ6.out
            have CD1 := done_g R s _ SR6.out
            have CD2 := rdone_g Q s _ SQ6.out
            rw [hlf] at CL1 CL2
            rw [hdf] at CD1 CD2
            have L1 := Lib.hid CL1
            have L2 := Lib.hid CL2
            have D1 := Lib.hid CD1
            have D2 := Lib.hid CD2
            clear hlf hdf CL1 CL2 CD1 CD2
            go_wp2_with fail
            refine L1.out.mono ?_
            rintro e w8 ⟨rfl, rfl⟩
            go_wp2_with fail
            refine L2.out.mono ?_
            rintro e w9 ⟨rfl, rfl⟩
            go_wp2_with fail
            refine D1.out.mono ?_
            rintro e w10 ⟨rfl, rfl⟩
            go_wp2_with fail
            refine D2.out.mono ?_
            rintro e w11 ⟨rfl, rfl⟩
            go_wp2
            refine bodyPost_ret (results_tmp rfl _ _ _) rfl ?_
            exact ⟨rfl, B6.out⟩

end Go.Proofs.YtcdkehghdhcokaaDoor.wr
