/- A step of both readers. -/
import Derived.Test.YtcdkehghdhcokaaDoorX14
import Derived.Test.YtcdkehghdhcokaaDoorW9
namespace Go.Proofs.YtcdkehghdhcokaaDoor.wr
open Go.RowKit
set_option linter.unusedVariables false

set_option linter.unusedSimpArgs false
/-- what a reader may have before it -/
def Ok (s : Option (List Int)) : Prop := ∀ L, s = some L → Bytes L ∧ L.length ≤ 8000
theorem Ok.by {s : Option (List Int)} (h : Ok s) : ∀ L, s = some L → Bytes L := fun L e => (h L e).1
theorem Ok.len {s : Option (List Int)} (h : Ok s) : ∀ L, s = some L → L.length ≤ 100000 := fun L e => Nat.le_trans (h L e).2 (by omega)
theorem Ok.len8 {s : Option (List Int)} (h : Ok s) : ∀ L, s = some L → L.length ≤ 8000 := fun L e => (h L e).2
theorem Ok.none : Ok none := fun _ e => by cases e
theorem Ok.tail {A T : List Int} (h : Ok (some (A ++ T))) : Ok (some T) := fun L e => by
  injection e with e
  subst e
  obtain ⟨h1, h2⟩ := h _ rfl
  rw [List.length_append] at h2
  exact ⟨h1.right, by omega⟩
theorem ok_u {s : Option (List Int)} (h : Ok s) : Ok (uR s).2.2 := by
  cases s with
  | none => exact Ok.none
  | some L =>
    cases hd : dec L with
    | none => rw [uR_none hd]; exact Ok.none
    | some p =>
      obtain ⟨m, T⟩ := p
      rw [uR_some hd]
      have e := (dec_grp (h.by L rfl) hd).1
      rw [e] at h
      exact h.tail
theorem ok_t {s : Option (List Int)} (h : Ok s) : Ok (tk s).2.2 := by
  cases s with
  | none => exact Ok.none
  | some L =>
    cases hd : dec L with
    | none => rw [tk_none hd]; exact Ok.none
    | some p =>
      obtain ⟨m, T⟩ := p
      rw [tk_some hd]
      have e := (dec_grp (h.by L rfl) hd).1
      rw [e] at h
      have h2 : Ok (some T) := h.tail
      rw [← List.take_append_drop m T] at h2
      split
      · exact Ok.none
      · exact h2.tail
theorem ok_n {s : Option (List Int)} (h : Ok s) : Ok (nR s).2.2 := by
  rcases nR_cases s with e | ⟨l, T, e⟩
  · rw [e]; exact Ok.none
  · cases s with
    | none => cases e
    | some L =>
      have e2 := (nR_ok (h.by L rfl) e).1
      rw [e]
      rw [e2] at h
      exact h.tail
theorem ok_r2 {sg : Bool} {L : List Int} (h : Ok (some L)) : Ok (r2 sg L).2.2 := by
  rcases nR_cases (some L) with e | ⟨l, T, e⟩
  · rw [r2_bad1 e]; exact Ok.none
  · have h1 := ok_n h
    rw [e] at h1
    rcases nR_cases (some T) with e2 | ⟨l2, T2, e2⟩
    · rw [r2_bad2 e e2]; exact Ok.none
    · have h2 := ok_n h1
      rw [e2] at h2
      rw [r2_ok e e2]
      split
      · exact h2
      · exact Ok.none
theorem ok_r {s : Option (List Int)} (h : Ok s) : Ok (rR s).2.2 := by
  cases s with
  | none => exact Ok.none
  | some L =>
    cases L with
    | nil => exact Ok.none
    | cons x T =>
      unfold rR
      dsimp only
      split
      · exact Ok.none
      · exact ok_r2 (Ok.tail (A := [x]) h)
/-- what a step does -/
def SPost (w : World) (R Q : Nat) (e : Ending) (w' : World) : Prop := e = .returned (.bool true) ∧ ∃ s', St 63 w' R s' ∧ St 65 w' Q s' ∧ Ok s' ∧ ∀ b, b ≤ R → b ≤ Q → b ≤ w.heap.size → Below b w w'

set_option maxHeartbeats 8000000 in
set_option maxRecDepth 100000 in
theorem step_uint (R Q : Nat) (k : Int) (s : Option (List Int)) (w : World) (h : St 63 w R s) (hq : St 65 w Q s) (hne : R ≠ Q) (ok : Ok s) (hT : Tab w) (hk : 0 ≤ k ∧ k < 256) (hj : k % 6 = 0) :
    Calls Tryd.prog 10 #[.pointer (some ⟨R, 0, none⟩), .pointer (some ⟨Q, 0, none⟩), .int .u8 k] w (SPost w R Q) := by
  have A := Lib.hid (uint_g R s w h ok.by)
  have HQ1 := Lib.hid hq
  have NR := Lib.hid h.noInt
  have OK2 := Lib.hid (ok_u ok)
  have HN := Lib.hid hne
  have OKS := Lib.hid ok
  have HT := Lib.hid hT
  have RS := Lib.hid (show R < w.heap.size ∧ Q < w.heap.size from ⟨h.lt, hq.lt⟩)
  have t1 : k.tmod 6 = 0 := by rw [Int.tmod_eq_emod_of_nonneg hk.1]; exact hj
  have t2 : k % 6 = 0 := hj
  clear h hq hne ok hT hj
  obtain ⟨r, hr⟩ : ∃ r, uR s = r := ⟨_, rfl⟩
  have HRR := Lib.hid hr
  rw [hr] at A OK2
  clear hr
  obtain ⟨m, er, s2⟩ := r
  go_enter Tryd.func10, Tryd.ntmps10
  go_wp2_with fail
  refine A.out.mono ?_
  rintro e w1 ⟨rfl, st1, g1⟩
  have S1 := Lib.hid st1
  have G1 := Lib.hid g1
  have Q1 := Lib.hid (HQ1.out.pastN NR.out HN.out.symm g1)
  have HT1 := Lib.hid (Tab.past HT.out NR.out g1)
  have B := Lib.hid (ruint_g Q s w1 Q1.out OKS.out.by OKS.out.len)
  rw [HRR.out] at B
  clear st1 g1 A
  go_wp2_with fail
  refine B.out.mono ?_
  rintro e w2 ⟨rfl, st2, g2⟩
  have S2 := Lib.hid (S1.out.pastN Q1.out.noInt HN.out g2)
  have Q2 := Lib.hid st2
  have BE := Lib.hid (show ∀ b, b ≤ R → b ≤ Q → b ≤ w.heap.size → Below b w w2 from fun b hb1 hb2 hb3 => ((Below.refl b w).grown G1.out hb3 (fun j hj => by injection hj with hj; omega)).grown g2 (Nat.le_trans hb3 G1.out.size) (fun j hj => by injection hj with hj; omega))
  clear st2 g2 B
  dsimp only
  go_wp2
  refine bodyPost_ret (results_tmp rfl _ _ _) rfl ?_
  exact ⟨rfl, _, S2.out, Q2.out, OK2.out, BE.out⟩

set_option maxHeartbeats 8000000 in
set_option maxRecDepth 100000 in
theorem step_int (R Q : Nat) (k : Int) (s : Option (List Int)) (w : World) (h : St 63 w R s) (hq : St 65 w Q s) (hne : R ≠ Q) (ok : Ok s) (hT : Tab w) (hk : 0 ≤ k ∧ k < 256) (hj : k % 6 = 1) :
    Calls Tryd.prog 10 #[.pointer (some ⟨R, 0, none⟩), .pointer (some ⟨Q, 0, none⟩), .int .u8 k] w (SPost w R Q) := by
  have A := Lib.hid (int_g R s w h ok.by)
  have HQ1 := Lib.hid hq
  have NR := Lib.hid h.noInt
  have OK2 := Lib.hid (ok_u ok)
  have HN := Lib.hid hne
  have OKS := Lib.hid ok
  have HT := Lib.hid hT
  have RS := Lib.hid (show R < w.heap.size ∧ Q < w.heap.size from ⟨h.lt, hq.lt⟩)
  have t1 : k.tmod 6 = 1 := by rw [Int.tmod_eq_emod_of_nonneg hk.1]; exact hj
  have t2 : k % 6 = 1 := hj
  clear h hq hne ok hT hj
  obtain ⟨r, hr⟩ : ∃ r, uR s = r := ⟨_, rfl⟩
  have HRR := Lib.hid hr
  rw [hr] at A OK2
  clear hr
  obtain ⟨m, er, s2⟩ := r
  obtain ⟨z, hz⟩ : ∃ z, uzz m = z := ⟨_, rfl⟩
  have HZ := Lib.hid hz
  clear hz
  go_enter Tryd.func10, Tryd.ntmps10
  go_wp2_with fail
  refine A.out.mono ?_
  rintro e w1 ⟨rfl, st1, g1⟩
  have S1 := Lib.hid st1
  have G1 := Lib.hid g1
  have Q1 := Lib.hid (HQ1.out.pastN NR.out HN.out.symm g1)
  have HT1 := Lib.hid (Tab.past HT.out NR.out g1)
  have B := Lib.hid (rint_g Q s w1 Q1.out OKS.out.by OKS.out.len)
  rw [HRR.out] at B
  clear st1 g1 A
  go_wp2_with fail
  refine B.out.mono ?_
  rintro e w2 ⟨rfl, st2, g2⟩
  have S2 := Lib.hid (S1.out.pastN Q1.out.noInt HN.out g2)
  have Q2 := Lib.hid st2
  have BE := Lib.hid (show ∀ b, b ≤ R → b ≤ Q → b ≤ w.heap.size → Below b w w2 from fun b hb1 hb2 hb3 => ((Below.refl b w).grown G1.out hb3 (fun j hj => by injection hj with hj; omega)).grown g2 (Nat.le_trans hb3 G1.out.size) (fun j hj => by injection hj with hj; omega))
  clear st2 g2 B
  dsimp only
  rw [HZ.out]
  go_wp2
  refine bodyPost_ret (results_tmp rfl _ _ _) rfl ?_
  exact ⟨rfl, _, S2.out, Q2.out, OK2.out, BE.out⟩

set_option maxHeartbeats 8000000 in
set_option maxRecDepth 100000 in
theorem step_text (R Q : Nat) (k : Int) (s : Option (List Int)) (w : World) (h : St 63 w R s) (hq : St 65 w Q s) (hne : R ≠ Q) (ok : Ok s) (hT : Tab w) (hk : 0 ≤ k ∧ k < 256) (hj : k % 6 = 5) :
    Calls Tryd.prog 10 #[.pointer (some ⟨R, 0, none⟩), .pointer (some ⟨Q, 0, none⟩), .int .u8 k] w (SPost w R Q) := by
  have A := Lib.hid (text_g R s w h ok.by ok.len)
  have HQ1 := Lib.hid hq
  have NR := Lib.hid h.noInt
  have OK2 := Lib.hid (ok_t ok)
  have HN := Lib.hid hne
  have OKS := Lib.hid ok
  have HT := Lib.hid hT
  have RS := Lib.hid (show R < w.heap.size ∧ Q < w.heap.size from ⟨h.lt, hq.lt⟩)
  have t1 : k.tmod 6 = 5 := by rw [Int.tmod_eq_emod_of_nonneg hk.1]; exact hj
  have t2 : k % 6 = 5 := hj
  clear h hq hne ok hT hj
  obtain ⟨r, hr⟩ : ∃ r, tk s = r := ⟨_, rfl⟩
  have HRR := Lib.hid hr
  rw [hr] at A OK2
  clear hr
  obtain ⟨B0, er, s2⟩ := r
  obtain ⟨st, hst⟩ : ∃ st, strOfNums B0 = st := ⟨_, rfl⟩
  have HZ := Lib.hid hst
  clear hst
  go_enter Tryd.func10, Tryd.ntmps10
  go_wp2_with fail
  refine A.out.mono ?_
  rintro e w1 ⟨rfl, st1, g1⟩
  have S1 := Lib.hid st1
  have G1 := Lib.hid g1
  have Q1 := Lib.hid (HQ1.out.pastN NR.out HN.out.symm g1)
  have HT1 := Lib.hid (Tab.past HT.out NR.out g1)
  have B := Lib.hid (rtext_g Q s w1 Q1.out OKS.out.by OKS.out.len)
  rw [HRR.out] at B
  clear st1 g1 A
  go_wp2_with fail
  refine B.out.mono ?_
  rintro e w2 ⟨rfl, st2, g2⟩
  have S2 := Lib.hid (S1.out.pastN Q1.out.noInt HN.out g2)
  have Q2 := Lib.hid st2
  have BE := Lib.hid (show ∀ b, b ≤ R → b ≤ Q → b ≤ w.heap.size → Below b w w2 from fun b hb1 hb2 hb3 => ((Below.refl b w).grown G1.out hb3 (fun j hj => by injection hj with hj; omega)).grown g2 (Nat.le_trans hb3 G1.out.size) (fun j hj => by injection hj with hj; omega))
  clear st2 g2 B
  dsimp only
  rw [HZ.out]
  go_wp2
  refine bodyPost_ret (results_tmp rfl _ _ _) rfl ?_
  exact ⟨rfl, _, S2.out, Q2.out, OK2.out, BE.out⟩

set_option maxHeartbeats 8000000 in
set_option maxRecDepth 100000 in
theorem step_bytes (R Q : Nat) (k : Int) (s : Option (List Int)) (w : World) (h : St 63 w R s) (hq : St 65 w Q s) (hne : R ≠ Q) (ok : Ok s) (hT : Tab w) (hk : 0 ≤ k ∧ k < 256) (hj : k % 6 = 4) :
    Calls Tryd.prog 10 #[.pointer (some ⟨R, 0, none⟩), .pointer (some ⟨Q, 0, none⟩), .int .u8 k] w (SPost w R Q) := by
  have A := Lib.hid (bytes_g R s w h ok.by ok.len8)
  have HQ1 := Lib.hid hq
  have NR := Lib.hid h.noInt
  have OK2 := Lib.hid (ok_t ok)
  have HN := Lib.hid hne
  have OKS := Lib.hid ok
  have HT := Lib.hid hT
  have RS := Lib.hid (show R < w.heap.size ∧ Q < w.heap.size from ⟨h.lt, hq.lt⟩)
  have t1 : k.tmod 6 = 4 := by rw [Int.tmod_eq_emod_of_nonneg hk.1]; exact hj
  have t2 : k % 6 = 4 := hj
  clear h hq hne ok hT hj
  obtain ⟨r, hr⟩ : ∃ r, tk s = r := ⟨_, rfl⟩
  have HRR := Lib.hid hr
  rw [hr] at A OK2
  clear hr
  obtain ⟨B0, er, s2⟩ := r
  obtain ⟨st, hst⟩ : ∃ st, strOfNums B0 = st := ⟨_, rfl⟩
  have HZ := Lib.hid hst
  clear hst
  go_enter Tryd.func10, Tryd.ntmps10
  go_wp2_with fail
  refine A.out.mono ?_
  rintro e w1 ⟨a1, n1, c1, rfl, sl1, st1, g1⟩
  have S1 := Lib.hid st1
  have G1 := Lib.hid g1
  have Q1 := Lib.hid (HQ1.out.pastN NR.out HN.out.symm g1)
  have HT1 := Lib.hid (Tab.past HT.out NR.out g1)
  have SL1 := Lib.hid sl1
  clear sl1
  have B := Lib.hid (rbytes_g Q s w1 Q1.out OKS.out.by OKS.out.len)
  rw [HRR.out] at B
  clear st1 g1 A
  go_wp2_with fail
  refine B.out.mono ?_
  rintro e w2 ⟨a2, n2, c2, rfl, sl2, st2, g2⟩
  have S2 := Lib.hid (S1.out.pastN Q1.out.noInt HN.out g2)
  have Q2 := Lib.hid st2
  have BE := Lib.hid (show ∀ b, b ≤ R → b ≤ Q → b ≤ w.heap.size → Below b w w2 from fun b hb1 hb2 hb3 => ((Below.refl b w).grown G1.out hb3 (fun j hj => by injection hj with hj; omega)).grown g2 (Nat.le_trans hb3 G1.out.size) (fun j hj => by injection hj with hj; omega))
  have cv1 := conv_sl (SL1.out.pastN Q1.out.noInt g2)
  have cv2 := conv_sl sl2
  clear st2 g2 B sl2
  dsimp only at cv1 cv2 ⊢
  rw [HZ.out] at cv1 cv2
  go_wp2
  refine bodyPost_ret (results_tmp rfl _ _ _) rfl ?_
  exact ⟨rfl, _, S2.out, Q2.out, OK2.out, BE.out⟩

set_option maxHeartbeats 8000000 in
set_option maxRecDepth 100000 in
theorem step_nat (R Q : Nat) (k : Int) (s : Option (List Int)) (w : World) (h : St 63 w R s) (hq : St 65 w Q s) (hne : R ≠ Q) (ok : Ok s) (hT : Tab w) (hk : 0 ≤ k ∧ k < 256) (hj : k % 6 = 2) :
    Calls Tryd.prog 10 #[.pointer (some ⟨R, 0, none⟩), .pointer (some ⟨Q, 0, none⟩), .int .u8 k] w (SPost w R Q) := by
  have A := Lib.hid (nat_g R s w h ok.by ok.len)
  have HQ1 := Lib.hid hq
  have NR := Lib.hid h.noInt
  have OK2 := Lib.hid (ok_n ok)
  have HN := Lib.hid hne
  have OKS := Lib.hid ok
  have HT := Lib.hid hT
  have RS := Lib.hid (show R < w.heap.size ∧ Q < w.heap.size from ⟨h.lt, hq.lt⟩)
  have t1 : k.tmod 6 = 2 := by rw [Int.tmod_eq_emod_of_nonneg hk.1]; exact hj
  have t2 : k % 6 = 2 := hj
  clear h hq hne ok hT hj
  obtain ⟨r, hr⟩ : ∃ r, nR s = r := ⟨_, rfl⟩
  have HRR := Lib.hid hr
  rw [hr] at A OK2
  clear hr
  obtain ⟨l, er, s2⟩ := r
  go_enter Tryd.func10, Tryd.ntmps10
  go_wp2_with fail
  refine A.out.mono ?_
  rintro e w1 ⟨a1, n1, c1, rfl, sl1, nc1, st1, g1⟩
  have S1 := Lib.hid st1
  have G1 := Lib.hid g1
  have Q1 := Lib.hid (HQ1.out.pastN NR.out HN.out.symm g1)
  have HT1 := Lib.hid (Tab.past HT.out NR.out g1)
  have SL1 := Lib.hid sl1
  have NC1 := Lib.hid nc1
  clear sl1 nc1
  have B := Lib.hid (rnat_g Q s w1 Q1.out OKS.out.by OKS.out.len)
  rw [HRR.out] at B
  clear st1 g1 A
  go_wp2_with fail
  refine B.out.mono ?_
  rintro e w2 ⟨a2, n2, c2, rfl, sl2, nc2, st2, g2⟩
  have S2 := Lib.hid (S1.out.pastN Q1.out.noInt HN.out g2)
  have Q2 := Lib.hid st2
  have BE := Lib.hid (show ∀ b, b ≤ R → b ≤ Q → b ≤ w.heap.size → Below b w w2 from fun b hb1 hb2 hb3 => ((Below.refl b w).grown G1.out hb3 (fun j hj => by injection hj with hj; omega)).grown g2 (Nat.le_trans hb3 G1.out.size) (fun j hj => by injection hj with hj; omega))
  have SM := Lib.hid (qsame_c (s := false) (t := false) ((SL1.out.pastN Q1.out.noInt g2).rd NC1.out) (Rd.nil w2) (sl2.rd nc2) (Rd.nil w2))
  clear st2 g2 B sl2 nc2
  dsimp only
  go_wp2_with fail
  refine SM.out.mono ?_
  rintro e w3 ⟨rfl, k3⟩
  have S3 := Lib.hid (S2.out.below k3)
  have Q3 := Lib.hid (Q2.out.below k3)
  have BE3 := Lib.hid (show ∀ b, b ≤ R → b ≤ Q → b ≤ w.heap.size → Below b w w3 from fun b hb1 hb2 hb3 => (BE.out b hb1 hb2 hb3).trans (k3.mono (Nat.le_trans hb3 (BE.out b hb1 hb2 hb3).size)))
  clear k3 SM
  rw [eqB_self, eqB_self]
  go_wp2
  refine bodyPost_ret (results_tmp rfl _ _ _) rfl ?_
  exact ⟨rfl, _, S3.out, Q3.out, OK2.out, BE3.out⟩

set_option maxHeartbeats 8000000 in
set_option maxRecDepth 100000 in
theorem step_rat (R Q : Nat) (k : Int) (s : Option (List Int)) (w : World) (h : St 63 w R s) (hq : St 65 w Q s) (hne : R ≠ Q) (ok : Ok s) (hT : Tab w) (hk : 0 ≤ k ∧ k < 256) (hj : k % 6 = 3) :
    Calls Tryd.prog 10 #[.pointer (some ⟨R, 0, none⟩), .pointer (some ⟨Q, 0, none⟩), .int .u8 k] w (SPost w R Q) := by
  have A := Lib.hid (rat_g R s w h ok.by ok.len hT)
  have HQ1 := Lib.hid hq
  have NR := Lib.hid h.noInt
  have OK2 := Lib.hid (ok_r ok)
  have HN := Lib.hid hne
  have OKS := Lib.hid ok
  have HT := Lib.hid hT
  have RS := Lib.hid (show R < w.heap.size ∧ Q < w.heap.size from ⟨h.lt, hq.lt⟩)
  have t1 : k.tmod 6 = 3 := by rw [Int.tmod_eq_emod_of_nonneg hk.1]; exact hj
  have t2 : k % 6 = 3 := hj
  clear h hq hne ok hT hj
  obtain ⟨r, hr⟩ : ∃ r, rR s = r := ⟨_, rfl⟩
  have HRR := Lib.hid hr
  rw [hr] at A OK2
  clear hr
  obtain ⟨⟨sg, l, l2⟩, er, s2⟩ := r
  go_enter Tryd.func10, Tryd.ntmps10
  go_wp2_with fail
  refine A.out.mono ?_
  rintro e w1 ⟨a1, n1, c1, a1', n1', c1', rfl, sl1, nc1, su1, nd1, st1, g1⟩
  have S1 := Lib.hid st1
  have G1 := Lib.hid g1
  have Q1 := Lib.hid (HQ1.out.pastN NR.out HN.out.symm g1)
  have HT1 := Lib.hid (Tab.past HT.out NR.out g1)
  have SL1 := Lib.hid sl1
  have NC1 := Lib.hid nc1
  have SU1 := Lib.hid su1
  have ND1 := Lib.hid nd1
  clear sl1 nc1 su1 nd1 st1 g1 A
  dsimp only
  obtain ⟨A1, hA1⟩ : ∃ q, w1.alloc (.cells #[.bool sg, .slice a1 n1 c1, .slice a1' n1' c1'] 37) = q := ⟨_, rfl⟩
  have BA : Hid (Below w1.heap.size w1 A1) := Lib.hid (by rw [← hA1]; exact Below.newBlock _)
  have QA : Hid (Q3 A1 w1.heap.size (.bool sg) (.slice a1 n1 c1) (.slice a1' n1' c1')) := Lib.hid (by rw [← hA1]; exact Q3.new _ _ _ _)
  have B := Lib.hid (rrat_g Q s A1 (Q1.out.below BA.out) OKS.out.by OKS.out.len (HT1.out.below BA.out))
  rw [HRR.out] at B
  have hA1' := Lib.hid hA1
  clear hA1
  go_upto_region 16 with (fail)
  rw [hA1'.out]
  go_wp2_with fail
  refine B.out.mono ?_
  rintro e w2 ⟨a2, n2, c2, a2', n2', c2', rfl, sl2, nc2, su2, nd2, st2, g2⟩
  have QR1 := Lib.hid (Q1.out.below BA.out)
  have hPQ : w1.heap.size ≠ Q := Nat.ne_of_gt (Nat.lt_of_lt_of_le RS.out.2 G1.out.size)
  have QB := Lib.hid (QA.out.past hPQ g2)
  have SR2 := Lib.hid ((S1.out.below BA.out).pastN QR1.out.noInt HN.out g2)
  have SL2 := Lib.hid ((SL1.out.below BA.out).pastN QR1.out.noInt g2)
  have SU2 := Lib.hid ((SU1.out.below BA.out).pastN QR1.out.noInt g2)
  have SQ2 := Lib.hid st2
  have BE2 := Lib.hid (show ∀ b, b ≤ R → b ≤ Q → b ≤ w.heap.size → Below b w w2 from fun b hb1 hb2 hb3 => (((Below.refl b w).grown G1.out hb3 (fun j hj => by injection hj with hj; omega)).trans (BA.out.mono (Nat.le_trans hb3 G1.out.size))).grown g2 (Nat.le_trans hb3 (Nat.le_trans G1.out.size BA.out.size)) (fun j hj => by injection hj with hj; omega))
  have SL2' := Lib.hid sl2
  have NC2 := Lib.hid nc2
  have SU2' := Lib.hid su2
  have ND2 := Lib.hid nd2
  clear sl2 nc2 su2 nd2 st2 g2 B hPQ
  obtain ⟨A3, hA3⟩ : ∃ q, w2.alloc (.cells #[.bool sg, .slice a2 n2 c2, .slice a2' n2' c2'] 37) = q := ⟨_, rfl⟩
  have BC : Hid (Below w2.heap.size w2 A3) := Lib.hid (by rw [← hA3]; exact Below.newBlock _)
  have QC : Hid (Q3 A3 w2.heap.size (.bool sg) (.slice a2 n2 c2) (.slice a2' n2' c2')) := Lib.hid (by rw [← hA3]; exact Q3.new _ _ _ _)
  have QD := Lib.hid (QB.out.below BC.out)
  have SM := Lib.hid (qsame_c (s := sg) (t := sg) ((SL2.out.below BC.out).rd NC1.out) ((SU2.out.below BC.out).rd ND1.out) ((SL2'.out.below BC.out).rd NC2.out) ((SU2'.out.below BC.out).rd ND2.out))
  obtain ⟨x0, x1, x2, -, -, -⟩ := QC.out.facts
  obtain ⟨y0, y1, y2, -, -, -⟩ := QD.out.facts
  have hA3' := Lib.hid hA3
  clear hA3
  dsimp only
  go_upto_region 17 with (fail)
  rw [hA3'.out]
  go_wp2_with fail
  refine SM.out.mono ?_
  rintro e w4 ⟨rfl, k4⟩
  have S4 := Lib.hid ((SR2.out.below BC.out).below k4)
  have Q4 := Lib.hid ((SQ2.out.below BC.out).below k4)
  have BE4 := Lib.hid (show ∀ b, b ≤ R → b ≤ Q → b ≤ w.heap.size → Below b w w4 from fun b hb1 hb2 hb3 => ((BE2.out b hb1 hb2 hb3).trans (BC.out.mono (Nat.le_trans hb3 (BE2.out b hb1 hb2 hb3).size))).trans (k4.mono (Nat.le_trans (Nat.le_trans hb3 (BE2.out b hb1 hb2 hb3).size) BC.out.size)))
  clear k4 SM
  rw [eqB_self, eqB_self, beq_self_eq_true]
  go_wp2
  refine bodyPost_ret (results_tmp rfl _ _ _) rfl ?_
  exact ⟨rfl, _, S4.out, Q4.out, OK2.out, BE4.out⟩

theorem step_c (R Q : Nat) (k : Int) (s : Option (List Int)) (w : World) (h : St 63 w R s) (hq : St 65 w Q s) (hne : R ≠ Q) (ok : Ok s) (hT : Tab w) (hk : 0 ≤ k ∧ k < 256) :
    Calls Tryd.prog 10 #[.pointer (some ⟨R, 0, none⟩), .pointer (some ⟨Q, 0, none⟩), .int .u8 k] w (SPost w R Q) := by
  have hj : k % 6 = 0 ∨ k % 6 = 1 ∨ k % 6 = 2 ∨ k % 6 = 3 ∨ k % 6 = 4 ∨ k % 6 = 5 := by omega
  rcases hj with hj | hj | hj | hj | hj | hj
  · exact step_uint R Q k s w h hq hne ok hT hk hj
  · exact step_int R Q k s w h hq hne ok hT hk hj
  · exact step_nat R Q k s w h hq hne ok hT hk hj
  · exact step_rat R Q k s w h hq hne ok hT hk hj
  · exact step_bytes R Q k s w h hq hne ok hT hk hj
  · exact step_text R Q k s w h hq hne ok hT hk hj

end Go.Proofs.YtcdkehghdhcokaaDoor.wr
