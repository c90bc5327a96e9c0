/- The law of a nil reader. -/
import Derived.Test.YtcdkehghdhcokaaDoorX17
namespace Go.Proofs.YtcdkehghdhcokaaDoor.wr
open Go.RowKit
set_option linter.unusedVariables false
set_option linter.unusedSimpArgs false
set_option maxHeartbeats 4000000 in
set_option maxRecDepth 100000 in
theorem nleft (w : World) : Calls Tryd.prog 11 #[.pointer none] w fun e w' => e = .returned (.int .i64 0) ∧ w' = w := by
  go_enter Tryd.func11, Tryd.ntmps11
  go_wp2
  refine bodyPost_ret (results_tmp rfl _ _ _) rfl ?_
  exact ⟨rfl, rfl⟩
set_option maxHeartbeats 4000000 in
set_option maxRecDepth 100000 in
theorem ndone (w : World) : Calls Tryd.prog 13 #[.pointer none] w fun e w' => e = .returned (.int .i64 0) ∧ w' = w := by
  go_enter Tryd.func13, Tryd.ntmps13
  go_wp2
  refine bodyPost_ret (results_tmp rfl _ _ _) rfl ?_
  exact ⟨rfl, rfl⟩
set_option maxHeartbeats 4000000 in
set_option maxRecDepth 100000 in
theorem nuint (w : World) : Calls Tryd.prog 20 #[.pointer none] w fun e w' => e = .returned (.tuple #[.int .u64 0, .int .i64 5]) ∧ w' = w := by
  go_enter Tryd.func20, Tryd.ntmps20
  go_wp2
  refine bodyPost_ret (results_tmp2 rfl _ _ _) rfl ?_
  exact ⟨rfl, rfl⟩
set_option maxHeartbeats 4000000 in
set_option maxRecDepth 100000 in
theorem nint (w : World) : Calls Tryd.prog 21 #[.pointer none] w fun e w' => e = .returned (.tuple #[.int .i64 0, .int .i64 5]) ∧ w' = w := by
  go_enter Tryd.func21, Tryd.ntmps21
  go_wp2_with fail
  refine (nuint w).mono ?_
  rintro e w1 ⟨rfl, rfl⟩
  go_wp2
  refine bodyPost_ret (results_tmp2 rfl _ _ _) rfl ?_
  exact ⟨rfl, rfl⟩
set_option maxHeartbeats 4000000 in
set_option maxRecDepth 100000 in
theorem ntake1 (w : World) : Calls Tryd.prog 41 #[.pointer none, .int .i64 1] w fun e w' => e = .returned (.tuple #[.slice none 0 0, .int .i64 5]) ∧ w' = w := by
  go_enter Tryd.func41, Tryd.ntmps41
  go_wp2_with fail
  refine (nuint w).mono ?_
  rintro e w1 ⟨rfl, rfl⟩
  go_wp2
  refine bodyPost_ret (results_tmp2 rfl _ _ _) rfl ?_
  exact ⟨rfl, rfl⟩
set_option maxHeartbeats 4000000 in
set_option maxRecDepth 100000 in
theorem ntake4 (w : World) : Calls Tryd.prog 41 #[.pointer none, .int .i64 4] w fun e w' => e = .returned (.tuple #[.slice none 0 0, .int .i64 5]) ∧ w' = w := by
  go_enter Tryd.func41, Tryd.ntmps41
  go_wp2_with fail
  refine (nuint w).mono ?_
  rintro e w1 ⟨rfl, rfl⟩
  go_wp2
  refine bodyPost_ret (results_tmp2 rfl _ _ _) rfl ?_
  exact ⟨rfl, rfl⟩
set_option maxHeartbeats 4000000 in
set_option maxRecDepth 100000 in
theorem nnat (w : World) : Calls Tryd.prog 22 #[.pointer none] w fun e w' => e = .returned (.tuple #[.slice none 0 0, .int .i64 5]) ∧ w' = w := by
  go_enter Tryd.func22, Tryd.ntmps22
  go_wp2_with fail
  refine (ntake4 w).mono ?_
  rintro e w1 ⟨rfl, rfl⟩
  go_wp2
  refine bodyPost_ret (results_tmp2 rfl _ _ _) rfl ?_
  exact ⟨rfl, rfl⟩

theorem st_empty : (⟨#[]⟩ : ByteArray) = strOfNums [] := rfl
set_option maxHeartbeats 4000000 in
set_option maxRecDepth 100000 in
theorem ntext (w : World) : Calls Tryd.prog 25 #[.pointer none] w fun e w' => e = .returned (.tuple #[.string (strOfNums []), .int .i64 5]) ∧ w' = w := by
  obtain ⟨st, hst⟩ : ∃ st, strOfNums ([] : List Int) = st := ⟨_, rfl⟩
  have cv := conv_sl (SlB.nil w)
  rw [hst] at cv ⊢
  go_enter Tryd.func25, Tryd.ntmps25
  go_wp2_with fail
  refine (ntake1 w).mono ?_
  rintro e w1 ⟨rfl, rfl⟩
  go_wp2
  refine bodyPost_ret (results_tmp2 rfl _ _ _) rfl ?_
  exact ⟨rfl, rfl⟩
set_option maxHeartbeats 4000000 in
set_option maxRecDepth 100000 in
theorem nbytes (w : World) : Calls Tryd.prog 32 #[.pointer none] w fun e w' => ∃ a n c, e = .returned (.tuple #[.slice a n c, .int .i64 5]) ∧ SlB w' a n c [] ∧ Below w.heap.size w w' := by
  go_enter Tryd.func32, Tryd.ntmps32
  go_wp2_with fail
  refine (ntake1 w).mono ?_
  rintro e w1 ⟨rfl, rfl⟩
  go_wp2_with fail
  refine (clone_c none 0 0 [] w1 (SlB.nil _) (by omega)).mono ?_
  rintro e w2 ⟨v, rfl, hO, hb⟩
  obtain ⟨a2, c2, rfl⟩ := hO.slice
  have SS := Lib.hid (hO.sl rfl)
  have BB := Lib.hid hb
  clear hO hb
  go_wp2
  refine bodyPost_ret (results_tmp2 rfl _ _ _) rfl ?_
  exact ⟨a2, _, c2, rfl, SS.out, BB.out⟩
set_option maxHeartbeats 4000000 in
set_option maxRecDepth 100000 in
theorem nrat (w : World) : Calls Tryd.prog 23 #[.pointer none] w fun e w' => e = .returned (.tuple #[.agg #[.bool false, .slice none 0 0, .slice none 0 0], .int .i64 5]) ∧ Below w.heap.size w w' := by
  obtain ⟨A1, hA1⟩ : ∃ q, w.alloc (.cells #[.bool false, .slice none 0 0, .slice none 0 0] 37) = q := ⟨_, rfl⟩
  have B1 := Lib.hid (show Below w.heap.size w A1 by rw [← hA1]; exact Below.newBlock _)
  have QP1 : Hid (Q3 A1 w.heap.size (.bool false) (.slice none 0 0) (.slice none 0 0)) := Lib.hid (by rw [← hA1]; exact Q3.new w _ _ _)
  obtain ⟨p0, p1, p2, pf0, pf1, pf2⟩ := QP1.out.facts
  obtain ⟨s0, s1, s2⟩ := Q3.said QP1.out (.bool false) (.slice none 0 0) (.slice none 0 0)
  have FIN : Hid (Below w.heap.size w (((A1.setCell ⟨w.heap.size, 0, none⟩ (.bool false)).setCell ⟨w.heap.size, 1, none⟩ (.slice none 0 0)).setCell ⟨w.heap.size, 2, none⟩ (.slice none 0 0))) := Lib.hid (((B1.out.setCell (Nat.le_refl _) _).setCell (Nat.le_refl _) _).setCell (Nat.le_refl _) _)
  have hA1' := Lib.hid hA1
  clear hA1
  go_enter Tryd.func23, Tryd.ntmps23
  go_upto_region 1 with (fail)
  rw [hA1'.out]
  go_wp2
  refine bodyPost_ret (v := .tuple #[.agg #[.bool false, .slice none 0 0, .slice none 0 0], .int .i64 5]) (by simp [results, Tryd.results23, go_sem, s0, s1, s2]) rfl ?_
  exact ⟨rfl, FIN.out⟩

set_option maxHeartbeats 8000000 in
set_option maxRecDepth 100000 in
theorem nstep_uint (Q : Nat) (k : Int) (w : World) (hq : St 65 w Q (some [])) (hT : Tab w) (hk : 0 ≤ k ∧ k < 256) (hj : k % 6 = 0) :
    Calls Tryd.prog 10 #[.pointer none, .pointer (some ⟨Q, 0, none⟩), .int .u8 k] w fun e w' => e = .returned (.bool true) ∧ ∀ b, b ≤ Q → b ≤ w.heap.size → Below b w w' := by
  have oy : ∀ L : List Int, (some [] : Option (List Int)) = some L → Bytes L := fun L e => by injection e with e; subst e; intro x hx; cases hx
  have ol : ∀ L : List Int, (some [] : Option (List Int)) = some L → L.length ≤ 100000 := fun L e => by injection e with e; subst e; simp
  have t1 : k.tmod 6 = 0 := by rw [Int.tmod_eq_emod_of_nonneg hk.1]; exact hj
  have t2 : k % 6 = 0 := hj
  have HQ := Lib.hid hq
  have HTT := Lib.hid hT
  have ev : uR (some []) = (0, 5, none) := rfl
  have OY := Lib.hid oy
  have OL := Lib.hid ol
  have EV := Lib.hid ev
  clear hq hT hj oy ol ev
  go_enter Tryd.func10, Tryd.ntmps10
  go_wp2_with fail
  refine (nuint w).mono ?_
  rintro e w1 ⟨rfl, rfl⟩
  have B := Lib.hid (ruint_g Q (some []) w1 HQ.out OY.out OL.out)
  rw [EV.out] at B
  go_wp2_with fail
  refine B.out.mono ?_
  rintro e w2 ⟨rfl, st2, g2⟩
  have G2 := Lib.hid g2
  clear st2 g2 B
  dsimp only
  go_wp2
  refine bodyPost_ret (results_tmp rfl _ _ _) rfl ?_
  exact ⟨rfl, fun b h1 h2 => (Below.refl b w1).grown G2.out h2 (fun j hj => by injection hj with hj; omega)⟩

set_option maxHeartbeats 8000000 in
set_option maxRecDepth 100000 in
theorem nstep_int (Q : Nat) (k : Int) (w : World) (hq : St 65 w Q (some [])) (hT : Tab w) (hk : 0 ≤ k ∧ k < 256) (hj : k % 6 = 1) :
    Calls Tryd.prog 10 #[.pointer none, .pointer (some ⟨Q, 0, none⟩), .int .u8 k] w fun e w' => e = .returned (.bool true) ∧ ∀ b, b ≤ Q → b ≤ w.heap.size → Below b w w' := by
  have oy : ∀ L : List Int, (some [] : Option (List Int)) = some L → Bytes L := fun L e => by injection e with e; subst e; intro x hx; cases hx
  have ol : ∀ L : List Int, (some [] : Option (List Int)) = some L → L.length ≤ 100000 := fun L e => by injection e with e; subst e; simp
  have t1 : k.tmod 6 = 1 := by rw [Int.tmod_eq_emod_of_nonneg hk.1]; exact hj
  have t2 : k % 6 = 1 := hj
  have HQ := Lib.hid hq
  have HTT := Lib.hid hT
  have ev : uR (some []) = (0, 5, none) := rfl
  have OY := Lib.hid oy
  have OL := Lib.hid ol
  have EV := Lib.hid ev
  clear hq hT hj oy ol ev
  go_enter Tryd.func10, Tryd.ntmps10
  go_wp2_with fail
  refine (nint w).mono ?_
  rintro e w1 ⟨rfl, rfl⟩
  have B := Lib.hid (rint_g Q (some []) w1 HQ.out OY.out OL.out)
  rw [EV.out] at B
  go_wp2_with fail
  refine B.out.mono ?_
  rintro e w2 ⟨rfl, st2, g2⟩
  have G2 := Lib.hid g2
  clear st2 g2 B
  dsimp only
  rw [show uzz 0 = 0 from rfl]
  go_wp2
  refine bodyPost_ret (results_tmp rfl _ _ _) rfl ?_
  exact ⟨rfl, fun b h1 h2 => (Below.refl b w1).grown G2.out h2 (fun j hj => by injection hj with hj; omega)⟩

set_option maxHeartbeats 8000000 in
set_option maxRecDepth 100000 in
theorem nstep_text (Q : Nat) (k : Int) (w : World) (hq : St 65 w Q (some [])) (hT : Tab w) (hk : 0 ≤ k ∧ k < 256) (hj : k % 6 = 5) :
    Calls Tryd.prog 10 #[.pointer none, .pointer (some ⟨Q, 0, none⟩), .int .u8 k] w fun e w' => e = .returned (.bool true) ∧ ∀ b, b ≤ Q → b ≤ w.heap.size → Below b w w' := by
  have oy : ∀ L : List Int, (some [] : Option (List Int)) = some L → Bytes L := fun L e => by injection e with e; subst e; intro x hx; cases hx
  have ol : ∀ L : List Int, (some [] : Option (List Int)) = some L → L.length ≤ 100000 := fun L e => by injection e with e; subst e; simp
  have t1 : k.tmod 6 = 5 := by rw [Int.tmod_eq_emod_of_nonneg hk.1]; exact hj
  have t2 : k % 6 = 5 := hj
  have HQ := Lib.hid hq
  have HTT := Lib.hid hT
  have ev : tk (some []) = ([], 5, none) := rfl
  have OY := Lib.hid oy
  have OL := Lib.hid ol
  have EV := Lib.hid ev
  clear hq hT hj oy ol ev
  go_enter Tryd.func10, Tryd.ntmps10
  go_wp2_with fail
  obtain ⟨st, hst⟩ : ∃ st, strOfNums ([] : List Int) = st := ⟨_, rfl⟩
  have HST := Lib.hid hst
  clear hst
  refine (ntext w).mono ?_
  rintro e w1 ⟨rfl, rfl⟩
  have B := Lib.hid (rtext_g Q (some []) w1 HQ.out OY.out OL.out)
  rw [EV.out] at B
  go_wp2_with fail
  refine B.out.mono ?_
  rintro e w2 ⟨rfl, st2, g2⟩
  have G2 := Lib.hid g2
  clear st2 g2 B
  dsimp only
  rw [HST.out]
  go_wp2
  refine bodyPost_ret (results_tmp rfl _ _ _) rfl ?_
  exact ⟨rfl, fun b h1 h2 => (Below.refl b w1).grown G2.out h2 (fun j hj => by injection hj with hj; omega)⟩

set_option maxHeartbeats 8000000 in
set_option maxRecDepth 100000 in
theorem nstep_nat (Q : Nat) (k : Int) (w : World) (hq : St 65 w Q (some [])) (hT : Tab w) (hk : 0 ≤ k ∧ k < 256) (hj : k % 6 = 2) :
    Calls Tryd.prog 10 #[.pointer none, .pointer (some ⟨Q, 0, none⟩), .int .u8 k] w fun e w' => e = .returned (.bool true) ∧ ∀ b, b ≤ Q → b ≤ w.heap.size → Below b w w' := by
  have oy : ∀ L : List Int, (some [] : Option (List Int)) = some L → Bytes L := fun L e => by injection e with e; subst e; intro x hx; cases hx
  have ol : ∀ L : List Int, (some [] : Option (List Int)) = some L → L.length ≤ 100000 := fun L e => by injection e with e; subst e; simp
  have t1 : k.tmod 6 = 2 := by rw [Int.tmod_eq_emod_of_nonneg hk.1]; exact hj
  have t2 : k % 6 = 2 := hj
  have HQ := Lib.hid hq
  have HTT := Lib.hid hT
  have ev : nR (some []) = ([], 5, none) := rfl
  have OY := Lib.hid oy
  have OL := Lib.hid ol
  have EV := Lib.hid ev
  clear hq hT hj oy ol ev
  go_enter Tryd.func10, Tryd.ntmps10
  go_wp2_with fail
  refine (nnat w).mono ?_
  rintro e w1 ⟨rfl, rfl⟩
  have B := Lib.hid (rnat_g Q (some []) w1 HQ.out OY.out OL.out)
  rw [EV.out] at B
  go_wp2_with fail
  refine B.out.mono ?_
  rintro e w2 ⟨a2, n2, c2, rfl, sl2, nc2, st2, g2⟩
  have G2 := Lib.hid g2
  clear st2 g2 B
  have SM := Lib.hid (qsame_c (s := false) (t := false) (Rd.nil w2) (Rd.nil w2) (sl2.rd nc2) (Rd.nil w2))
  clear sl2 nc2
  dsimp only
  go_wp2_with fail
  refine SM.out.mono ?_
  rintro e w3 ⟨rfl, k3⟩
  have K3 := Lib.hid k3
  clear k3 SM
  have E0 : eqB [] (nats []) = true := eqB_self []
  rw [E0, eqB_self]
  go_wp2
  refine bodyPost_ret (results_tmp rfl _ _ _) rfl ?_
  exact ⟨rfl, fun b h1 h2 => ((Below.refl b w1).grown G2.out h2 (fun j hj => by injection hj with hj; omega)).trans (Below.mono K3.out (Nat.le_trans h2 G2.out.size))⟩

set_option maxHeartbeats 8000000 in
set_option maxRecDepth 100000 in
theorem nstep_bytes (Q : Nat) (k : Int) (w : World) (hq : St 65 w Q (some [])) (hT : Tab w) (hk : 0 ≤ k ∧ k < 256) (hj : k % 6 = 4) :
    Calls Tryd.prog 10 #[.pointer none, .pointer (some ⟨Q, 0, none⟩), .int .u8 k] w fun e w' => e = .returned (.bool true) ∧ ∀ b, b ≤ Q → b ≤ w.heap.size → Below b w w' := by
  have oy : ∀ L : List Int, (some [] : Option (List Int)) = some L → Bytes L := fun L e => by injection e with e; subst e; intro x hx; cases hx
  have ol : ∀ L : List Int, (some [] : Option (List Int)) = some L → L.length ≤ 100000 := fun L e => by injection e with e; subst e; simp
  have t1 : k.tmod 6 = 4 := by rw [Int.tmod_eq_emod_of_nonneg hk.1]; exact hj
  have t2 : k % 6 = 4 := hj
  have HQ := Lib.hid hq
  have HTT := Lib.hid hT
  have ev : tk (some []) = ([], 5, none) := rfl
  have OY := Lib.hid oy
  have OL := Lib.hid ol
  have EV := Lib.hid ev
  clear hq hT hj oy ol ev
  go_enter Tryd.func10, Tryd.ntmps10
  go_wp2_with fail
  refine (nbytes w).mono ?_
  rintro e w1 ⟨a1, n1, c1, rfl, sl1, hb1⟩
  have B1 := Lib.hid hb1
  have SL1 := Lib.hid sl1
  have HQ1 := Lib.hid (HQ.out.below hb1)
  have B := Lib.hid (rbytes_g Q (some []) w1 HQ1.out OY.out OL.out)
  rw [EV.out] at B
  clear hb1 sl1
  obtain ⟨st, hst⟩ : ∃ st, strOfNums ([] : List Int) = st := ⟨_, rfl⟩
  have HST := Lib.hid hst
  clear hst
  go_wp2_with fail
  refine B.out.mono ?_
  rintro e w2 ⟨a2, n2, c2, rfl, sl2, st2, g2⟩
  have G2 := Lib.hid g2
  have cv1 := conv_sl (SL1.out.pastN HQ1.out.noInt g2)
  have cv2 := conv_sl sl2
  clear st2 g2 B sl2
  dsimp only at cv1 cv2 ⊢
  rw [HST.out] at cv1 cv2
  go_wp2
  refine bodyPost_ret (results_tmp rfl _ _ _) rfl ?_
  exact ⟨rfl, fun b h1 h2 => (B1.out.mono h2).grown G2.out (Nat.le_trans h2 B1.out.size) (fun j hj => by injection hj with hj; omega)⟩

set_option maxHeartbeats 8000000 in
set_option maxRecDepth 100000 in
theorem nstep_rat (Q : Nat) (k : Int) (w : World) (hq : St 65 w Q (some [])) (hT : Tab w) (hk : 0 ≤ k ∧ k < 256) (hj : k % 6 = 3) :
    Calls Tryd.prog 10 #[.pointer none, .pointer (some ⟨Q, 0, none⟩), .int .u8 k] w fun e w' => e = .returned (.bool true) ∧ ∀ b, b ≤ Q → b ≤ w.heap.size → Below b w w' := by
  have oy : ∀ L : List Int, (some [] : Option (List Int)) = some L → Bytes L := fun L e => by injection e with e; subst e; intro x hx; cases hx
  have ol : ∀ L : List Int, (some [] : Option (List Int)) = some L → L.length ≤ 100000 := fun L e => by injection e with e; subst e; simp
  have t1 : k.tmod 6 = 3 := by rw [Int.tmod_eq_emod_of_nonneg hk.1]; exact hj
  have t2 : k % 6 = 3 := hj
  have HQ := Lib.hid hq
  have HTT := Lib.hid hT
  have ev : rR (some []) = ((false, [], []), 5, none) := rfl
  have OY := Lib.hid oy
  have OL := Lib.hid ol
  have EV := Lib.hid ev
  clear hq hT hj oy ol ev
  go_enter Tryd.func10, Tryd.ntmps10
  go_wp2_with fail
  refine (nrat w).mono ?_
  rintro e w1 ⟨rfl, hb1⟩
  have B1 := Lib.hid hb1
  obtain ⟨A1, hA1⟩ : ∃ q, w1.alloc (.cells #[.bool false, .slice none 0 0, .slice none 0 0] 37) = q := ⟨_, rfl⟩
  have BA : Hid (Below w1.heap.size w1 A1) := Lib.hid (by rw [← hA1]; exact Below.newBlock _)
  have QA : Hid (Q3 A1 w1.heap.size (.bool false) (.slice none 0 0) (.slice none 0 0)) := Lib.hid (by rw [← hA1]; exact Q3.new _ _ _ _)
  have Q1 := Lib.hid ((HQ.out.below hb1).below BA.out)
  have BW := Lib.hid (B1.out.trans (BA.out.mono B1.out.size))
  have hPQ : w1.heap.size ≠ Q := Nat.ne_of_gt (Nat.lt_of_lt_of_le HQ.out.lt B1.out.size)
  have B := Lib.hid (rrat_g Q (some []) A1 Q1.out OY.out OL.out (HTT.out.below BW.out))
  rw [EV.out] at B
  have hA1' := Lib.hid hA1
  clear hA1 hb1
  go_upto_region 16 with (fail)
  rw [hA1'.out]
  go_wp2_with fail
  refine B.out.mono ?_
  rintro e w2 ⟨a2, n2, c2, a2', n2', c2', rfl, sl2, nc2, su2, nd2, st2, g2⟩
  have QB := Lib.hid (QA.out.past hPQ g2)
  have G2 := Lib.hid g2
  obtain ⟨A3, hA3⟩ : ∃ q, w2.alloc (.cells #[.bool false, .slice a2 n2 c2, .slice a2' n2' c2'] 37) = q := ⟨_, rfl⟩
  have BC : Hid (Below w2.heap.size w2 A3) := Lib.hid (by rw [← hA3]; exact Below.newBlock _)
  have QC : Hid (Q3 A3 w2.heap.size (.bool false) (.slice a2 n2 c2) (.slice a2' n2' c2')) := Lib.hid (by rw [← hA3]; exact Q3.new _ _ _ _)
  have QD := Lib.hid (QB.out.below BC.out)
  have SM := Lib.hid (qsame_c (s := false) (t := false) (Rd.nil A3) (Rd.nil A3) ((sl2.below BC.out).rd nc2) ((su2.below BC.out).rd nd2))
  obtain ⟨x0, x1, x2, -, -, -⟩ := QC.out.facts
  obtain ⟨y0, y1, y2, -, -, -⟩ := QD.out.facts
  have hA3' := Lib.hid hA3
  clear hA3 sl2 nc2 su2 nd2 st2 g2 B hPQ
  dsimp only
  go_upto_region 17 with (fail)
  rw [hA3'.out]
  go_wp2_with fail
  refine SM.out.mono ?_
  rintro e w4 ⟨rfl, k4⟩
  have K4 := Lib.hid k4
  clear k4 SM
  have E0 : eqB [] (nats []) = true := eqB_self []
  rw [E0]
  go_wp2
  refine bodyPost_ret (results_tmp rfl _ _ _) rfl ?_
  exact ⟨rfl, fun b h1 h2 => (((BW.out.mono h2).grown G2.out (Nat.le_trans h2 BW.out.size) (fun j hj => by injection hj with hj; omega)).trans (BC.out.mono (Nat.le_trans (Nat.le_trans h2 BW.out.size) G2.out.size))).trans (Below.mono K4.out (Nat.le_trans (Nat.le_trans (Nat.le_trans h2 BW.out.size) G2.out.size) BC.out.size))⟩

theorem nstep_c (Q : Nat) (k : Int) (w : World) (hq : St 65 w Q (some [])) (hT : Tab w) (hk : 0 ≤ k ∧ k < 256) :
    Calls Tryd.prog 10 #[.pointer none, .pointer (some ⟨Q, 0, none⟩), .int .u8 k] w fun e w' => e = .returned (.bool true) ∧ ∀ b, b ≤ Q → b ≤ w.heap.size → Below b w w' := by
  have hj : k % 6 = 0 ∨ k % 6 = 1 ∨ k % 6 = 2 ∨ k % 6 = 3 ∨ k % 6 = 4 ∨ k % 6 = 5 := by omega
  rcases hj with hj | hj | hj | hj | hj | hj
  · exact nstep_uint Q k w hq hT hk hj
  · exact nstep_int Q k w hq hT hk hj
  · exact nstep_nat Q k w hq hT hk hj
  · exact nstep_rat Q k w hq hT hk hj
  · exact nstep_bytes Q k w hq hT hk hj
  · exact nstep_text Q k w hq hT hk hj
set_option maxHeartbeats 8000000 in
set_option maxRecDepth 100000 in
theorem law_nil (k : Int) (w : World) (hT : Tab w) (hk : 0 ≤ k ∧ k < 256) :
    Calls Tryd.prog 6 #[.int .u8 k] w fun e w' => e = .returned (.bool true) ∧ Below w.heap.size w w' := by
  have HT := Lib.hid hT
  clear hT
  go_enter Tryd.func6, Tryd.ntmps6
  go_wp2_with fail
  refine (awake_c w).mono ?_
  rintro e w1 ⟨rfl, hb1⟩
  have B1 := Lib.hid hb1
  clear hb1
  go_wp2_with fail
  refine (nleft w1).mono ?_
  rintro e w2 ⟨rfl, rfl⟩
  go_wp2_with fail
  refine (ndone w2).mono ?_
  rintro e w3 ⟨rfl, rfl⟩
  go_wp2_with fail
  refine (rmade_g none 0 0 [] w3 (SlB.nil _) (by omega)).mono ?_
  rintro e w4 ⟨Q, rfl, hQ, hQ2, hst, hb4⟩
  have B4 := Lib.hid (B1.out.trans (hb4.mono B1.out.size))
  have LQ := Lib.hid (Nat.le_trans B1.out.size hQ)
  have NS := Lib.hid (nstep_c Q k w4 hst (HT.out.below B4.out) hk)
  clear hst hb4 hQ hQ2
  go_wp2_with fail
  refine NS.out.mono ?_
  rintro e w5 ⟨rfl, be⟩
  have B5 := Lib.hid (B4.out.trans (be _ LQ.out B4.out.size))
  clear be NS
  go_wp2_with fail
  refine (ndone w5).mono ?_
  rintro e w6 ⟨rfl, rfl⟩
  go_wp2
  refine bodyPost_ret (results_tmp rfl _ _ _) rfl ?_
  exact ⟨rfl, B5.out⟩

end Go.Proofs.YtcdkehghdhcokaaDoor.wr
