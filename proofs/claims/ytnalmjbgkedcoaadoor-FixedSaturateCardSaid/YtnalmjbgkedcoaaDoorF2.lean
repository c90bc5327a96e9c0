/- Round. -/
import Derived.Test.YtnalmjbgkedcoaaDoorF1
import Derived.Test.YtnalmjbgkedcoaaDoorR12
import Derived.Test.YtnalmjbgkedcoaaDoorR11
import Derived.Test.YtnalmjbgkedcoaaDoorRR7
import Derived.Deep.RegionHeld3
import Derived.Deep.Cut
namespace Go.Proofs.YtnalmjbgkedcoaaDoor.fx
open Go.RowKit
set_option linter.unusedVariables false

set_option linter.unusedSimpArgs false
theorem QBox.cells3 {g : Nat} {u0 u1 u2 : Value} {w : World} (h : QBox g u0 u1 u2 w) (u v x : Value) :
    (((w.setCell ⟨g, 0, none⟩ u).setCell ⟨g, 1, none⟩ v).setCell ⟨g, 2, none⟩ x).cell? ⟨g, 0, none⟩ = some u ∧ (((w.setCell ⟨g, 0, none⟩ u).setCell ⟨g, 1, none⟩ v).setCell ⟨g, 2, none⟩ x).cell? ⟨g, 1, none⟩ = some v ∧ (((w.setCell ⟨g, 0, none⟩ u).setCell ⟨g, 1, none⟩ v).setCell ⟨g, 2, none⟩ x).cell? ⟨g, 2, none⟩ = some x := by
  have a0 : (w.setCell ⟨g, 0, none⟩ u).cell? ⟨g, 0, none⟩ = some u := World.cell?_setCell_same _ _ _ h.c0
  have a1 : ((w.setCell ⟨g, 0, none⟩ u).setCell ⟨g, 1, none⟩ v).cell? ⟨g, 1, none⟩ = some v := World.cell?_setCell_same (w.setCell ⟨g, 0, none⟩ u) ⟨g, 1, none⟩ v (u := u1) (by rw [World.cell?_setCell_other _ _ _ _ (by simp)]; exact h.c1)
  refine ⟨?_, ?_, World.cell?_setCell_same _ ⟨g, 2, none⟩ x (u := u2) (by rw [World.cell?_setCell_other _ _ _ _ (by simp), World.cell?_setCell_other _ _ _ _ (by simp)]; exact h.c2)⟩
  · rw [World.cell?_setCell_other _ _ _ _ (by simp), World.cell?_setCell_other _ _ _ _ (by simp)]; exact a0
  · rw [World.cell?_setCell_other _ _ _ _ (by simp)]; exact a1
theorem fl_abs {p : Rat} {k : Nat} (h : Rb p k) : p.floor.natAbs < BB ^ k := by
  have e : p.floor = p.num / (p.den : Int) := by
    have h1 := floor_rv (decide (p.num < 0)) p.num.natAbs (wd p)
    rw [rv_wd, iv_abs2, dn_wd] at h1
    exact h1
  rw [e]
  exact Nat.lt_of_le_of_lt (Int.natAbs_ediv_le_natAbs _ _) h.1
/-- the absolute value -/
def aq (q : Rat) : Rat := rv false q.num.natAbs (wd q)
set_option maxRecDepth 100000 in
theorem field51 (w : World) (b : Bool) (x : Value) : Sem.run Tryd.prog (Instr.field 51 (.agg #[.bool b, x]) 1) w = .ok x w := by
  simp [Instr.field, asAgg, go_sem]
/-- a half -/
def hf : Rat := ((1 : Int) : Rat) / ((2 : Int) : Rat)
/-- the absolute value of the rounded number -/
def rnd (q : Rat) (k : Int) : Nat := (aq q * pw k + hf).floor.natAbs
theorem pw_rb (k : Int) (h : k ≤ 63) : Rb (pw k) 6 := by
  refine (rb_int (k := 2) (z := ((2 ^ k.toNat : Nat) : Int)) ?_ (by omega)).up (by omega)
  rw [Int.natAbs_natCast]
  have : 2 ^ k.toNat ≤ 2 ^ 63 := Nat.pow_le_pow_right (by omega) (by omega)
  have e : BB ^ 2 = 18446744073709551616 := by decide
  omega
theorem hf_rb : Rb hf 12 := by
  unfold hf
  rw [Rat.div_def]
  exact (Rb.mul (rb_int (z := 1) (k := 1) (by decide) (by omega)) ((rb_int (z := 2) (k := 1) (by decide) (by omega)).inv (by omega)) (by omega)).up (by omega)
set_option maxHeartbeats 16000000 in
set_option maxRecDepth 100000 in
theorem round_in (v : Value) (q : Rat) (k : Int) (w : World) (h : Cr w v q) (hq : Rb q 6) (h0 : 0 ≤ k) (h1 : k ≤ 62) (hT : Tab w) :
    Calls Tryd.prog 8 #[v, .int .i64 k] w fun e w' => e = .returned (.tuple #[.int .i64 (sgd (decide (q.num < 0)) (rnd q k)).1, .int .i64 (sgd (decide (q.num < 0)) (rnd q k)).2]) ∧ Keep w w' := by
  obtain ⟨a, n, c, a', n', c', rfl, e1, e2, r1, r2⟩ := h.form
  have qa : Rb (aq q) 6 := rb_rv false hq.1 hq.wd (by omega)
  obtain ⟨s, hs⟩ : ∃ s, decide (q.num < 0) = s := ⟨_, rfl⟩
  obtain ⟨M, hM⟩ : ∃ M, rnd q k = M := ⟨_, rfl⟩
  obtain ⟨t1, t2, ht⟩ : ∃ t1 t2, sgd s M = (t1, t2) := ⟨_, _, rfl⟩
  rw [hs, hM, ht]
  have RES := Lib.hid ht
  obtain ⟨PQ, hPQ⟩ : ∃ x, aq q * pw k = x := ⟨_, rfl⟩
  have HPQ := Lib.hid hPQ
  have FLR := Lib.hid (show (PQ + hf).floor.natAbs = M by rw [← hPQ]; exact hM)
  have RB12 := Lib.hid (show Rb PQ 12 by rw [← hPQ]; exact Rb.mul qa (pw_rb k (by omega)) (by omega))
  have RB25 := Lib.hid (show Rb (PQ + hf) (12 + 12 + 1) from Rb.add RB12.out hf_rb)
  have RBP := Lib.hid (pw_rb k (by omega))
  have RBF := Lib.hid (show (PQ + hf).floor.natAbs < BB ^ (12 + 12 + 1) from fl_abs RB25.out)
  have R1 := Lib.hid r1
  have R2 := Lib.hid r2
  have L1 := Lib.hid (show (dig q.num.natAbs).length ≤ 6 from dig_len_of hq.1)
  have L2 := Lib.hid (show (dig (wd q)).length ≤ 6 from dig_len_of hq.wd)
  obtain ⟨A1, hA1⟩ : ∃ x, w.alloc (.cells #[.bool s, .slice a n c, .slice a' n' c'] 25) = x := ⟨_, rfl⟩
  have K1 := Lib.hid (show Keep w A1 by rw [← hA1]; exact (Keep.refl w).alloc _)
  have Q1 := Lib.hid (show QBox w.heap.size (.bool s) (.slice a n c) (.slice a' n' c') A1 by rw [← hA1]; exact QBox.new w s a n c a' n' c')
  have T1 := Lib.hid (hT.keep K1.out)
  have hA1' := Lib.hid hA1
  have FR := Lib.hid (qfrac_1 1 2 A1 (by omega) (by omega) (by omega) (by omega) T1.out (by decide))
  clear h e1 e2 r1 r2 hT hA1 hs hM ht hPQ hq qa
  go_enter Tryd.func8, Tryd.ntmps8
  go_upto_region 1 with (fail)
  rw [hA1'.out]
  go_wp2_with fail
  refine (isShift_t k A1 h0 h1).mono ?_
  rintro e y ⟨rfl, rfl⟩
  go_wp2_with fail
  refine FR.out.mono ?_
  rintro e w2 ⟨u, rfl, cr, k2⟩
  obtain ⟨x6, m6, g6, y6, o6, h6, rfl, e3, e4, r3, r4⟩ := cr.form
  obtain ⟨hb, hhb⟩ : ∃ b, decide ((((1 : Int) : Rat) / ((2 : Int) : Rat)).num < 0) = b := ⟨_, rfl⟩
  rw [hhb] at cr ⊢
  have K2 := Lib.hid (Keep.trans K1.out k2)
  have Q2 := Lib.hid (Q1.out.keep k2)
  have CR2 := Lib.hid cr
  have T2 := Lib.hid (T1.out.keep k2)
  clear cr k2 e3 e4 r3 r4 hhb FR
  obtain ⟨A3, hA3⟩ : ∃ x, w2.alloc (.cells #[.bool hb, .slice x6 m6 g6, .slice y6 o6 h6] 25) = x := ⟨_, rfl⟩
  obtain ⟨Hh, hHh⟩ : ∃ x, w2.heap.size = x := ⟨_, rfl⟩
  have k3 : Keep w2 A3 := by rw [← hA3]; exact (Keep.refl w2).alloc _
  have KW3 := Lib.hid (Keep.trans K2.out k3)
  have T3 := Lib.hid (T2.out.keep k3)
  have q3 : QBox Hh (.bool hb) (.slice x6 m6 g6) (.slice y6 o6 h6) A3 := by rw [← hA3, ← hHh]; exact QBox.new w2 hb x6 m6 g6 y6 o6 h6
  have KS : Hid (∀ W, Keep A3 W → W.cell? ⟨w.heap.size, 0, none⟩ = some (.bool s) ∧ W.cell? ⟨w.heap.size, 1, none⟩ = some (.slice a n c) ∧ W.cell? ⟨w.heap.size, 2, none⟩ = some (.slice a' n' c') ∧ W.cell? ⟨Hh, 0, none⟩ = some (.bool hb) ∧ W.cell? ⟨Hh, 1, none⟩ = some (.slice x6 m6 g6) ∧ W.cell? ⟨Hh, 2, none⟩ = some (.slice y6 o6 h6)) := Lib.hid (fun W hW => by
    have z1 := (Q2.out.keep k3).keep hW
    have z2 := q3.keep hW
    exact ⟨z1.c0, z1.c1, z1.c2, z2.c0, z2.c1, z2.c2⟩)
  have RX : Hid (∀ W, Keep A3 W → Ra W (.agg #[.bool false, .slice a n c, .slice a' n' c']) (aq q) 6) := Lib.hid (fun W hW =>
    ⟨false, q.num.natAbs, wd q, _, _, rfl, ⟨dig q.num.natAbs, ⟨a, n, c, rfl, R1.out.below (Keep.trans KW3.out hW)⟩, nv_dig _, L1.out⟩, ⟨dig (wd q), ⟨a', n', c', rfl, R2.out.below (Keep.trans KW3.out hW)⟩, nv_dig _, L2.out⟩, rfl⟩)
  have RH : Hid (∀ W, Keep A3 W → Ra W (.agg #[.bool hb, .slice x6 m6 g6, .slice y6 o6 h6]) hf 12) := Lib.hid (fun W hW => ((CR2.out.keep k3).keep hW).ra hf_rb)
  have KD := Lib.hid (show Keep A3 A3.drew from Keep.drew (Keep.refl _))
  have hA3' := Lib.hid hA3
  have hHh' := Lib.hid hHh
  clear hA3 hHh k3 q3 Q2 Q1 CR2 T2 T1 K2 K1
  go_upto_region 4 with (fail)
  rw [hA3'.out, hHh'.out]
  refine wp_region_held_drew (S := (fun w' => w'.cell? ⟨w.heap.size, 0, none⟩ = some (.bool s) ∧ w'.cell? ⟨w.heap.size, 1, none⟩ = some (.slice a n c) ∧ w'.cell? ⟨w.heap.size, 2, none⟩ = some (.slice a' n' c') ∧ w'.cell? ⟨Hh, 0, none⟩ = some (.bool hb) ∧ w'.cell? ⟨Hh, 1, none⟩ = some (.slice x6 m6 g6) ∧ w'.cell? ⟨Hh, 2, none⟩ = some (.slice y6 o6 h6))) (by kernel_rfl) (KS.out _ KD.out) (fun hHeld => ?_)
  refine wpAnyH_take (i := 0) (oi := _) (v := ?vz1) rfl (by kernel_rfl) (by kernel_rfl) (by kernel_rfl) (fun _ _ _ h => h) (Or.inl ⟨by rfl, ?hyz1⟩) (by assumption) ?restz1
  case hyz1 => (intro wq hSw; (try dsimp only at hSw); first | (go_simp; done) | (go_simp; with_reducible rfl))
  try simp only [Act.put, List.getElem_toArray, List.getElem_cons_succ, List.getElem_cons_zero, List.setIfInBounds_toArray, List.set_cons_zero, List.set_cons_succ]
  refine wpAnyH_take (i := 1) (oi := _) (v := ?vz2) rfl (by kernel_rfl) (by kernel_rfl) (by kernel_rfl) (fun _ _ _ h => h) (Or.inl ⟨by rfl, ?hyz2⟩) (by assumption) ?restz2
  case hyz2 => (intro wq hSw; (try dsimp only at hSw); first | (go_simp; done) | (go_simp; with_reducible rfl))
  try simp only [Act.put, List.getElem_toArray, List.getElem_cons_succ, List.getElem_cons_zero, List.setIfInBounds_toArray, List.set_cons_zero, List.set_cons_succ]
  refine wpAnyH_take (i := 2) (oi := _) (v := ?vz3) rfl (by kernel_rfl) (by kernel_rfl) (by kernel_rfl) (fun _ _ _ h => h) (Or.inl ⟨by rfl, ?hyz3⟩) (by assumption) ?restz3
  case hyz3 => (intro wq hSw; (try dsimp only at hSw); first | (go_simp; done) | (go_simp; with_reducible rfl))
  try simp only [Act.put, List.getElem_toArray, List.getElem_cons_succ, List.getElem_cons_zero, List.setIfInBounds_toArray, List.set_cons_zero, List.set_cons_succ]
  refine wpAnyH_take (i := 3) (oi := _) (v := ?vz4) rfl (by kernel_rfl) (by kernel_rfl) (by kernel_rfl) (fun _ _ _ h => h) (Or.inl ⟨by rfl, ?hyz4⟩) (by assumption) ?restz4
  case hyz4 => (intro wq hSw; (try dsimp only at hSw); first | (go_simp; done) | (go_simp; with_reducible rfl))
  try simp only [Act.put, List.getElem_toArray, List.getElem_cons_succ, List.getElem_cons_zero, List.setIfInBounds_toArray, List.set_cons_zero, List.set_cons_succ]
  refine wpAnyH_take (i := 4) (oi := _) (v := ?vz5) rfl (by kernel_rfl) (by kernel_rfl) (by kernel_rfl) (fun _ _ _ h => h) (Or.inl ⟨by rfl, ?hyz5⟩) (by assumption) ?restz5
  case hyz5 => (intro wq hSw; (try dsimp only at hSw); first | (go_simp; done) | (go_simp; with_reducible rfl))
  try simp only [Act.put, List.getElem_toArray, List.getElem_cons_succ, List.getElem_cons_zero, List.setIfInBounds_toArray, List.set_cons_zero, List.set_cons_succ]
  refine wpAnyH_take (i := 5) (oi := _) (v := ?vz6) rfl (by kernel_rfl) (by kernel_rfl) (by kernel_rfl) (fun _ _ _ h => h) (Or.inl ⟨by rfl, ?hyz6⟩) (by assumption) ?restz6
  case hyz6 => (intro wq hSw; (try dsimp only at hSw); first | (go_simp; done) | (go_simp; with_reducible rfl))
  try simp only [Act.put, List.getElem_toArray, List.getElem_cons_succ, List.getElem_cons_zero, List.setIfInBounds_toArray, List.set_cons_zero, List.set_cons_succ]
  refine wpAnyH_ready (rs := [6, 8]) (by kernel_rfl) (by simp) ?_
  refine AllReadyH.cons (o := _) rfl (fun KK hKK => ?_) ?_
  · skip
    have PC := Lib.hid (power_c k A3.drew h0 (by omega))
    go_simp
    refine Calls.mono PC.out ?_
    rintro e w6 ⟨u6, rfl, cr6, k6⟩
    have K6 := Lib.hid (Keep.trans KD.out k6)
    have UP := Lib.hid (fun V (hV : Keep w6 V) => (cr6.keep hV).ra RBP.out)
    clear cr6 k6 PC
    go_wp2_with fail
    refine hKK.out _ _ (KS.out _ K6.out) (fun hHeld2 => ?_)
    clear hKK KK hHeld
    have hHeld := hHeld2
    clear hHeld2
    try simp only [Act.put, List.getElem_toArray, List.getElem_cons_succ, List.getElem_cons_zero, List.setIfInBounds_toArray, List.set_cons_zero, List.set_cons_succ]
    refine wpAnyH_ready (rs := [7, 8]) (by kernel_rfl) (by simp) ?_
    refine AllReadyH.cons (o := _) rfl (fun KK hKK => ?_) ?_
    · skip
      have MC := Lib.hid (qmul_c (RX.out _ K6.out) (UP.out w6 (Keep.refl _)) (by omega) (by omega) (T3.out.keep K6.out))
      rw [HPQ.out] at MC
      go_simp
      refine Calls.mono MC.out ?_
      rintro e w7 ⟨u7, rfl, cr7, k7⟩
      have K7 := Lib.hid (Keep.trans K6.out k7)
      obtain ⟨x7, m7, g7, y7, o7, h7, rfl, _, _, r7a, r7b⟩ := cr7.form
      obtain ⟨b7, hb7⟩ : ∃ b, decide (PQ.num < 0) = b := ⟨_, rfl⟩
      have R7A := Lib.hid r7a
      have R7B := Lib.hid r7b
      have EB := Lib.hid hb7
      rw [hb7]
      clear cr7 k7 MC r7a r7b hb7
      go_wp2_with fail
      refine hKK.out _ _ (KS.out _ K7.out) (fun hHeld2 => ?_)
      clear hKK KK hHeld
      have hHeld := hHeld2
      clear hHeld2
      try simp only [Act.put, List.getElem_toArray, List.getElem_cons_succ, List.getElem_cons_zero, List.setIfInBounds_toArray, List.set_cons_zero, List.set_cons_succ]
      refine wpAnyH_ready (rs := [8]) (by kernel_rfl) (by simp) ?_
      refine AllReadyH.cons (o := _) rfl (fun KK hKK => ?_) AllReadyH.nil
      go_simp
      obtain ⟨wa, hwa⟩ : ∃ q, World.alloc w7 (.cells #[.bool false, .slice none 0 0, .slice none 0 0] 25) = q := ⟨_, rfl⟩
      rw [hwa]
      have kwa : Keep w7 wa := by rw [← hwa]; exact (Keep.refl _).alloc _
      have Ka := Lib.hid (show Keep A3 wa from Keep.trans K7.out kwa)
      have QN := Lib.hid (show QBox w7.heap.size (.bool false) (.slice none 0 0) (.slice none 0 0) wa by rw [← hwa]; exact QBox.new w7 false none 0 0 none 0 0)
      have R7A := Lib.hid (R7A.out.below kwa)
      have R7B := Lib.hid (R7B.out.below kwa)
      clear hwa kwa
      refine hKK.out _ _ (KS.out _ Ka.out) (fun hHeld2 => ?_)
      clear hKK KK hHeld
      have hHeld := hHeld2
      clear hHeld2
      try simp only [Act.put, List.getElem_toArray, List.getElem_cons_succ, List.getElem_cons_zero, List.setIfInBounds_toArray, List.set_cons_zero, List.set_cons_succ]
      refine wpAnyH_ready (rs := [9]) (by kernel_rfl) (by simp) ?_
      refine AllReadyH.cons (o := _) rfl (fun KK hKK => ?_) AllReadyH.nil
      obtain ⟨hk9, hrd9, s0, s1, s2⟩ := QN.out.store Ka.out (K7.out.size) (.bool b7) (.slice x7 m7 g7) (.slice y7 o7 h7)
      have cr9 : Cr _ (.agg #[.bool b7, .slice x7 m7 g7, .slice y7 o7 h7]) PQ := Cr.of EB.out (hrd9 _ _ _ _ R7A.out) (hrd9 _ _ _ _ R7B.out)
      have qs9 := QBox.cells3 QN.out (.bool b7) (.slice x7 m7 g7) (.slice y7 o7 h7)
      obtain ⟨q0, q1, q2, f0, f1, f2, -⟩ := id QN.out
      go_simp
      obtain ⟨W9, hW9⟩ : ∃ q, (((wa.setCell ⟨w7.heap.size, 0, none⟩ (.bool b7)).setCell ⟨w7.heap.size, 1, none⟩ (.slice x7 m7 g7)).setCell ⟨w7.heap.size, 2, none⟩ (.slice y7 o7 h7)) = q := ⟨_, rfl⟩
      rw [hW9] at hk9 cr9 qs9 ⊢
      have K9 := Lib.hid hk9
      have RS := Lib.hid cr9
      have QS := Lib.hid qs9
      clear hk9 hrd9 s0 s1 s2 q0 q1 q2 f0 f1 f2 hW9 cr9 qs9
      refine hKK.out _ _ (KS.out _ K9.out) (fun hHeld2 => ?_)
      clear hKK KK hHeld
      have hHeld := hHeld2
      clear hHeld2
      try simp only [Act.put, List.getElem_toArray, List.getElem_cons_succ, List.getElem_cons_zero, List.setIfInBounds_toArray, List.set_cons_zero, List.set_cons_succ]
      refine wpAnyH_done (by kernel_rfl) ?_ _
      try go_simp
      clear hHeld
      have NF := Lib.hid (qadd_c (RS.out.ra RB12.out) (RH.out W9 K9.out) (by omega) (by omega) (T3.out.keep K9.out))
      have BX9 := KS.out W9 K9.out
      obtain ⟨d0, d1, d2, d3, d4, d5⟩ := BX9
      obtain ⟨q0, q1, q2⟩ := QS.out
      go_wp2_with fail
      refine NF.out.mono ?_
      rintro e W10 ⟨u10, rfl, cr10, k10⟩
      have K10 := Lib.hid (Keep.trans K9.out k10)
      have FL := Lib.hid (qfloor_c (cr10.ra RB25.out) (by omega) (by omega))
      clear cr10 k10 NF d0 d1 d2 d3 d4 d5 q0 q1 q2 QS
      go_wp2_with fail
      refine FL.out.mono ?_
      rintro e W11 ⟨u11, rfl, ⟨m, rfl, cn⟩, k11⟩
      have K11 := Lib.hid (Keep.trans K10.out k11)
      obtain ⟨ma, mc, hm, -⟩ := cn.form
      obtain ⟨ml, hml⟩ : ∃ x, (dig (PQ + hf).floor.natAbs).length = x := ⟨_, rfl⟩
      rw [hml] at hm
      subst hm
      have hfd := fun w => field51 w (decide ((PQ + hf).floor < 0)) (.slice ma ml mc)
      have UI := uint_n (cn.nm RBF.out)
      rw [FLR.out] at UI
      have U := Lib.hid UI
      clear cn k11 FL UI hml
      go_wp2_with fail
      refine U.out.mono ?_
      rintro e W12 ⟨rfl, k12⟩
      have K12 := Lib.hid (Keep.trans K11.out k12)
      clear k12 U
      obtain ⟨d0, d1, d2, d3, d4, d5⟩ := KS.out W12 K12.out
      by_cases hM : M < 18446744073709551616
      · rw [show uintV M = M from if_pos hM, show uintB M = true from decide_eq_true hM]
        have SG := signed_f s M W12 hM
        rw [RES.out] at SG
        have SGH := Lib.hid SG
        clear SG
        go_wp2_with fail
        refine SGH.out.mono ?_
        rintro e W13 ⟨rfl, rfl⟩
        go_wp2
        refine bodyPost_ret (results_tmp2 rfl _ _ _) rfl ?_
        exact ⟨rfl, Keep.trans KW3.out K12.out⟩
      · rw [show uintB M = false from decide_eq_false hM]
        have E := RES.out
        unfold sgd at E
        rw [if_pos (by omega)] at E
        injection E with e1 e2
        subst e1; subst e2
        go_wp2
        refine bodyPost_ret (results_tmp2 rfl _ _ _) rfl ?_
        exact ⟨rfl, Keep.trans KW3.out K12.out⟩
    refine AllReadyH.cons (o := _) rfl (fun KK hKK => ?_) AllReadyH.nil
    go_simp
    obtain ⟨wa, hwa⟩ : ∃ q, World.alloc w6 (.cells #[.bool false, .slice none 0 0, .slice none 0 0] 25) = q := ⟨_, rfl⟩
    rw [hwa]
    have kwa : Keep w6 wa := by rw [← hwa]; exact (Keep.refl _).alloc _
    have Ka := Lib.hid (show Keep A3 wa from Keep.trans K6.out kwa)
    have QN := Lib.hid (show QBox w6.heap.size (.bool false) (.slice none 0 0) (.slice none 0 0) wa by rw [← hwa]; exact QBox.new w6 false none 0 0 none 0 0)
    have UP := Lib.hid (fun V (hV : Keep wa V) => UP.out V (Keep.trans kwa hV))
    clear hwa kwa
    refine hKK.out _ _ (KS.out _ Ka.out) (fun hHeld2 => ?_)
    clear hKK KK hHeld
    have hHeld := hHeld2
    clear hHeld2
    try simp only [Act.put, List.getElem_toArray, List.getElem_cons_succ, List.getElem_cons_zero, List.setIfInBounds_toArray, List.set_cons_zero, List.set_cons_succ]
    refine wpAnyH_ready (rs := [7]) (by kernel_rfl) (by simp) ?_
    refine AllReadyH.cons (o := _) rfl (fun KK hKK => ?_) AllReadyH.nil
    have MC := Lib.hid (qmul_c (RX.out _ Ka.out) (UP.out wa (Keep.refl _)) (by omega) (by omega) (T3.out.keep Ka.out))
    rw [HPQ.out] at MC
    go_simp
    refine Calls.mono MC.out ?_
    rintro e w7 ⟨u7, rfl, cr7, k7⟩
    have K7 := Lib.hid (Keep.trans Ka.out k7)
    obtain ⟨x7, m7, g7, y7, o7, h7, rfl, _, _, r7a, r7b⟩ := cr7.form
    obtain ⟨b7, hb7⟩ : ∃ b, decide (PQ.num < 0) = b := ⟨_, rfl⟩
    have R7A := Lib.hid r7a
    have R7B := Lib.hid r7b
    have EB := Lib.hid hb7
    rw [hb7]
    have QN := Lib.hid (QN.out.keep k7)
    clear cr7 k7 MC r7a r7b hb7
    go_wp2_with fail
    refine hKK.out _ _ (KS.out _ K7.out) (fun hHeld2 => ?_)
    clear hKK KK hHeld
    have hHeld := hHeld2
    clear hHeld2
    try simp only [Act.put, List.getElem_toArray, List.getElem_cons_succ, List.getElem_cons_zero, List.setIfInBounds_toArray, List.set_cons_zero, List.set_cons_succ]
    refine wpAnyH_ready (rs := [9]) (by kernel_rfl) (by simp) ?_
    refine AllReadyH.cons (o := _) rfl (fun KK hKK => ?_) AllReadyH.nil
    obtain ⟨hk9, hrd9, s0, s1, s2⟩ := QN.out.store K7.out (K6.out.size) (.bool b7) (.slice x7 m7 g7) (.slice y7 o7 h7)
    have cr9 : Cr _ (.agg #[.bool b7, .slice x7 m7 g7, .slice y7 o7 h7]) PQ := Cr.of EB.out (hrd9 _ _ _ _ R7A.out) (hrd9 _ _ _ _ R7B.out)
    have qs9 := QBox.cells3 QN.out (.bool b7) (.slice x7 m7 g7) (.slice y7 o7 h7)
    obtain ⟨q0, q1, q2, f0, f1, f2, -⟩ := id QN.out
    go_simp
    obtain ⟨W9, hW9⟩ : ∃ q, (((w7.setCell ⟨w6.heap.size, 0, none⟩ (.bool b7)).setCell ⟨w6.heap.size, 1, none⟩ (.slice x7 m7 g7)).setCell ⟨w6.heap.size, 2, none⟩ (.slice y7 o7 h7)) = q := ⟨_, rfl⟩
    rw [hW9] at hk9 cr9 qs9 ⊢
    have K9 := Lib.hid hk9
    have RS := Lib.hid cr9
    have QS := Lib.hid qs9
    clear hk9 hrd9 s0 s1 s2 q0 q1 q2 f0 f1 f2 hW9 cr9 qs9
    refine hKK.out _ _ (KS.out _ K9.out) (fun hHeld2 => ?_)
    clear hKK KK hHeld
    have hHeld := hHeld2
    clear hHeld2
    try simp only [Act.put, List.getElem_toArray, List.getElem_cons_succ, List.getElem_cons_zero, List.setIfInBounds_toArray, List.set_cons_zero, List.set_cons_succ]
    refine wpAnyH_done (by kernel_rfl) ?_ _
    try go_simp
    clear hHeld
    have NF := Lib.hid (qadd_c (RS.out.ra RB12.out) (RH.out W9 K9.out) (by omega) (by omega) (T3.out.keep K9.out))
    have BX9 := KS.out W9 K9.out
    obtain ⟨d0, d1, d2, d3, d4, d5⟩ := BX9
    obtain ⟨q0, q1, q2⟩ := QS.out
    go_wp2_with fail
    refine NF.out.mono ?_
    rintro e W10 ⟨u10, rfl, cr10, k10⟩
    have K10 := Lib.hid (Keep.trans K9.out k10)
    have FL := Lib.hid (qfloor_c (cr10.ra RB25.out) (by omega) (by omega))
    clear cr10 k10 NF d0 d1 d2 d3 d4 d5 q0 q1 q2 QS
    go_wp2_with fail
    refine FL.out.mono ?_
    rintro e W11 ⟨u11, rfl, ⟨m, rfl, cn⟩, k11⟩
    have K11 := Lib.hid (Keep.trans K10.out k11)
    obtain ⟨ma, mc, hm, -⟩ := cn.form
    obtain ⟨ml, hml⟩ : ∃ x, (dig (PQ + hf).floor.natAbs).length = x := ⟨_, rfl⟩
    rw [hml] at hm
    subst hm
    have hfd := fun w => field51 w (decide ((PQ + hf).floor < 0)) (.slice ma ml mc)
    have UI := uint_n (cn.nm RBF.out)
    rw [FLR.out] at UI
    have U := Lib.hid UI
    clear cn k11 FL UI hml
    go_wp2_with fail
    refine U.out.mono ?_
    rintro e W12 ⟨rfl, k12⟩
    have K12 := Lib.hid (Keep.trans K11.out k12)
    clear k12 U
    obtain ⟨d0, d1, d2, d3, d4, d5⟩ := KS.out W12 K12.out
    by_cases hM : M < 18446744073709551616
    · rw [show uintV M = M from if_pos hM, show uintB M = true from decide_eq_true hM]
      have SG := signed_f s M W12 hM
      rw [RES.out] at SG
      have SGH := Lib.hid SG
      clear SG
      go_wp2_with fail
      refine SGH.out.mono ?_
      rintro e W13 ⟨rfl, rfl⟩
      go_wp2
      refine bodyPost_ret (results_tmp2 rfl _ _ _) rfl ?_
      exact ⟨rfl, Keep.trans KW3.out K12.out⟩
    · rw [show uintB M = false from decide_eq_false hM]
      have E := RES.out
      unfold sgd at E
      rw [if_pos (by omega)] at E
      injection E with e1 e2
      subst e1; subst e2
      go_wp2
      refine bodyPost_ret (results_tmp2 rfl _ _ _) rfl ?_
      exact ⟨rfl, Keep.trans KW3.out K12.out⟩
  refine AllReadyH.cons (o := _) rfl (fun KK hKK => ?_) AllReadyH.nil
  go_simp
  obtain ⟨wa, hwa⟩ : ∃ q, World.drew (A3.alloc (.cells #[.bool false, .slice none 0 0, .slice none 0 0] 25)) = q := ⟨_, rfl⟩
  rw [hwa]
  have kwa : Keep A3 wa := by rw [← hwa]; exact Keep.drew ((Keep.refl A3).alloc _)
  have Ka := Lib.hid (show Keep A3 wa from kwa)
  have QN := Lib.hid (show QBox A3.heap.size (.bool false) (.slice none 0 0) (.slice none 0 0) wa by rw [← hwa]; exact (QBox.new A3 false none 0 0 none 0 0).keep (Keep.drew (Keep.refl _)))
  clear hwa kwa
  refine hKK.out _ _ (KS.out _ Ka.out) (fun hHeld2 => ?_)
  clear hKK KK hHeld
  have hHeld := hHeld2
  clear hHeld2
  try simp only [Act.put, List.getElem_toArray, List.getElem_cons_succ, List.getElem_cons_zero, List.setIfInBounds_toArray, List.set_cons_zero, List.set_cons_succ]
  refine wpAnyH_ready (rs := [6]) (by kernel_rfl) (by simp) ?_
  refine AllReadyH.cons (o := _) rfl (fun KK hKK => ?_) AllReadyH.nil
  have PC := Lib.hid (power_c k wa h0 (by omega))
  go_simp
  refine Calls.mono PC.out ?_
  rintro e w6 ⟨u6, rfl, cr6, k6⟩
  have K6 := Lib.hid (Keep.trans Ka.out k6)
  have UP := Lib.hid (fun V (hV : Keep w6 V) => (cr6.keep hV).ra RBP.out)
  have QN := Lib.hid (QN.out.keep k6)
  clear cr6 k6 PC
  go_wp2_with fail
  refine hKK.out _ _ (KS.out _ K6.out) (fun hHeld2 => ?_)
  clear hKK KK hHeld
  have hHeld := hHeld2
  clear hHeld2
  try simp only [Act.put, List.getElem_toArray, List.getElem_cons_succ, List.getElem_cons_zero, List.setIfInBounds_toArray, List.set_cons_zero, List.set_cons_succ]
  refine wpAnyH_ready (rs := [7]) (by kernel_rfl) (by simp) ?_
  refine AllReadyH.cons (o := _) rfl (fun KK hKK => ?_) AllReadyH.nil
  have MC := Lib.hid (qmul_c (RX.out _ K6.out) (UP.out w6 (Keep.refl _)) (by omega) (by omega) (T3.out.keep K6.out))
  rw [HPQ.out] at MC
  go_simp
  refine Calls.mono MC.out ?_
  rintro e w7 ⟨u7, rfl, cr7, k7⟩
  have K7 := Lib.hid (Keep.trans K6.out k7)
  obtain ⟨x7, m7, g7, y7, o7, h7, rfl, _, _, r7a, r7b⟩ := cr7.form
  obtain ⟨b7, hb7⟩ : ∃ b, decide (PQ.num < 0) = b := ⟨_, rfl⟩
  have R7A := Lib.hid r7a
  have R7B := Lib.hid r7b
  have EB := Lib.hid hb7
  rw [hb7]
  have QN := Lib.hid (QN.out.keep k7)
  clear cr7 k7 MC r7a r7b hb7
  go_wp2_with fail
  refine hKK.out _ _ (KS.out _ K7.out) (fun hHeld2 => ?_)
  clear hKK KK hHeld
  have hHeld := hHeld2
  clear hHeld2
  try simp only [Act.put, List.getElem_toArray, List.getElem_cons_succ, List.getElem_cons_zero, List.setIfInBounds_toArray, List.set_cons_zero, List.set_cons_succ]
  refine wpAnyH_ready (rs := [9]) (by kernel_rfl) (by simp) ?_
  refine AllReadyH.cons (o := _) rfl (fun KK hKK => ?_) AllReadyH.nil
  obtain ⟨hk9, hrd9, s0, s1, s2⟩ := QN.out.store K7.out (Nat.le_refl _) (.bool b7) (.slice x7 m7 g7) (.slice y7 o7 h7)
  have cr9 : Cr _ (.agg #[.bool b7, .slice x7 m7 g7, .slice y7 o7 h7]) PQ := Cr.of EB.out (hrd9 _ _ _ _ R7A.out) (hrd9 _ _ _ _ R7B.out)
  have qs9 := QBox.cells3 QN.out (.bool b7) (.slice x7 m7 g7) (.slice y7 o7 h7)
  obtain ⟨q0, q1, q2, f0, f1, f2, -⟩ := id QN.out
  go_simp
  obtain ⟨W9, hW9⟩ : ∃ q, (((w7.setCell ⟨A3.heap.size, 0, none⟩ (.bool b7)).setCell ⟨A3.heap.size, 1, none⟩ (.slice x7 m7 g7)).setCell ⟨A3.heap.size, 2, none⟩ (.slice y7 o7 h7)) = q := ⟨_, rfl⟩
  rw [hW9] at hk9 cr9 qs9 ⊢
  have K9 := Lib.hid hk9
  have RS := Lib.hid cr9
  have QS := Lib.hid qs9
  clear hk9 hrd9 s0 s1 s2 q0 q1 q2 f0 f1 f2 hW9 cr9 qs9
  refine hKK.out _ _ (KS.out _ K9.out) (fun hHeld2 => ?_)
  clear hKK KK hHeld
  have hHeld := hHeld2
  clear hHeld2
  try simp only [Act.put, List.getElem_toArray, List.getElem_cons_succ, List.getElem_cons_zero, List.setIfInBounds_toArray, List.set_cons_zero, List.set_cons_succ]
  refine wpAnyH_done (by kernel_rfl) ?_ _
  try go_simp
  clear hHeld
  have NF := Lib.hid (qadd_c (RS.out.ra RB12.out) (RH.out W9 K9.out) (by omega) (by omega) (T3.out.keep K9.out))
  have BX9 := KS.out W9 K9.out
  obtain ⟨d0, d1, d2, d3, d4, d5⟩ := BX9
  obtain ⟨q0, q1, q2⟩ := QS.out
  go_wp2_with fail
  refine NF.out.mono ?_
  rintro e W10 ⟨u10, rfl, cr10, k10⟩
  have K10 := Lib.hid (Keep.trans K9.out k10)
  have FL := Lib.hid (qfloor_c (cr10.ra RB25.out) (by omega) (by omega))
  clear cr10 k10 NF d0 d1 d2 d3 d4 d5 q0 q1 q2 QS
  go_wp2_with fail
  refine FL.out.mono ?_
  rintro e W11 ⟨u11, rfl, ⟨m, rfl, cn⟩, k11⟩
  have K11 := Lib.hid (Keep.trans K10.out k11)
  obtain ⟨ma, mc, hm, -⟩ := cn.form
  obtain ⟨ml, hml⟩ : ∃ x, (dig (PQ + hf).floor.natAbs).length = x := ⟨_, rfl⟩
  rw [hml] at hm
  subst hm
  have hfd := fun w => field51 w (decide ((PQ + hf).floor < 0)) (.slice ma ml mc)
  have UI := uint_n (cn.nm RBF.out)
  rw [FLR.out] at UI
  have U := Lib.hid UI
  clear cn k11 FL UI hml
  go_wp2_with fail
  refine U.out.mono ?_
  rintro e W12 ⟨rfl, k12⟩
  have K12 := Lib.hid (Keep.trans K11.out k12)
  clear k12 U
  obtain ⟨d0, d1, d2, d3, d4, d5⟩ := KS.out W12 K12.out
  by_cases hM : M < 18446744073709551616
  · rw [show uintV M = M from if_pos hM, show uintB M = true from decide_eq_true hM]
    have SG := signed_f s M W12 hM
    rw [RES.out] at SG
    have SGH := Lib.hid SG
    clear SG
    go_wp2_with fail
    refine SGH.out.mono ?_
    rintro e W13 ⟨rfl, rfl⟩
    go_wp2
    refine bodyPost_ret (results_tmp2 rfl _ _ _) rfl ?_
    exact ⟨rfl, Keep.trans KW3.out K12.out⟩
  · rw [show uintB M = false from decide_eq_false hM]
    have E := RES.out
    unfold sgd at E
    rw [if_pos (by omega)] at E
    injection E with e1 e2
    subst e1; subst e2
    go_wp2
    refine bodyPost_ret (results_tmp2 rfl _ _ _) rfl ?_
    exact ⟨rfl, Keep.trans KW3.out K12.out⟩

end Go.Proofs.YtnalmjbgkedcoaaDoor.fx
