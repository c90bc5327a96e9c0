/- Walks of layer 1: divLong. -/
import Derived.Test.YtgoiechhhnhgaaaDoorE4
namespace Go.Proofs.YtgoiechhhnhgaaaDoor
open Go.RowKit
set_option linter.unusedVariables false
set_option maxHeartbeats 1600000 in
theorem divLong_c (a : Option Addr) (la ca : Nat) (x : List Nat) (a' : Option Addr) (m cb : Nat) (y : List Nat) (w : World) (h : Rd w a la ca x) (h' : Rd w a' (m + 2) cb y) (hb : la ≤ 1048576) (hle : m + 2 ≤ la)
    (h0 : y.getD (m + 1) 0 ≠ 0) :
    Calls Tryd.prog 52 #[.slice a la ca, .slice a' (m + 2) cb] w (DvPost (nv x / nv y) (nv x % nv y) w) := by
  obtain ⟨c, rfl⟩ : ∃ c, la = m + 1 + c := ⟨la - (m + 1), by omega⟩
  have H := Lib.hid h
  have H' := Lib.hid h'
  obtain ⟨f1, f2, f3, f4⟩ := shift_facts h'.lim h'.len_eq h0
  obtain ⟨t, ht⟩ : ∃ t, y.getD (m + 1) 0 = t := ⟨_, rfl⟩
  have htl : t < 4294967296 := by rw [← ht]; exact h'.lim.at _
  rw [ht] at f1 f2 f4 h0
  obtain ⟨s, hs⟩ : ∃ s, 32 - bl t = s := ⟨_, rfl⟩
  have LZ0 := lz32_c t w htl
  rw [show (32 : Int) - (bl t : Nat) = (s : Nat) from by omega] at LZ0
  have LZ := Lib.hid LZ0
  have hs32 : s ≤ 32 := by omega
  rw [hs] at f2 f4
  obtain ⟨V, hV⟩ : ∃ V, nv y * 2 ^ s = V := ⟨_, rfl⟩
  obtain ⟨A, hA⟩ : ∃ A, nv x * 2 ^ s = A := ⟨_, rfl⟩
  rw [hV] at f2 f4
  have HVN : Hid (shlN (nv y) s = V ∧ shE (s : Int) = 0 ∧ shlN (nv x) s = A) := Lib.hid (by
    have hn : ¬ ((s : Int) < 0 ∨ 1048576 < (s : Int)) := by omega
    exact ⟨by unfold shlN; rw [if_neg hn, Int.toNat_natCast]; exact hV, if_neg hn, by unfold shlN; rw [if_neg hn, Int.toNat_natCast]; exact hA⟩)
  have HV := Lib.hid hV
  have HA := Lib.hid hA
  have HF2 := Lib.hid f2
  have HF3 := Lib.hid f3
  have HF4 := Lib.hid f4
  have HLA : Hid ((dig A).length ≤ m + 1 + c + 1) := Lib.hid (dig_len_of (by
    rw [← hA, Nat.pow_succ]
    have h1 := nv_lt h.lim
    rw [h.len_eq] at h1
    have h2 : 2 ^ s ≤ BB := by rw [BB_eq, show (4294967296 : Nat) = 2 ^ 32 from by decide]; exact Nat.pow_le_pow_right (by decide) hs32
    exact Nat.lt_of_lt_of_le (Nat.mul_lt_mul_of_pos_right h1 (Nat.two_pow_pos s)) (Nat.mul_le_mul_left _ h2)))
  have hlc' := h'.le_cap
  have hcm' := h'.cap_le
  rcases h'.cells with hc | ⟨b', off', rfl, hc⟩
  · omega
  have t1 := hc (m + 1) (by omega)
  rw [ht] at t1
  have i1 : (m : Int) + 2 - 1 = (m : Int) + 1 := by omega
  have i3 : ((m : Int) + 1).toNat = m + 1 := by omega
  clear h h' ht hs LZ0 hV hA f1 f2 f3 f4 hc
  go_enter Tryd.func52, Tryd.ntmps52
  go_wp2_with fail
  refine LZ.out.mono ?_
  rintro e w' ⟨rfl, rfl⟩
  go_wp2_with fail
  refine (shl_c _ _ _ y _ _ H'.out (by omega)).mono ?_
  rw [HVN.out.1, HVN.out.2.1]
  unfold NEPost
  rw [HF4.out]
  rintro e w1 ⟨d, dc, rfl, hrd, hb1⟩
  have HRD := Lib.hid hrd
  have HX1 := Lib.hid (H.out.below hb1)
  clear hrd
  go_wp2_with (at_make; refine wpList_make_win _ rfl _ _ 25 rfl Tryd.underlying25 _ (m + 1 + c + 1) rfl rfl (by push_cast; rfl) (by omega) ?_)
  intro w2 hwin2 hb2 hs2
  have HX2 := Lib.hid (HX1.out.below hb2)
  go_wp2_with fail
  refine (shl_c _ _ _ x _ _ HX2.out hb).mono ?_
  rw [HVN.out.2.2, HVN.out.2.1]
  unfold NEPost
  obtain ⟨lA, hlA⟩ : ∃ lA, (dig A).length = lA := ⟨_, rfl⟩
  have hlA2 := HLA.out
  rw [hlA] at hlA2 ⊢
  rintro e w3 ⟨s1, sc, rfl, hrs, hb3⟩
  have HS3 := Lib.hid hrs
  have HW3 := Lib.hid (hwin2.out.below hb3 (by omega))
  have HLL := Lib.hid hlA
  clear hrs hlA
  go_wp2_with (refine wpList_copy_win (o := ⟨some 42, _, _, _, _, _⟩) rfl _ _ 25 25 rfl Tryd.underlying25 _ _ _ _ _ _ _ _ _ rfl rfl HW3.out HS3.out hlA2 ?_)
  intro w4 hwin4 ho4
  go_wp2_with (at_make; refine wpList_make_win _ rfl _ _ 25 rfl Tryd.underlying25 _ c rfl rfl (by omega) (by omega) ?_)
  intro w5 hwin5 hb5 hs5
  go_wp2_with fail
  have HD5 : Hid (Rd w5 d (m + 2) dc (dig V)) := Lib.hid ((((HRD.out.below hb2).below hb3).only ho4.out (HRD.out.far (Nat.le_refl _))).below hb5)
  have HDB : Hid (∀ bb oo, d = some ⟨bb, oo, none⟩ → bb < w1.heap.size) := Lib.hid (by
    intro bb oo e
    rcases HRD.out.cells with h1 | ⟨b2, o2, e2, h1⟩
    · omega
    · rw [e] at e2
      injection e2 with e2
      injection e2 with e3 e4
      subst e3
      exact World.block_lt_of_cell? w1 _ (h1 0 (by omega)))
  have hsz : w1.heap.size < w4.heap.size := by rw [ho4.out.size]; have := hb3.size; omega
  have HBW : Hid (Below w.heap.size w w5) := Lib.hid ((((hb1.trans (hb2.mono hb1.size)).trans (hb3.mono (by have := hb1.size; omega))).trans (ho4.out.below hb1.size)).trans (hb5.mono (by have := hb1.size; omega)))
  have HW5 := Lib.hid (hwin4.out.below hb5 (by omega))
  have HINV : Hid (LdInv A V (m + 2) (dig A ++ (zer (m + 1 + c + 1)).drop lA) (zer c) c) := Lib.hid (by
    refine LdInv.start (by rw [zer_drop, nv_pad, nv_dig]) (by rw [hwin4.out.len_eq]; omega) (zer_length c) ?_
    rw [← HA.out, ← HV.out]
    have h1 := nv_lt H.out.lim
    rw [H.out.len_eq] at h1
    have h2 := Nat.mul_lt_mul_of_pos_right h1 (Nat.two_pow_pos s)
    have h3 : BB ^ (m + 1) * 2 ^ s ≤ nv y * 2 ^ s := Nat.mul_le_mul_right _ HF3.out
    have h4 := Nat.mul_le_mul_left (BB ^ c) h3
    have e : BB ^ (m + 1 + c) * 2 ^ s = BB ^ c * (BB ^ (m + 1) * 2 ^ s) := by rw [Nat.pow_add, Nat.mul_comm (BB ^ (m + 1)), Nat.mul_assoc]
    omega)
  go_loopw [14] (fun i wr => ∃ (k : Nat) (L Q : List Nat), k ≤ c ∧ i = .int .i64 ((k : Int) - 1) ∧ Hid (LdInv A V (m + 2) L Q k) ∧ Hid (Win wr w1.heap.size 0 (m + 1 + c + 1) L) ∧ Hid (Win wr w4.heap.size 0 c Q) ∧ Hid (Below w.heap.size w wr) ∧ Hid (Rd wr d (m + 2) dc (dig V))) (fun i _ => (intOf i + 1).toNat)
  case atStart => exact ⟨c, _, _, by omega, rfl, HINV, HW5, hwin5, HBW, HD5⟩
  case round =>
    obtain ⟨k, L, Q, hk, rfl, hinv, hwl, hwq, hbw, hd⟩ := hrel
    by_cases hk0 : k = 0
    · subst hk0
      have hfin := hinv.out.done
      have hltV := hinv.out.lt
      rw [List.drop_zero] at hltV
      have WP := hwl.out.sub (k := 0) (m := m + 2) (by omega)
      rw [List.drop_zero, Nat.add_zero] at WP
      have hnt : nv (L.take (m + 2)) = nv L := nv_take_all (l := L) (Nat.lt_trans hltV HF2.out)
      have hyp : 0 < nv y := Nat.lt_of_lt_of_le (Nat.pow_pos BB_pos) HF3.out
      have hq : nv Q = nv x / nv y := by rw [hfin.1, ← HA.out, ← HV.out, Nat.mul_div_mul_right _ _ (Nat.two_pow_pos s)]
      have hr : nv L = nv x % nv y * 2 ^ s := by rw [hfin.2, ← HA.out, ← HV.out, Nat.mul_mod_mul_right]
      have SH := shr_c _ _ (m + 1 + c + 1) _ (s : Int) wr (WP.rd (cap := m + 1 + c + 1) (by omega) (by omega)) (by omega)
      have hsn : shrN (nv (L.take (m + 2))) (s : Int) = nv x % nv y := by
        unfold shrN
        rw [if_neg (by omega), Int.toNat_natCast, hnt, hr, Nat.mul_div_cancel _ (Nat.two_pow_pos s)]
      rw [hsn, HVN.out.2.1] at SH
      have HSH := Lib.hid SH
      have HQE := Lib.hid hq
      have hqlt : w4.heap.size < wr.heap.size := by
        have := World.block_lt_of_cell? wr _ (hwq.out.cell 0 (by omega))
        exact this
      clear hfin hltV WP hnt hyp hq hr SH hsn
      go_wp2_with fail
      refine HSH.out.mono ?_
      unfold NEPost
      obtain ⟨lr, hlr⟩ : ∃ lr, (dig (nv x % nv y)).length = lr := ⟨_, rfl⟩
      have HLR := Lib.hid hlr
      rw [hlr]
      rintro e w7 ⟨ra, rc, rfl, hrr, hb7⟩
      have HQ7 := Lib.hid (hwq.out.below hb7 hqlt)
      have HB7 := Lib.hid (hbw.out.trans (hb7.mono hbw.out.size))
      have HRR := Lib.hid hrr
      clear hrr hb7 hlr
      go_wp2_with fail
      refine (trim_c _ _ _ _ _ (HQ7.out.rd (Nat.le_refl _) (by omega))).mono ?_
      rintro e w8 ⟨rfl, rfl⟩
      go_wp2_with fail
      go_ret2
      refine ⟨some ⟨w4.heap.size, 0, none⟩, c, ra, rc, ?_, ?_, ?_, HB7.out⟩
      · rw [← HQE.out, HLR.out]; rfl
      · rw [← HQE.out]; exact (HQ7.out.rd (Nat.le_refl _) (by omega)).trimmed
      · rw [HLR.out]; exact HRR.out
    obtain ⟨j, rfl⟩ : ∃ j, k = j + 1 := ⟨k - 1, by omega⟩
    have ej : ((j + 1 : Nat) : Int) - 1 = j := by omega
    rw [ej]
    clear ej
    rcases hd.out.cells with h1 | ⟨db, dof, e, h1⟩
    · omega
    have hne : db ≠ w1.heap.size := by have := HDB.out db dof e; omega
    subst e
    have hV0 : V ≠ 0 := by intro e; have := HF4.out; rw [e, dig_zero] at this; simp at this
    have htop : 0 < (dig V).getD (m + 1) 0 := by
      have := dig_top hV0
      rw [HF4.out] at this
      have e : m + 2 - 1 = m + 1 := by omega
      rw [e] at this
      omega
    have WP := hwl.out.sub (k := j) (m := m + 3) (by omega)
    obtain ⟨hp1, hp2⟩ := hinv.out.part (Nat.le_of_lt HF2.out) hwl.out.lim (by rw [hwl.out.len_eq]; omega)
    have DS0 := divStep_c w1.heap.size (0 + j) m (m + 1 + c + 1 - j) _ db dof dc (dig V) wr WP (by omega) (by omega) hd.out hne htop (by rw [hp1, nv_dig]; exact hp2)
    rw [nv_dig] at DS0
    obtain ⟨P, hP⟩ : ∃ P, (L.drop j).take (m + 3) = P := ⟨_, rfl⟩
    rw [hP, Nat.zero_add] at DS0
    have HPE := Lib.hid hP
    obtain ⟨qd, hqd⟩ : ∃ qd, nv P / V = qd := ⟨_, rfl⟩
    have hqb : qd < BB := by
      rw [← hqd, Nat.div_lt_iff_lt_mul (by omega), ← hP, hp1, Nat.mul_comm]; exact hp2
    unfold DsPost at DS0
    rw [hqd] at DS0
    have HQD := Lib.hid hqd
    have DS := Lib.hid DS0
    have el : j + (m + 2) + 1 - j = m + 3 := by omega
    clear DS0 hP hqd WP hp1 hp2 h1 htop
    go_wp2_with fail
    rw [el]
    refine DS.out.mono ?_
    rintro e w6 ⟨M, rfl, hwm, hM, hom⟩
    have hom0 : Only w1.heap.size (0 + j) (0 + j + (m + 3)) wr w6 := by rw [Nat.zero_add]; exact hom
    have hwl2 := hwl.out.put (k := j) (m := m + 3) (by omega) hom0 (by rw [Nat.zero_add]; exact hwm)
    have hwq2 := hwq.out.only hom (by omega)
    have hst0 := hinv.out.step (M := M) (Nat.le_of_lt HF2.out) (by omega) hwl.out.lim hwm.lim (by rw [hwl.out.len_eq]; omega) (by rw [hwq.out.len_eq]; omega) hwm.len_eq (by rw [HPE.out]; exact hM)
    rw [HPE.out, HQD.out] at hst0
    have HST := Lib.hid hst0
    have c1 := hwq2.cell j (by omega)
    have f1 := hwq2.free j (by omega)
    have hwq3 := hwq2.set (i := j) (by omega) hqb
    have hos := (Only.refl w4.heap.size j (j + 1) w6).set (j := j) (by omega) (by omega) (.int .u32 ↑qd)
    rw [Nat.zero_add] at c1 f1 hwq3
    have HWL3 := Lib.hid (hwl2.only hos (by omega))
    have HWQ3 := Lib.hid hwq3
    have HBW3 := Lib.hid ((hbw.out.trans (hom.below hb1.size)).trans (hos.below (show w.heap.size ≤ w4.heap.size by have := hb1.size; omega)))
    have HD3 := Lib.hid ((hd.out.only hom (.inr (by rintro y e; injection e with e; subst e; exact hne))).only hos (.inr (by rintro y e; injection e with e; subst e; have := HDB.out _ _ rfl; simp; omega)))
    clear hom0 hwl2 hwq2 hst0 hwq3 hos hwm hM hom
    go_wp2
    go_roundw
    case rel => exact ⟨j, _, _, by omega, by go_num, HST, HWL3, HWQ3, HBW3, HD3⟩
    case measure => simp [intOf]
end Go.Proofs.YtgoiechhhnhgaaaDoor
