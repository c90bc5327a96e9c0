/- Groups at the beginning of any bytes. -/
import Derived.Test.YtcdkehghdhcokaaDoorX0
import Derived.Laws.BitsAllLaws
namespace Go.Proofs.YtcdkehghdhcokaaDoor.wr
open Go.RowKit
set_option linter.unusedVariables false

theorem and127 : ∀ k : Fin 256, bits .and .u8 ((k.val : Nat) : Int) 127 = ((k.val % 128 : Nat) : Int) := by decide +kernel
theorem and127n (m : Nat) (h : m < 256) : bits .and .u8 (m : Int) 127 = ((m % 128 : Nat) : Int) := and127 ⟨m, h⟩
theorem orN (acc q e : Nat) (he : e ≤ 63) (ha : acc < 2 ^ e) (hb : acc + q * 2 ^ e < 18446744073709551616) : bits .or .u64 (acc : Int) ((q * 2 ^ e : Nat) : Int) = ((acc + q * 2 ^ e : Nat) : Int) := by
  rw [u64_or_nat acc (q * 2 ^ e) (by omega) (by omega)]
  congr 1
  rw [Nat.or_comm, Nat.mul_comm q, ← Nat.two_pow_add_eq_or_of_lt ha q, Nat.add_comm]
theorem head_at {pre T : List Int} {q : Nat} {m : Nat} {k : Nat} {x : Int} {R : List Int} (hpre : pre ++ grp q = grp m) (hk : pre.length = k) (hg : grp q = x :: R) : (grp m ++ T).getD k 0 = x := by
  subst hk
  rw [← hpre, hg]
  simp [List.getD]

/-- a number and its size, 0 if there is none -/
def leadR : Option (Nat × List Int) → Nat → Nat × Nat
  | none, _ => (0, 0)
  | some (m, T), n => (m, n - T.length)
theorem or_zero (acc : Nat) (h : acc < 18446744073709551616) : bits .or .u64 (acc : Int) 0 = (acc : Int) := by
  have := u64_or_nat acc 0 (by omega) (by omega)
  rw [Nat.or_zero] at this
  exact this
theorem leadR_none9 {T : List Int} {n : Nat} {y : Nat} (acc : Nat) (h : 1 < y) : leadR (lead 9 acc ((y : Int) :: T)) n = (0, 0) := by
  unfold lead
  rw [if_pos ⟨rfl, by omega⟩]; rfl
theorem leadR_zero {T : List Int} {n : Nat} (i acc : Nat) (h : 0 < i) : leadR (lead i acc (((0 : Nat) : Int) :: T)) n = (0, 0) := by
  unfold lead
  rw [if_neg (by omega), if_pos (by omega), if_pos ⟨rfl, h⟩]; rfl
theorem leadR_some {T : List Int} {n : Nat} (i acc y : Nat) (h : y < 128) (h1 : ¬ (i = 9 ∧ 1 < y)) (h2 : ¬ (y = 0 ∧ 0 < i)) : leadR (lead i acc ((y : Int) :: T)) n = (acc + y * 128 ^ i, n - T.length) := by
  unfold lead
  rw [if_neg (by omega), if_pos (by omega), if_neg (by omega), Int.toNat_natCast]; rfl
theorem lead_go {T : List Int} (i acc y : Nat) (h : 128 ≤ y) (h1 : i ≠ 9) : lead i acc ((y : Int) :: T) = lead (i + 1) (acc + y % 128 * 128 ^ i) T := by
  rw [lead, if_neg (by omega), if_neg (by omega), Int.toNat_natCast]
theorem drop_cons {L : List Int} {k : Nat} (h : k < L.length) : L.drop k = L.getD k 0 :: L.drop (k + 1) := by
  rw [List.drop_eq_getElem_cons h]; simp [h]
theorem getD_mem {L : List Int} {k : Nat} (h : k < L.length) : L.getD k 0 ∈ L := by
  have e : L.getD k 0 = L[k] := by simp [h]
  rw [e]; exact List.getElem_mem _
set_option maxHeartbeats 8000000 in
set_option maxRecDepth 100000 in
/-- the groups at the beginning of any bytes -/
theorem leading_c (a : Option Addr) (n c : Nat) (L : List Int) (w : World) (h : SlB w a n c L) (hby : Bytes L) :
    Calls Tryd.prog 39 #[.slice a n c] w fun e w' => e = .returned (.tuple #[.int .u64 ((leadR (dec L) n).1 : Nat), .int .i64 ((leadR (dec L) n).2 : Nat)]) ∧ w' = w := by
  obtain ⟨r1, r2, hr⟩ : ∃ r1 r2, leadR (dec L) n = (r1, r2) := ⟨_, _, rfl⟩
  rw [hr]
  dsimp only
  have HL : Hid (L.length = n) := Lib.hid h.1
  have HS := Lib.hid h
  have HBY := Lib.hid hby
  have hnc : n ≤ c := h.2.1
  have hc63 := h.2.2.1
  clear h hby
  go_enter Tryd.func39, Tryd.ntmps39
  go_wp2
  go_loopw [4, 9] (fun s4 s9 wr => ∃ (k acc : Nat), k ≤ 9 ∧ k ≤ n ∧ s9 = .int .i64 (k : Nat) ∧ s4 = .int .u64 (acc : Nat) ∧ wr = w ∧ acc < 128 ^ k ∧ leadR (lead k acc (L.drop k)) n = (r1, r2)) (fun _ s _ => 10 - (intOf s).toNat)
  case atStart => exact ⟨0, 0, by omega, by omega, rfl, rfl, rfl, by simp, hr⟩
  case round =>
    obtain ⟨k, acc, hk9, hkn, rfl, rfl, rfl, ha, hR⟩ := hrel
    have HR := Lib.hid hR
    clear hR hr
    have hks : k = 0 ∨ k = 1 ∨ k = 2 ∨ k = 3 ∨ k = 4 ∨ k = 5 ∨ k = 6 ∨ k = 7 ∨ k = 8 ∨ k = 9 := by omega
    rcases hks with rfl | rfl | rfl | rfl | rfl | rfl | rfl | rfl | rfl | rfl
    · have hP : (128 : Nat) ^ 0 = 1 := by decide
      rw [hP] at ha
      by_cases hn : n = 0
      · have f := HR.out
        rw [List.drop_of_length_le (by rw [HL.out, hn]; exact Nat.le_refl _)] at f
        injection f with g1 g2
        have f1 := Lib.hid (show (r1 : Int) = 0 by omega)
        have f2 := Lib.hid (show (r2 : Int) = 0 by omega)
        have hge : ¬ ((0 : Int) < (n : Int)) := by omega
        clear g1 g2 hP
        go_wp2
        refine bodyPost_ret (results_tmp2 rfl _ _ _) rfl ?_; refine ⟨?_, rfl⟩; rw [f1.out, f2.out]; rfl
      · have hlt : (0 : Int) < (n : Int) := by omega
        obtain ⟨b, off, ea, hb, hcs⟩ := HS.out.at (by omega)
        subst ea
        have k0 := hcs 0 (by omega)
        have ed := Lib.hid (drop_cons (L := L) (k := 0) (by rw [HL.out]; omega))
        have hyy := HBY.out (L.getD 0 0) (getD_mem (by rw [HL.out]; omega))
        obtain ⟨y, hy⟩ : ∃ y : Nat, L.getD 0 0 = y := ⟨(L.getD 0 0).toNat, by omega⟩
        rw [hy] at k0 ed hyy
        have hy256 : y < 256 := by omega
        rw [Nat.add_zero] at k0
        have LD := Lib.hid (show n - (L.drop (0 + 1)).length = 1 by rw [List.length_drop, HL.out]; omega)
        clear hcs hyy hy
        by_cases h2 : y < 128
        · by_cases h0 : y = 0
          · skip
            subst h0
            obtain rfl : acc = 0 := by omega
            have hr2 := HR.out
            rw [ed.out, show ((0 : Nat) : Int) = ((0 : Nat) : Int) from rfl, leadR_some 0 0 0 (by omega) (by omega) (by omega)] at hr2
            injection hr2 with g1 g2
            have f1 := Lib.hid (show (r1 : Int) = 0 by omega)
            have f2 := Lib.hid (show (r2 : Int) = 1 by have := LD.out; omega)
            have q0 : bits .and .u8 0 127 = 0 := by decide
            have o1 : bits .or .u64 0 0 = 0 := by decide
            have k1 : wr.cell? ⟨b, off, none⟩ = some (.int .u8 0) := k0
            clear hP k0 g1 g2
            go_wp2
            all_goals (refine bodyPost_ret (results_tmp2 rfl _ _ _) rfl ?_; refine ⟨?_, rfl⟩; rw [f1.out, f2.out]; first | rfl | (simp; done))
          · have h2i : (y : Int) < 128 := by omega
            have h0i : ¬ ((y : Int) = 0) := by omega
            have hr2 := HR.out
            rw [ed.out, leadR_some 0 acc y h2 (by omega) (by omega)] at hr2
            injection hr2 with g1 g2
            rw [hP] at g1
            have a1 := and127n y (by omega)
            rw [Nat.mod_eq_of_lt h2] at a1
            have hb1 : acc + y * 1 ≤ 18446744073709551615 := by omega
            have o1 := orN acc y 0 (by decide) (by rw [show (2 : Nat) ^ 0 = 1 by decide]; exact ha) (by rw [show (2 : Nat) ^ 0 = 1 by decide]; omega)
            rw [show (2 : Nat) ^ 0 = 1 by decide, Int.natCast_mul, Int.natCast_add, Int.natCast_mul] at o1
            replace o1 : bits .or .u64 (acc : Int) (y : Int) = (acc : Int) + (y : Int) := by simpa using o1
            have hwr : (y : Int) * 1 ≤ 18446744073709551615 := by omega
            have f1 := Lib.hid (show (r1 : Int) = (acc : Int) + (y : Int) * 1 by omega)
            have f2 := Lib.hid (show (r2 : Int) = 1 by have := LD.out; omega)
            clear hP g1 g2 hb1
            go_wp2
            all_goals (refine bodyPost_ret (results_tmp2 rfl _ _ _) rfl ?_; refine ⟨?_, rfl⟩; rw [f1.out, f2.out]; first | rfl | (simp; done))
        · have hr2 := HR.out
          rw [ed.out, lead_go 0 acc y (by omega) (by omega), hP] at hr2
          obtain ⟨z, hz⟩ : ∃ z, y % 128 = z := ⟨_, rfl⟩
          have hz2 : z < 128 := by omega
          rw [hz] at hr2
          have HR2 := Lib.hid hr2
          obtain rfl : y = z + 128 := by omega
          have a1 := and127n (z + 128) (by omega)
          rw [hz] at a1
          have hb1 : acc + z * 1 ≤ 18446744073709551615 := by omega
          have o1 := orN acc z 0 (by decide) (by rw [show (2 : Nat) ^ 0 = 1 by decide]; exact ha) (by rw [show (2 : Nat) ^ 0 = 1 by decide]; omega)
          rw [show (2 : Nat) ^ 0 = 1 by decide, Int.natCast_mul, Int.natCast_add, Int.natCast_mul] at o1
          replace o1 : bits .or .u64 (acc : Int) (z : Int) = (acc : Int) + (z : Int) := by simpa using o1
          have hwr : (z : Int) * 1 ≤ 18446744073709551615 := by omega
          rw [show ((z + 128 : Nat) : Int) = (z : Int) + 128 by omega] at k0 a1
          clear hP hr2 hz
          go_wp2
          go_roundw
          case rel => exact ⟨1, acc + z * 1, by omega, by omega, by go_num, by go_num, (by first | rfl | trivial), by rw [show (128 : Nat) ^ 1 = 128 by decide]; omega, HR2.out⟩
          case measure => first | (simp [intOf]; done) | (simp [intOf]; omega)
    · have hP : (128 : Nat) ^ 1 = 128 := by decide
      rw [hP] at ha
      by_cases hn : n = 1
      · have f := HR.out
        rw [List.drop_of_length_le (by rw [HL.out, hn]; exact Nat.le_refl _)] at f
        injection f with g1 g2
        have f1 := Lib.hid (show (r1 : Int) = 0 by omega)
        have f2 := Lib.hid (show (r2 : Int) = 0 by omega)
        have hge : ¬ ((1 : Int) < (n : Int)) := by omega
        clear g1 g2 hP
        go_wp2
        refine bodyPost_ret (results_tmp2 rfl _ _ _) rfl ?_; refine ⟨?_, rfl⟩; rw [f1.out, f2.out]; rfl
      · have hlt : (1 : Int) < (n : Int) := by omega
        obtain ⟨b, off, ea, hb, hcs⟩ := HS.out.at (by omega)
        subst ea
        have k0 := hcs 1 (by omega)
        have ed := Lib.hid (drop_cons (L := L) (k := 1) (by rw [HL.out]; omega))
        have hyy := HBY.out (L.getD 1 0) (getD_mem (by rw [HL.out]; omega))
        obtain ⟨y, hy⟩ : ∃ y : Nat, L.getD 1 0 = y := ⟨(L.getD 1 0).toNat, by omega⟩
        rw [hy] at k0 ed hyy
        have hy256 : y < 256 := by omega
        have LD := Lib.hid (show n - (L.drop (1 + 1)).length = 2 by rw [List.length_drop, HL.out]; omega)
        clear hcs hyy hy
        by_cases h2 : y < 128
        · by_cases h0 : y = 0
          · skip
            subst h0
            have hr2 := HR.out
            rw [ed.out, leadR_zero 1 acc (by omega)] at hr2
            injection hr2 with g1 g2
            have f1 := Lib.hid (show (r1 : Int) = 0 by omega)
            have f2 := Lib.hid (show (r2 : Int) = 0 by omega)
            have q0 : bits .and .u8 0 127 = 0 := by decide
            have o1 : bits .or .u64 (acc : Int) 0 = (acc : Int) := or_zero acc (by omega)
            have k1 : wr.cell? ⟨b, off + 1, none⟩ = some (.int .u8 0) := k0
            clear hP k0 g1 g2
            go_wp2
            all_goals (refine bodyPost_ret (results_tmp2 rfl _ _ _) rfl ?_; refine ⟨?_, rfl⟩; rw [f1.out, f2.out]; first | rfl | (simp; done))
          · have h2i : (y : Int) < 128 := by omega
            have h0i : ¬ ((y : Int) = 0) := by omega
            have hr2 := HR.out
            rw [ed.out, leadR_some 1 acc y h2 (by omega) (by omega)] at hr2
            injection hr2 with g1 g2
            rw [hP] at g1
            have a1 := and127n y (by omega)
            rw [Nat.mod_eq_of_lt h2] at a1
            have hb1 : acc + y * 128 ≤ 18446744073709551615 := by omega
            have o1 := orN acc y 7 (by decide) (by rw [show (2 : Nat) ^ 7 = 128 by decide]; exact ha) (by rw [show (2 : Nat) ^ 7 = 128 by decide]; omega)
            rw [show (2 : Nat) ^ 7 = 128 by decide, Int.natCast_mul, Int.natCast_add, Int.natCast_mul] at o1
            replace o1 : bits .or .u64 (acc : Int) ((y : Int) * 128) = (acc : Int) + (y : Int) * 128 := o1
            have hwr : (y : Int) * 128 ≤ 18446744073709551615 := by omega
            have f1 := Lib.hid (show (r1 : Int) = (acc : Int) + (y : Int) * 128 by omega)
            have f2 := Lib.hid (show (r2 : Int) = 2 by have := LD.out; omega)
            clear hP g1 g2 hb1
            go_wp2
            all_goals (refine bodyPost_ret (results_tmp2 rfl _ _ _) rfl ?_; refine ⟨?_, rfl⟩; rw [f1.out, f2.out]; first | rfl | (simp; done))
        · have hr2 := HR.out
          rw [ed.out, lead_go 1 acc y (by omega) (by omega), hP] at hr2
          obtain ⟨z, hz⟩ : ∃ z, y % 128 = z := ⟨_, rfl⟩
          have hz2 : z < 128 := by omega
          rw [hz] at hr2
          have HR2 := Lib.hid hr2
          obtain rfl : y = z + 128 := by omega
          have a1 := and127n (z + 128) (by omega)
          rw [hz] at a1
          have hb1 : acc + z * 128 ≤ 18446744073709551615 := by omega
          have o1 := orN acc z 7 (by decide) (by rw [show (2 : Nat) ^ 7 = 128 by decide]; exact ha) (by rw [show (2 : Nat) ^ 7 = 128 by decide]; omega)
          rw [show (2 : Nat) ^ 7 = 128 by decide, Int.natCast_mul, Int.natCast_add, Int.natCast_mul] at o1
          replace o1 : bits .or .u64 (acc : Int) ((z : Int) * 128) = (acc : Int) + (z : Int) * 128 := o1
          have hwr : (z : Int) * 128 ≤ 18446744073709551615 := by omega
          rw [show ((z + 128 : Nat) : Int) = (z : Int) + 128 by omega] at k0 a1
          clear hP hr2 hz
          go_wp2
          go_roundw
          case rel => exact ⟨2, acc + z * 128, by omega, by omega, by go_num, by go_num, (by first | rfl | trivial), by rw [show (128 : Nat) ^ 2 = 16384 by decide]; omega, HR2.out⟩
          case measure => first | (simp [intOf]; done) | (simp [intOf]; omega)
    · have hP : (128 : Nat) ^ 2 = 16384 := by decide
      rw [hP] at ha
      by_cases hn : n = 2
      · have f := HR.out
        rw [List.drop_of_length_le (by rw [HL.out, hn]; exact Nat.le_refl _)] at f
        injection f with g1 g2
        have f1 := Lib.hid (show (r1 : Int) = 0 by omega)
        have f2 := Lib.hid (show (r2 : Int) = 0 by omega)
        have hge : ¬ ((2 : Int) < (n : Int)) := by omega
        clear g1 g2 hP
        go_wp2
        refine bodyPost_ret (results_tmp2 rfl _ _ _) rfl ?_; refine ⟨?_, rfl⟩; rw [f1.out, f2.out]; rfl
      · have hlt : (2 : Int) < (n : Int) := by omega
        obtain ⟨b, off, ea, hb, hcs⟩ := HS.out.at (by omega)
        subst ea
        have k0 := hcs 2 (by omega)
        have ed := Lib.hid (drop_cons (L := L) (k := 2) (by rw [HL.out]; omega))
        have hyy := HBY.out (L.getD 2 0) (getD_mem (by rw [HL.out]; omega))
        obtain ⟨y, hy⟩ : ∃ y : Nat, L.getD 2 0 = y := ⟨(L.getD 2 0).toNat, by omega⟩
        rw [hy] at k0 ed hyy
        have hy256 : y < 256 := by omega
        have LD := Lib.hid (show n - (L.drop (2 + 1)).length = 3 by rw [List.length_drop, HL.out]; omega)
        clear hcs hyy hy
        by_cases h2 : y < 128
        · by_cases h0 : y = 0
          · skip
            subst h0
            have hr2 := HR.out
            rw [ed.out, leadR_zero 2 acc (by omega)] at hr2
            injection hr2 with g1 g2
            have f1 := Lib.hid (show (r1 : Int) = 0 by omega)
            have f2 := Lib.hid (show (r2 : Int) = 0 by omega)
            have q0 : bits .and .u8 0 127 = 0 := by decide
            have o1 : bits .or .u64 (acc : Int) 0 = (acc : Int) := or_zero acc (by omega)
            have k1 : wr.cell? ⟨b, off + 2, none⟩ = some (.int .u8 0) := k0
            clear hP k0 g1 g2
            go_wp2
            all_goals (refine bodyPost_ret (results_tmp2 rfl _ _ _) rfl ?_; refine ⟨?_, rfl⟩; rw [f1.out, f2.out]; first | rfl | (simp; done))
          · have h2i : (y : Int) < 128 := by omega
            have h0i : ¬ ((y : Int) = 0) := by omega
            have hr2 := HR.out
            rw [ed.out, leadR_some 2 acc y h2 (by omega) (by omega)] at hr2
            injection hr2 with g1 g2
            rw [hP] at g1
            have a1 := and127n y (by omega)
            rw [Nat.mod_eq_of_lt h2] at a1
            have hb1 : acc + y * 16384 ≤ 18446744073709551615 := by omega
            have o1 := orN acc y 14 (by decide) (by rw [show (2 : Nat) ^ 14 = 16384 by decide]; exact ha) (by rw [show (2 : Nat) ^ 14 = 16384 by decide]; omega)
            rw [show (2 : Nat) ^ 14 = 16384 by decide, Int.natCast_mul, Int.natCast_add, Int.natCast_mul] at o1
            replace o1 : bits .or .u64 (acc : Int) ((y : Int) * 16384) = (acc : Int) + (y : Int) * 16384 := o1
            have hwr : (y : Int) * 16384 ≤ 18446744073709551615 := by omega
            have f1 := Lib.hid (show (r1 : Int) = (acc : Int) + (y : Int) * 16384 by omega)
            have f2 := Lib.hid (show (r2 : Int) = 3 by have := LD.out; omega)
            clear hP g1 g2 hb1
            go_wp2
            all_goals (refine bodyPost_ret (results_tmp2 rfl _ _ _) rfl ?_; refine ⟨?_, rfl⟩; rw [f1.out, f2.out]; first | rfl | (simp; done))
        · have hr2 := HR.out
          rw [ed.out, lead_go 2 acc y (by omega) (by omega), hP] at hr2
          obtain ⟨z, hz⟩ : ∃ z, y % 128 = z := ⟨_, rfl⟩
          have hz2 : z < 128 := by omega
          rw [hz] at hr2
          have HR2 := Lib.hid hr2
          obtain rfl : y = z + 128 := by omega
          have a1 := and127n (z + 128) (by omega)
          rw [hz] at a1
          have hb1 : acc + z * 16384 ≤ 18446744073709551615 := by omega
          have o1 := orN acc z 14 (by decide) (by rw [show (2 : Nat) ^ 14 = 16384 by decide]; exact ha) (by rw [show (2 : Nat) ^ 14 = 16384 by decide]; omega)
          rw [show (2 : Nat) ^ 14 = 16384 by decide, Int.natCast_mul, Int.natCast_add, Int.natCast_mul] at o1
          replace o1 : bits .or .u64 (acc : Int) ((z : Int) * 16384) = (acc : Int) + (z : Int) * 16384 := o1
          have hwr : (z : Int) * 16384 ≤ 18446744073709551615 := by omega
          rw [show ((z + 128 : Nat) : Int) = (z : Int) + 128 by omega] at k0 a1
          clear hP hr2 hz
          go_wp2
          go_roundw
          case rel => exact ⟨3, acc + z * 16384, by omega, by omega, by go_num, by go_num, (by first | rfl | trivial), by rw [show (128 : Nat) ^ 3 = 2097152 by decide]; omega, HR2.out⟩
          case measure => first | (simp [intOf]; done) | (simp [intOf]; omega)
    · have hP : (128 : Nat) ^ 3 = 2097152 := by decide
      rw [hP] at ha
      by_cases hn : n = 3
      · have f := HR.out
        rw [List.drop_of_length_le (by rw [HL.out, hn]; exact Nat.le_refl _)] at f
        injection f with g1 g2
        have f1 := Lib.hid (show (r1 : Int) = 0 by omega)
        have f2 := Lib.hid (show (r2 : Int) = 0 by omega)
        have hge : ¬ ((3 : Int) < (n : Int)) := by omega
        clear g1 g2 hP
        go_wp2
        refine bodyPost_ret (results_tmp2 rfl _ _ _) rfl ?_; refine ⟨?_, rfl⟩; rw [f1.out, f2.out]; rfl
      · have hlt : (3 : Int) < (n : Int) := by omega
        obtain ⟨b, off, ea, hb, hcs⟩ := HS.out.at (by omega)
        subst ea
        have k0 := hcs 3 (by omega)
        have ed := Lib.hid (drop_cons (L := L) (k := 3) (by rw [HL.out]; omega))
        have hyy := HBY.out (L.getD 3 0) (getD_mem (by rw [HL.out]; omega))
        obtain ⟨y, hy⟩ : ∃ y : Nat, L.getD 3 0 = y := ⟨(L.getD 3 0).toNat, by omega⟩
        rw [hy] at k0 ed hyy
        have hy256 : y < 256 := by omega
        have LD := Lib.hid (show n - (L.drop (3 + 1)).length = 4 by rw [List.length_drop, HL.out]; omega)
        clear hcs hyy hy
        by_cases h2 : y < 128
        · by_cases h0 : y = 0
          · skip
            subst h0
            have hr2 := HR.out
            rw [ed.out, leadR_zero 3 acc (by omega)] at hr2
            injection hr2 with g1 g2
            have f1 := Lib.hid (show (r1 : Int) = 0 by omega)
            have f2 := Lib.hid (show (r2 : Int) = 0 by omega)
            have q0 : bits .and .u8 0 127 = 0 := by decide
            have o1 : bits .or .u64 (acc : Int) 0 = (acc : Int) := or_zero acc (by omega)
            have k1 : wr.cell? ⟨b, off + 3, none⟩ = some (.int .u8 0) := k0
            clear hP k0 g1 g2
            go_wp2
            all_goals (refine bodyPost_ret (results_tmp2 rfl _ _ _) rfl ?_; refine ⟨?_, rfl⟩; rw [f1.out, f2.out]; first | rfl | (simp; done))
          · have h2i : (y : Int) < 128 := by omega
            have h0i : ¬ ((y : Int) = 0) := by omega
            have hr2 := HR.out
            rw [ed.out, leadR_some 3 acc y h2 (by omega) (by omega)] at hr2
            injection hr2 with g1 g2
            rw [hP] at g1
            have a1 := and127n y (by omega)
            rw [Nat.mod_eq_of_lt h2] at a1
            have hb1 : acc + y * 2097152 ≤ 18446744073709551615 := by omega
            have o1 := orN acc y 21 (by decide) (by rw [show (2 : Nat) ^ 21 = 2097152 by decide]; exact ha) (by rw [show (2 : Nat) ^ 21 = 2097152 by decide]; omega)
            rw [show (2 : Nat) ^ 21 = 2097152 by decide, Int.natCast_mul, Int.natCast_add, Int.natCast_mul] at o1
            replace o1 : bits .or .u64 (acc : Int) ((y : Int) * 2097152) = (acc : Int) + (y : Int) * 2097152 := o1
            have hwr : (y : Int) * 2097152 ≤ 18446744073709551615 := by omega
            have f1 := Lib.hid (show (r1 : Int) = (acc : Int) + (y : Int) * 2097152 by omega)
            have f2 := Lib.hid (show (r2 : Int) = 4 by have := LD.out; omega)
            clear hP g1 g2 hb1
            go_wp2
            all_goals (refine bodyPost_ret (results_tmp2 rfl _ _ _) rfl ?_; refine ⟨?_, rfl⟩; rw [f1.out, f2.out]; first | rfl | (simp; done))
        · have hr2 := HR.out
          rw [ed.out, lead_go 3 acc y (by omega) (by omega), hP] at hr2
          obtain ⟨z, hz⟩ : ∃ z, y % 128 = z := ⟨_, rfl⟩
          have hz2 : z < 128 := by omega
          rw [hz] at hr2
          have HR2 := Lib.hid hr2
          obtain rfl : y = z + 128 := by omega
          have a1 := and127n (z + 128) (by omega)
          rw [hz] at a1
          have hb1 : acc + z * 2097152 ≤ 18446744073709551615 := by omega
          have o1 := orN acc z 21 (by decide) (by rw [show (2 : Nat) ^ 21 = 2097152 by decide]; exact ha) (by rw [show (2 : Nat) ^ 21 = 2097152 by decide]; omega)
          rw [show (2 : Nat) ^ 21 = 2097152 by decide, Int.natCast_mul, Int.natCast_add, Int.natCast_mul] at o1
          replace o1 : bits .or .u64 (acc : Int) ((z : Int) * 2097152) = (acc : Int) + (z : Int) * 2097152 := o1
          have hwr : (z : Int) * 2097152 ≤ 18446744073709551615 := by omega
          rw [show ((z + 128 : Nat) : Int) = (z : Int) + 128 by omega] at k0 a1
          clear hP hr2 hz
          go_wp2
          go_roundw
          case rel => exact ⟨4, acc + z * 2097152, by omega, by omega, by go_num, by go_num, (by first | rfl | trivial), by rw [show (128 : Nat) ^ 4 = 268435456 by decide]; omega, HR2.out⟩
          case measure => first | (simp [intOf]; done) | (simp [intOf]; omega)
    · have hP : (128 : Nat) ^ 4 = 268435456 := by decide
      rw [hP] at ha
      by_cases hn : n = 4
      · have f := HR.out
        rw [List.drop_of_length_le (by rw [HL.out, hn]; exact Nat.le_refl _)] at f
        injection f with g1 g2
        have f1 := Lib.hid (show (r1 : Int) = 0 by omega)
        have f2 := Lib.hid (show (r2 : Int) = 0 by omega)
        have hge : ¬ ((4 : Int) < (n : Int)) := by omega
        clear g1 g2 hP
        go_wp2
        refine bodyPost_ret (results_tmp2 rfl _ _ _) rfl ?_; refine ⟨?_, rfl⟩; rw [f1.out, f2.out]; rfl
      · have hlt : (4 : Int) < (n : Int) := by omega
        obtain ⟨b, off, ea, hb, hcs⟩ := HS.out.at (by omega)
        subst ea
        have k0 := hcs 4 (by omega)
        have ed := Lib.hid (drop_cons (L := L) (k := 4) (by rw [HL.out]; omega))
        have hyy := HBY.out (L.getD 4 0) (getD_mem (by rw [HL.out]; omega))
        obtain ⟨y, hy⟩ : ∃ y : Nat, L.getD 4 0 = y := ⟨(L.getD 4 0).toNat, by omega⟩
        rw [hy] at k0 ed hyy
        have hy256 : y < 256 := by omega
        have LD := Lib.hid (show n - (L.drop (4 + 1)).length = 5 by rw [List.length_drop, HL.out]; omega)
        clear hcs hyy hy
        by_cases h2 : y < 128
        · by_cases h0 : y = 0
          · skip
            subst h0
            have hr2 := HR.out
            rw [ed.out, leadR_zero 4 acc (by omega)] at hr2
            injection hr2 with g1 g2
            have f1 := Lib.hid (show (r1 : Int) = 0 by omega)
            have f2 := Lib.hid (show (r2 : Int) = 0 by omega)
            have q0 : bits .and .u8 0 127 = 0 := by decide
            have o1 : bits .or .u64 (acc : Int) 0 = (acc : Int) := or_zero acc (by omega)
            have k1 : wr.cell? ⟨b, off + 4, none⟩ = some (.int .u8 0) := k0
            clear hP k0 g1 g2
            go_wp2
            all_goals (refine bodyPost_ret (results_tmp2 rfl _ _ _) rfl ?_; refine ⟨?_, rfl⟩; rw [f1.out, f2.out]; first | rfl | (simp; done))
          · have h2i : (y : Int) < 128 := by omega
            have h0i : ¬ ((y : Int) = 0) := by omega
            have hr2 := HR.out
            rw [ed.out, leadR_some 4 acc y h2 (by omega) (by omega)] at hr2
            injection hr2 with g1 g2
            rw [hP] at g1
            have a1 := and127n y (by omega)
            rw [Nat.mod_eq_of_lt h2] at a1
            have hb1 : acc + y * 268435456 ≤ 18446744073709551615 := by omega
            have o1 := orN acc y 28 (by decide) (by rw [show (2 : Nat) ^ 28 = 268435456 by decide]; exact ha) (by rw [show (2 : Nat) ^ 28 = 268435456 by decide]; omega)
            rw [show (2 : Nat) ^ 28 = 268435456 by decide, Int.natCast_mul, Int.natCast_add, Int.natCast_mul] at o1
            replace o1 : bits .or .u64 (acc : Int) ((y : Int) * 268435456) = (acc : Int) + (y : Int) * 268435456 := o1
            have hwr : (y : Int) * 268435456 ≤ 18446744073709551615 := by omega
            have f1 := Lib.hid (show (r1 : Int) = (acc : Int) + (y : Int) * 268435456 by omega)
            have f2 := Lib.hid (show (r2 : Int) = 5 by have := LD.out; omega)
            clear hP g1 g2 hb1
            go_wp2
            all_goals (refine bodyPost_ret (results_tmp2 rfl _ _ _) rfl ?_; refine ⟨?_, rfl⟩; rw [f1.out, f2.out]; first | rfl | (simp; done))
        · have hr2 := HR.out
          rw [ed.out, lead_go 4 acc y (by omega) (by omega), hP] at hr2
          obtain ⟨z, hz⟩ : ∃ z, y % 128 = z := ⟨_, rfl⟩
          have hz2 : z < 128 := by omega
          rw [hz] at hr2
          have HR2 := Lib.hid hr2
          obtain rfl : y = z + 128 := by omega
          have a1 := and127n (z + 128) (by omega)
          rw [hz] at a1
          have hb1 : acc + z * 268435456 ≤ 18446744073709551615 := by omega
          have o1 := orN acc z 28 (by decide) (by rw [show (2 : Nat) ^ 28 = 268435456 by decide]; exact ha) (by rw [show (2 : Nat) ^ 28 = 268435456 by decide]; omega)
          rw [show (2 : Nat) ^ 28 = 268435456 by decide, Int.natCast_mul, Int.natCast_add, Int.natCast_mul] at o1
          replace o1 : bits .or .u64 (acc : Int) ((z : Int) * 268435456) = (acc : Int) + (z : Int) * 268435456 := o1
          have hwr : (z : Int) * 268435456 ≤ 18446744073709551615 := by omega
          rw [show ((z + 128 : Nat) : Int) = (z : Int) + 128 by omega] at k0 a1
          clear hP hr2 hz
          go_wp2
          go_roundw
          case rel => exact ⟨5, acc + z * 268435456, by omega, by omega, by go_num, by go_num, (by first | rfl | trivial), by rw [show (128 : Nat) ^ 5 = 34359738368 by decide]; omega, HR2.out⟩
          case measure => first | (simp [intOf]; done) | (simp [intOf]; omega)
    · have hP : (128 : Nat) ^ 5 = 34359738368 := by decide
      rw [hP] at ha
      by_cases hn : n = 5
      · have f := HR.out
        rw [List.drop_of_length_le (by rw [HL.out, hn]; exact Nat.le_refl _)] at f
        injection f with g1 g2
        have f1 := Lib.hid (show (r1 : Int) = 0 by omega)
        have f2 := Lib.hid (show (r2 : Int) = 0 by omega)
        have hge : ¬ ((5 : Int) < (n : Int)) := by omega
        clear g1 g2 hP
        go_wp2
        refine bodyPost_ret (results_tmp2 rfl _ _ _) rfl ?_; refine ⟨?_, rfl⟩; rw [f1.out, f2.out]; rfl
      · have hlt : (5 : Int) < (n : Int) := by omega
        obtain ⟨b, off, ea, hb, hcs⟩ := HS.out.at (by omega)
        subst ea
        have k0 := hcs 5 (by omega)
        have ed := Lib.hid (drop_cons (L := L) (k := 5) (by rw [HL.out]; omega))
        have hyy := HBY.out (L.getD 5 0) (getD_mem (by rw [HL.out]; omega))
        obtain ⟨y, hy⟩ : ∃ y : Nat, L.getD 5 0 = y := ⟨(L.getD 5 0).toNat, by omega⟩
        rw [hy] at k0 ed hyy
        have hy256 : y < 256 := by omega
        have LD := Lib.hid (show n - (L.drop (5 + 1)).length = 6 by rw [List.length_drop, HL.out]; omega)
        clear hcs hyy hy
        by_cases h2 : y < 128
        · by_cases h0 : y = 0
          · skip
            subst h0
            have hr2 := HR.out
            rw [ed.out, leadR_zero 5 acc (by omega)] at hr2
            injection hr2 with g1 g2
            have f1 := Lib.hid (show (r1 : Int) = 0 by omega)
            have f2 := Lib.hid (show (r2 : Int) = 0 by omega)
            have q0 : bits .and .u8 0 127 = 0 := by decide
            have o1 : bits .or .u64 (acc : Int) 0 = (acc : Int) := or_zero acc (by omega)
            have k1 : wr.cell? ⟨b, off + 5, none⟩ = some (.int .u8 0) := k0
            clear hP k0 g1 g2
            go_wp2
            all_goals (refine bodyPost_ret (results_tmp2 rfl _ _ _) rfl ?_; refine ⟨?_, rfl⟩; rw [f1.out, f2.out]; first | rfl | (simp; done))
          · have h2i : (y : Int) < 128 := by omega
            have h0i : ¬ ((y : Int) = 0) := by omega
            have hr2 := HR.out
            rw [ed.out, leadR_some 5 acc y h2 (by omega) (by omega)] at hr2
            injection hr2 with g1 g2
            rw [hP] at g1
            have a1 := and127n y (by omega)
            rw [Nat.mod_eq_of_lt h2] at a1
            have hb1 : acc + y * 34359738368 ≤ 18446744073709551615 := by omega
            have o1 := orN acc y 35 (by decide) (by rw [show (2 : Nat) ^ 35 = 34359738368 by decide]; exact ha) (by rw [show (2 : Nat) ^ 35 = 34359738368 by decide]; omega)
            rw [show (2 : Nat) ^ 35 = 34359738368 by decide, Int.natCast_mul, Int.natCast_add, Int.natCast_mul] at o1
            replace o1 : bits .or .u64 (acc : Int) ((y : Int) * 34359738368) = (acc : Int) + (y : Int) * 34359738368 := o1
            have hwr : (y : Int) * 34359738368 ≤ 18446744073709551615 := by omega
            have f1 := Lib.hid (show (r1 : Int) = (acc : Int) + (y : Int) * 34359738368 by omega)
            have f2 := Lib.hid (show (r2 : Int) = 6 by have := LD.out; omega)
            clear hP g1 g2 hb1
            go_wp2
            all_goals (refine bodyPost_ret (results_tmp2 rfl _ _ _) rfl ?_; refine ⟨?_, rfl⟩; rw [f1.out, f2.out]; first | rfl | (simp; done))
        · have hr2 := HR.out
          rw [ed.out, lead_go 5 acc y (by omega) (by omega), hP] at hr2
          obtain ⟨z, hz⟩ : ∃ z, y % 128 = z := ⟨_, rfl⟩
          have hz2 : z < 128 := by omega
          rw [hz] at hr2
          have HR2 := Lib.hid hr2
          obtain rfl : y = z + 128 := by omega
          have a1 := and127n (z + 128) (by omega)
          rw [hz] at a1
          have hb1 : acc + z * 34359738368 ≤ 18446744073709551615 := by omega
          have o1 := orN acc z 35 (by decide) (by rw [show (2 : Nat) ^ 35 = 34359738368 by decide]; exact ha) (by rw [show (2 : Nat) ^ 35 = 34359738368 by decide]; omega)
          rw [show (2 : Nat) ^ 35 = 34359738368 by decide, Int.natCast_mul, Int.natCast_add, Int.natCast_mul] at o1
          replace o1 : bits .or .u64 (acc : Int) ((z : Int) * 34359738368) = (acc : Int) + (z : Int) * 34359738368 := o1
          have hwr : (z : Int) * 34359738368 ≤ 18446744073709551615 := by omega
          rw [show ((z + 128 : Nat) : Int) = (z : Int) + 128 by omega] at k0 a1
          clear hP hr2 hz
          go_wp2
          go_roundw
          case rel => exact ⟨6, acc + z * 34359738368, by omega, by omega, by go_num, by go_num, (by first | rfl | trivial), by rw [show (128 : Nat) ^ 6 = 4398046511104 by decide]; omega, HR2.out⟩
          case measure => first | (simp [intOf]; done) | (simp [intOf]; omega)
    · have hP : (128 : Nat) ^ 6 = 4398046511104 := by decide
      rw [hP] at ha
      by_cases hn : n = 6
      · have f := HR.out
        rw [List.drop_of_length_le (by rw [HL.out, hn]; exact Nat.le_refl _)] at f
        injection f with g1 g2
        have f1 := Lib.hid (show (r1 : Int) = 0 by omega)
        have f2 := Lib.hid (show (r2 : Int) = 0 by omega)
        have hge : ¬ ((6 : Int) < (n : Int)) := by omega
        clear g1 g2 hP
        go_wp2
        refine bodyPost_ret (results_tmp2 rfl _ _ _) rfl ?_; refine ⟨?_, rfl⟩; rw [f1.out, f2.out]; rfl
      · have hlt : (6 : Int) < (n : Int) := by omega
        obtain ⟨b, off, ea, hb, hcs⟩ := HS.out.at (by omega)
        subst ea
        have k0 := hcs 6 (by omega)
        have ed := Lib.hid (drop_cons (L := L) (k := 6) (by rw [HL.out]; omega))
        have hyy := HBY.out (L.getD 6 0) (getD_mem (by rw [HL.out]; omega))
        obtain ⟨y, hy⟩ : ∃ y : Nat, L.getD 6 0 = y := ⟨(L.getD 6 0).toNat, by omega⟩
        rw [hy] at k0 ed hyy
        have hy256 : y < 256 := by omega
        have LD := Lib.hid (show n - (L.drop (6 + 1)).length = 7 by rw [List.length_drop, HL.out]; omega)
        clear hcs hyy hy
        by_cases h2 : y < 128
        · by_cases h0 : y = 0
          · skip
            subst h0
            have hr2 := HR.out
            rw [ed.out, leadR_zero 6 acc (by omega)] at hr2
            injection hr2 with g1 g2
            have f1 := Lib.hid (show (r1 : Int) = 0 by omega)
            have f2 := Lib.hid (show (r2 : Int) = 0 by omega)
            have q0 : bits .and .u8 0 127 = 0 := by decide
            have o1 : bits .or .u64 (acc : Int) 0 = (acc : Int) := or_zero acc (by omega)
            have k1 : wr.cell? ⟨b, off + 6, none⟩ = some (.int .u8 0) := k0
            clear hP k0 g1 g2
            go_wp2
            all_goals (refine bodyPost_ret (results_tmp2 rfl _ _ _) rfl ?_; refine ⟨?_, rfl⟩; rw [f1.out, f2.out]; first | rfl | (simp; done))
          · have h2i : (y : Int) < 128 := by omega
            have h0i : ¬ ((y : Int) = 0) := by omega
            have hr2 := HR.out
            rw [ed.out, leadR_some 6 acc y h2 (by omega) (by omega)] at hr2
            injection hr2 with g1 g2
            rw [hP] at g1
            have a1 := and127n y (by omega)
            rw [Nat.mod_eq_of_lt h2] at a1
            have hb1 : acc + y * 4398046511104 ≤ 18446744073709551615 := by omega
            have o1 := orN acc y 42 (by decide) (by rw [show (2 : Nat) ^ 42 = 4398046511104 by decide]; exact ha) (by rw [show (2 : Nat) ^ 42 = 4398046511104 by decide]; omega)
            rw [show (2 : Nat) ^ 42 = 4398046511104 by decide, Int.natCast_mul, Int.natCast_add, Int.natCast_mul] at o1
            replace o1 : bits .or .u64 (acc : Int) ((y : Int) * 4398046511104) = (acc : Int) + (y : Int) * 4398046511104 := o1
            have hwr : (y : Int) * 4398046511104 ≤ 18446744073709551615 := by omega
            have f1 := Lib.hid (show (r1 : Int) = (acc : Int) + (y : Int) * 4398046511104 by omega)
            have f2 := Lib.hid (show (r2 : Int) = 7 by have := LD.out; omega)
            clear hP g1 g2 hb1
            go_wp2
            all_goals (refine bodyPost_ret (results_tmp2 rfl _ _ _) rfl ?_; refine ⟨?_, rfl⟩; rw [f1.out, f2.out]; first | rfl | (simp; done))
        · have hr2 := HR.out
          rw [ed.out, lead_go 6 acc y (by omega) (by omega), hP] at hr2
          obtain ⟨z, hz⟩ : ∃ z, y % 128 = z := ⟨_, rfl⟩
          have hz2 : z < 128 := by omega
          rw [hz] at hr2
          have HR2 := Lib.hid hr2
          obtain rfl : y = z + 128 := by omega
          have a1 := and127n (z + 128) (by omega)
          rw [hz] at a1
          have hb1 : acc + z * 4398046511104 ≤ 18446744073709551615 := by omega
          have o1 := orN acc z 42 (by decide) (by rw [show (2 : Nat) ^ 42 = 4398046511104 by decide]; exact ha) (by rw [show (2 : Nat) ^ 42 = 4398046511104 by decide]; omega)
          rw [show (2 : Nat) ^ 42 = 4398046511104 by decide, Int.natCast_mul, Int.natCast_add, Int.natCast_mul] at o1
          replace o1 : bits .or .u64 (acc : Int) ((z : Int) * 4398046511104) = (acc : Int) + (z : Int) * 4398046511104 := o1
          have hwr : (z : Int) * 4398046511104 ≤ 18446744073709551615 := by omega
          rw [show ((z + 128 : Nat) : Int) = (z : Int) + 128 by omega] at k0 a1
          clear hP hr2 hz
          go_wp2
          go_roundw
          case rel => exact ⟨7, acc + z * 4398046511104, by omega, by omega, by go_num, by go_num, (by first | rfl | trivial), by rw [show (128 : Nat) ^ 7 = 562949953421312 by decide]; omega, HR2.out⟩
          case measure => first | (simp [intOf]; done) | (simp [intOf]; omega)
    · have hP : (128 : Nat) ^ 7 = 562949953421312 := by decide
      rw [hP] at ha
      by_cases hn : n = 7
      · have f := HR.out
        rw [List.drop_of_length_le (by rw [HL.out, hn]; exact Nat.le_refl _)] at f
        injection f with g1 g2
        have f1 := Lib.hid (show (r1 : Int) = 0 by omega)
        have f2 := Lib.hid (show (r2 : Int) = 0 by omega)
        have hge : ¬ ((7 : Int) < (n : Int)) := by omega
        clear g1 g2 hP
        go_wp2
        refine bodyPost_ret (results_tmp2 rfl _ _ _) rfl ?_; refine ⟨?_, rfl⟩; rw [f1.out, f2.out]; rfl
      · have hlt : (7 : Int) < (n : Int) := by omega
        obtain ⟨b, off, ea, hb, hcs⟩ := HS.out.at (by omega)
        subst ea
        have k0 := hcs 7 (by omega)
        have ed := Lib.hid (drop_cons (L := L) (k := 7) (by rw [HL.out]; omega))
        have hyy := HBY.out (L.getD 7 0) (getD_mem (by rw [HL.out]; omega))
        obtain ⟨y, hy⟩ : ∃ y : Nat, L.getD 7 0 = y := ⟨(L.getD 7 0).toNat, by omega⟩
        rw [hy] at k0 ed hyy
        have hy256 : y < 256 := by omega
        have LD := Lib.hid (show n - (L.drop (7 + 1)).length = 8 by rw [List.length_drop, HL.out]; omega)
        clear hcs hyy hy
        by_cases h2 : y < 128
        · by_cases h0 : y = 0
          · skip
            subst h0
            have hr2 := HR.out
            rw [ed.out, leadR_zero 7 acc (by omega)] at hr2
            injection hr2 with g1 g2
            have f1 := Lib.hid (show (r1 : Int) = 0 by omega)
            have f2 := Lib.hid (show (r2 : Int) = 0 by omega)
            have q0 : bits .and .u8 0 127 = 0 := by decide
            have o1 : bits .or .u64 (acc : Int) 0 = (acc : Int) := or_zero acc (by omega)
            have k1 : wr.cell? ⟨b, off + 7, none⟩ = some (.int .u8 0) := k0
            clear hP k0 g1 g2
            go_wp2
            all_goals (refine bodyPost_ret (results_tmp2 rfl _ _ _) rfl ?_; refine ⟨?_, rfl⟩; rw [f1.out, f2.out]; first | rfl | (simp; done))
          · have h2i : (y : Int) < 128 := by omega
            have h0i : ¬ ((y : Int) = 0) := by omega
            have hr2 := HR.out
            rw [ed.out, leadR_some 7 acc y h2 (by omega) (by omega)] at hr2
            injection hr2 with g1 g2
            rw [hP] at g1
            have a1 := and127n y (by omega)
            rw [Nat.mod_eq_of_lt h2] at a1
            have hb1 : acc + y * 562949953421312 ≤ 18446744073709551615 := by omega
            have o1 := orN acc y 49 (by decide) (by rw [show (2 : Nat) ^ 49 = 562949953421312 by decide]; exact ha) (by rw [show (2 : Nat) ^ 49 = 562949953421312 by decide]; omega)
            rw [show (2 : Nat) ^ 49 = 562949953421312 by decide, Int.natCast_mul, Int.natCast_add, Int.natCast_mul] at o1
            replace o1 : bits .or .u64 (acc : Int) ((y : Int) * 562949953421312) = (acc : Int) + (y : Int) * 562949953421312 := o1
            have hwr : (y : Int) * 562949953421312 ≤ 18446744073709551615 := by omega
            have f1 := Lib.hid (show (r1 : Int) = (acc : Int) + (y : Int) * 562949953421312 by omega)
            have f2 := Lib.hid (show (r2 : Int) = 8 by have := LD.out; omega)
            clear hP g1 g2 hb1
            go_wp2
            all_goals (refine bodyPost_ret (results_tmp2 rfl _ _ _) rfl ?_; refine ⟨?_, rfl⟩; rw [f1.out, f2.out]; first | rfl | (simp; done))
        · have hr2 := HR.out
          rw [ed.out, lead_go 7 acc y (by omega) (by omega), hP] at hr2
          obtain ⟨z, hz⟩ : ∃ z, y % 128 = z := ⟨_, rfl⟩
          have hz2 : z < 128 := by omega
          rw [hz] at hr2
          have HR2 := Lib.hid hr2
          obtain rfl : y = z + 128 := by omega
          have a1 := and127n (z + 128) (by omega)
          rw [hz] at a1
          have hb1 : acc + z * 562949953421312 ≤ 18446744073709551615 := by omega
          have o1 := orN acc z 49 (by decide) (by rw [show (2 : Nat) ^ 49 = 562949953421312 by decide]; exact ha) (by rw [show (2 : Nat) ^ 49 = 562949953421312 by decide]; omega)
          rw [show (2 : Nat) ^ 49 = 562949953421312 by decide, Int.natCast_mul, Int.natCast_add, Int.natCast_mul] at o1
          replace o1 : bits .or .u64 (acc : Int) ((z : Int) * 562949953421312) = (acc : Int) + (z : Int) * 562949953421312 := o1
          have hwr : (z : Int) * 562949953421312 ≤ 18446744073709551615 := by omega
          rw [show ((z + 128 : Nat) : Int) = (z : Int) + 128 by omega] at k0 a1
          clear hP hr2 hz
          go_wp2
          go_roundw
          case rel => exact ⟨8, acc + z * 562949953421312, by omega, by omega, by go_num, by go_num, (by first | rfl | trivial), by rw [show (128 : Nat) ^ 8 = 72057594037927936 by decide]; omega, HR2.out⟩
          case measure => first | (simp [intOf]; done) | (simp [intOf]; omega)
    · have hP : (128 : Nat) ^ 8 = 72057594037927936 := by decide
      rw [hP] at ha
      by_cases hn : n = 8
      · have f := HR.out
        rw [List.drop_of_length_le (by rw [HL.out, hn]; exact Nat.le_refl _)] at f
        injection f with g1 g2
        have f1 := Lib.hid (show (r1 : Int) = 0 by omega)
        have f2 := Lib.hid (show (r2 : Int) = 0 by omega)
        have hge : ¬ ((8 : Int) < (n : Int)) := by omega
        clear g1 g2 hP
        go_wp2
        refine bodyPost_ret (results_tmp2 rfl _ _ _) rfl ?_; refine ⟨?_, rfl⟩; rw [f1.out, f2.out]; rfl
      · have hlt : (8 : Int) < (n : Int) := by omega
        obtain ⟨b, off, ea, hb, hcs⟩ := HS.out.at (by omega)
        subst ea
        have k0 := hcs 8 (by omega)
        have ed := Lib.hid (drop_cons (L := L) (k := 8) (by rw [HL.out]; omega))
        have hyy := HBY.out (L.getD 8 0) (getD_mem (by rw [HL.out]; omega))
        obtain ⟨y, hy⟩ : ∃ y : Nat, L.getD 8 0 = y := ⟨(L.getD 8 0).toNat, by omega⟩
        rw [hy] at k0 ed hyy
        have hy256 : y < 256 := by omega
        have LD := Lib.hid (show n - (L.drop (8 + 1)).length = 9 by rw [List.length_drop, HL.out]; omega)
        clear hcs hyy hy
        by_cases h2 : y < 128
        · by_cases h0 : y = 0
          · skip
            subst h0
            have hr2 := HR.out
            rw [ed.out, leadR_zero 8 acc (by omega)] at hr2
            injection hr2 with g1 g2
            have f1 := Lib.hid (show (r1 : Int) = 0 by omega)
            have f2 := Lib.hid (show (r2 : Int) = 0 by omega)
            have q0 : bits .and .u8 0 127 = 0 := by decide
            have o1 : bits .or .u64 (acc : Int) 0 = (acc : Int) := or_zero acc (by omega)
            have k1 : wr.cell? ⟨b, off + 8, none⟩ = some (.int .u8 0) := k0
            clear hP k0 g1 g2
            go_wp2
            all_goals (refine bodyPost_ret (results_tmp2 rfl _ _ _) rfl ?_; refine ⟨?_, rfl⟩; rw [f1.out, f2.out]; first | rfl | (simp; done))
          · have h2i : (y : Int) < 128 := by omega
            have h0i : ¬ ((y : Int) = 0) := by omega
            have hr2 := HR.out
            rw [ed.out, leadR_some 8 acc y h2 (by omega) (by omega)] at hr2
            injection hr2 with g1 g2
            rw [hP] at g1
            have a1 := and127n y (by omega)
            rw [Nat.mod_eq_of_lt h2] at a1
            have hb1 : acc + y * 72057594037927936 ≤ 18446744073709551615 := by omega
            have o1 := orN acc y 56 (by decide) (by rw [show (2 : Nat) ^ 56 = 72057594037927936 by decide]; exact ha) (by rw [show (2 : Nat) ^ 56 = 72057594037927936 by decide]; omega)
            rw [show (2 : Nat) ^ 56 = 72057594037927936 by decide, Int.natCast_mul, Int.natCast_add, Int.natCast_mul] at o1
            replace o1 : bits .or .u64 (acc : Int) ((y : Int) * 72057594037927936) = (acc : Int) + (y : Int) * 72057594037927936 := o1
            have hwr : (y : Int) * 72057594037927936 ≤ 18446744073709551615 := by omega
            have f1 := Lib.hid (show (r1 : Int) = (acc : Int) + (y : Int) * 72057594037927936 by omega)
            have f2 := Lib.hid (show (r2 : Int) = 9 by have := LD.out; omega)
            clear hP g1 g2 hb1
            go_wp2
            all_goals (refine bodyPost_ret (results_tmp2 rfl _ _ _) rfl ?_; refine ⟨?_, rfl⟩; rw [f1.out, f2.out]; first | rfl | (simp; done))
        · have hr2 := HR.out
          rw [ed.out, lead_go 8 acc y (by omega) (by omega), hP] at hr2
          obtain ⟨z, hz⟩ : ∃ z, y % 128 = z := ⟨_, rfl⟩
          have hz2 : z < 128 := by omega
          rw [hz] at hr2
          have HR2 := Lib.hid hr2
          obtain rfl : y = z + 128 := by omega
          have a1 := and127n (z + 128) (by omega)
          rw [hz] at a1
          have hb1 : acc + z * 72057594037927936 ≤ 18446744073709551615 := by omega
          have o1 := orN acc z 56 (by decide) (by rw [show (2 : Nat) ^ 56 = 72057594037927936 by decide]; exact ha) (by rw [show (2 : Nat) ^ 56 = 72057594037927936 by decide]; omega)
          rw [show (2 : Nat) ^ 56 = 72057594037927936 by decide, Int.natCast_mul, Int.natCast_add, Int.natCast_mul] at o1
          replace o1 : bits .or .u64 (acc : Int) ((z : Int) * 72057594037927936) = (acc : Int) + (z : Int) * 72057594037927936 := o1
          have hwr : (z : Int) * 72057594037927936 ≤ 18446744073709551615 := by omega
          rw [show ((z + 128 : Nat) : Int) = (z : Int) + 128 by omega] at k0 a1
          clear hP hr2 hz
          go_wp2
          go_roundw
          case rel => exact ⟨9, acc + z * 72057594037927936, by omega, by omega, by go_num, by go_num, (by first | rfl | trivial), by rw [show (128 : Nat) ^ 9 = 9223372036854775808 by decide]; omega, HR2.out⟩
          case measure => first | (simp [intOf]; done) | (simp [intOf]; omega)
    · have hP : (128 : Nat) ^ 9 = 9223372036854775808 := by decide
      rw [hP] at ha
      by_cases hn : n = 9
      · have f := HR.out
        rw [List.drop_of_length_le (by rw [HL.out, hn]; exact Nat.le_refl _)] at f
        injection f with g1 g2
        have f1 := Lib.hid (show (r1 : Int) = 0 by omega)
        have f2 := Lib.hid (show (r2 : Int) = 0 by omega)
        have hge : ¬ ((9 : Int) < (n : Int)) := by omega
        clear g1 g2 hP
        go_wp2
        refine bodyPost_ret (results_tmp2 rfl _ _ _) rfl ?_; refine ⟨?_, rfl⟩; rw [f1.out, f2.out]; rfl
      · have hlt : (9 : Int) < (n : Int) := by omega
        obtain ⟨b, off, ea, hb, hcs⟩ := HS.out.at (by omega)
        subst ea
        have k0 := hcs 9 (by omega)
        have ed := Lib.hid (drop_cons (L := L) (k := 9) (by rw [HL.out]; omega))
        have hyy := HBY.out (L.getD 9 0) (getD_mem (by rw [HL.out]; omega))
        obtain ⟨y, hy⟩ : ∃ y : Nat, L.getD 9 0 = y := ⟨(L.getD 9 0).toNat, by omega⟩
        rw [hy] at k0 ed hyy
        have hy256 : y < 256 := by omega
        have LD := Lib.hid (show n - (L.drop (9 + 1)).length = 10 by rw [List.length_drop, HL.out]; omega)
        clear hcs hyy hy
        by_cases h1 : 1 < y
        · have h1i : (1 : Int) < (y : Int) := by omega
          have hr2 := HR.out
          rw [ed.out, leadR_none9 acc (by omega)] at hr2
          injection hr2 with g1 g2
          have f1 := Lib.hid (show (r1 : Int) = 0 by omega)
          have f2 := Lib.hid (show (r2 : Int) = 0 by omega)
          clear hP g1 g2
          go_wp2
          all_goals (refine bodyPost_ret (results_tmp2 rfl _ _ _) rfl ?_; refine ⟨?_, rfl⟩; rw [f1.out, f2.out]; first | rfl | (simp; done))
        · have h01 : y = 0 ∨ y = 1 := by omega
          rcases h01 with h0 | h0
          · skip
            subst h0
            have hr2 := HR.out
            rw [ed.out, leadR_zero 9 acc (by omega)] at hr2
            injection hr2 with g1 g2
            have f1 := Lib.hid (show (r1 : Int) = 0 by omega)
            have f2 := Lib.hid (show (r2 : Int) = 0 by omega)
            have q0 : bits .and .u8 0 127 = 0 := by decide
            have o1 : bits .or .u64 (acc : Int) 0 = (acc : Int) := or_zero acc (by omega)
            have k1 : wr.cell? ⟨b, off + 9, none⟩ = some (.int .u8 0) := k0
            clear hP k0 g1 g2
            go_wp2
            all_goals (refine bodyPost_ret (results_tmp2 rfl _ _ _) rfl ?_; refine ⟨?_, rfl⟩; rw [f1.out, f2.out]; first | rfl | (simp; done))
          · subst h0
            have hr2 := HR.out
            rw [ed.out, show ((1 : Nat) : Int) = ((1 : Nat) : Int) from rfl, leadR_some 9 acc 1 (by omega) (by omega) (by omega)] at hr2
            injection hr2 with g1 g2
            rw [hP] at g1
            have f1 := Lib.hid (show (r1 : Int) = (acc : Int) + 9223372036854775808 by omega)
            have f2 := Lib.hid (show (r2 : Int) = 10 by have := LD.out; omega)
            have q0 : bits .and .u8 1 127 = 1 := by decide
            have o1 := orN acc 1 63 (by decide) (by rw [show (2 : Nat) ^ 63 = 9223372036854775808 by decide]; exact ha) (by rw [show (2 : Nat) ^ 63 = 9223372036854775808 by decide]; omega)
            rw [show (2 : Nat) ^ 63 = 9223372036854775808 by decide, Int.natCast_add] at o1
            replace o1 : bits .or .u64 (acc : Int) 9223372036854775808 = (acc : Int) + 9223372036854775808 := o1
            have k1 : wr.cell? ⟨b, off + 9, none⟩ = some (.int .u8 1) := k0
            clear hP k0 g1 g2
            go_wp2
            all_goals (refine bodyPost_ret (results_tmp2 rfl _ _ _) rfl ?_; refine ⟨?_, rfl⟩; rw [f1.out, f2.out]; first | rfl | (simp; done))

end Go.Proofs.YtcdkehghdhcokaaDoor.wr
