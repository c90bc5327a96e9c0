/- Uint of the reference. -/
import Derived.Test.YtcdkehghdhcokaaDoorX9
namespace Go.Proofs.YtcdkehghdhcokaaDoor.wr
open Go.RowKit
set_option linter.unusedVariables false

set_option linter.unusedSimpArgs false
theorem lead_none9 {T : List Int} {y : Nat} (acc : Nat) (h : 1 < y) : lead 9 acc ((y : Int) :: T) = none := by
  unfold lead
  rw [if_pos ⟨rfl, by omega⟩]
theorem lead_zero {T : List Int} (i acc : Nat) (h : 0 < i) : lead i acc (((0 : Nat) : Int) :: T) = none := by
  unfold lead
  rw [if_neg (by omega), if_pos (by omega), if_pos ⟨rfl, h⟩]
theorem lead_some {T : List Int} (i acc y : Nat) (h : y < 128) (h1 : ¬ (i = 9 ∧ 1 < y)) (h2 : ¬ (y = 0 ∧ 0 < i)) : lead i acc ((y : Int) :: T) = some (acc + y * 128 ^ i, T) := by
  unfold lead
  rw [if_neg (by omega), if_pos (by omega), if_neg (by omega), Int.toNat_natCast]
theorem st_drop1 {t k : Nat} {w : World} {R b off c : Nat} {L : List Int} (h1 : w.heap[R]? = some (.cells #[.slice (some ⟨b, off, none⟩) (k + 1) c, .bool false] t (0, 0))) (hn : L.length = k + 1) (hne : b ≠ R) :
    St t (w.setCell ⟨R, 0, none⟩ (.slice (some ⟨b, off, none⟩) 0 0)) R (some (L.drop (k + 1))) := by
  have e : L.drop (k + 1) = [] := List.drop_of_length_le (by omega)
  rw [e]
  refine ⟨some ⟨b, off, none⟩, 0, ?_, ?_, ?_⟩
  · rw [heap_setCell_same w R 0 _ t _ h1]; rfl
  · exact ⟨rfl, by simp, by omega, fun h => (by cases h), .inl rfl⟩
  · intro b' off' e _
    injection e with e; injection e with e1 e2; subst e1; exact hne
theorem st_drop2 {t k : Nat} {w : World} {R b off n c : Nat} {L : List Int} (h1 : w.heap[R]? = some (.cells #[.slice (some ⟨b, off, none⟩) n c, .bool false] t (0, 0))) (h2 : SlB w (some ⟨b, off, none⟩) n c L) (hn : L.length = n) (hne : b ≠ R) (hk : k < n) :
    St t (w.setCell ⟨R, 0, none⟩ (.slice (some ⟨b, off + (k + 1), none⟩) (n - (k + 1)) (c - (k + 1)))) R (some (L.drop (k + 1))) := by
  have e : L = L.take (k + 1) ++ L.drop (k + 1) := (List.take_append_drop _ _).symm
  have h2' := h2
  rw [e] at h2'
  have hd := SlB.drop (A := L.take (k + 1)) (B := L.drop (k + 1)) (k := k + 1) h2' (by rw [List.length_take]; omega)
  have el : (L.drop (k + 1)).length = n - (k + 1) := by rw [List.length_drop, hn]
  refine ⟨some ⟨b, off + (k + 1), none⟩, c - (k + 1), ?_, ?_, ?_⟩
  · rw [heap_setCell_same w R 0 _ t _ h1, el]; rfl
  · rw [el]
    exact hd.grown (grown_set w R 0 _) (fun b' off' e => by injection e with e; injection e with e1 e2; subst e1; exact hne)
  · intro b' off' e _
    injection e with e; injection e with e1 e2; subst e1; exact hne
/-- what Uint of the reference does -/
def UPostR (w : World) (R : Nat) (r : Nat × Int × Option (List Int)) (e : Ending) (w' : World) : Prop := e = .returned (.tuple #[.int .u64 (r.1 : Nat), .int .i64 r.2.1]) ∧ St 65 w' R r.2.2 ∧ w.grownBy w' (some R)
/-- the place's value -/
def pl (k : Nat) : Nat := if k ≤ 9 then 128 ^ k else 0
set_option maxHeartbeats 8000000 in
set_option maxRecDepth 100000 in
theorem ruint_s (R : Nat) (L : List Int) (w : World) (h : St 65 w R (some L)) (hby : Bytes L) (hlen : L.length ≤ 100000) :
    Calls Tryd.prog 28 #[.pointer (some ⟨R, 0, none⟩)] w (UPostR w R (uR (some L))) := by
  obtain ⟨r, hr⟩ : ∃ r, uR (some L) = r := ⟨_, rfl⟩
  rw [hr]
  have HRR := Lib.hid hr
  have FL := Lib.hid (rfail_g R L w h)
  obtain ⟨a, c, h1, h2, h3⟩ := h
  obtain ⟨n, hn⟩ : ∃ n, L.length = n := ⟨_, rfl⟩
  rw [hn] at h1 h2 h3 hlen
  have HL := Lib.hid hn
  have H1 := Lib.hid h1
  have HS := Lib.hid h2
  have HNEQ := Lib.hid h3
  have HBY := Lib.hid hby
  have hnc : n ≤ c := h2.2.1
  have hc63 := h2.2.2.1
  have k0 := cell_of_row w R 0 _ 65 (0, 0) h1
  change w.cell? ⟨R, 0, none⟩ = some (.slice a n c) at k0
  have f0 := frozen_of_row w R 0 _ 65 h1
  have hn9 : (n : Int) ≤ 100000 := by omega
  clear h1 h2 h3 hn hby hr
  go_enter Tryd.func28, Tryd.ntmps28
  go_wp2
  go_loopw [4, 5, 6] (fun s4 s5 s6 wr => ∃ (k acc : Nat), k ≤ 10 ∧ k ≤ n ∧ s6 = .int .i64 (k : Nat) ∧ s4 = .int .u64 (acc : Nat) ∧ s5 = .int .u64 (pl k : Nat) ∧ wr = w ∧ (k ≤ 9 → acc < 128 ^ k) ∧ (k ≤ 9 → lead k acc (L.drop k) = dec L) ∧ (k = 10 → dec L = none)) (fun _ _ s _ => 11 - (intOf s).toNat)
  case atStart => exact ⟨0, 0, by omega, by omega, rfl, rfl, rfl, rfl, fun _ => by simp, fun _ => rfl, fun h => by omega⟩
  case round =>
    obtain ⟨k, acc, hk10, hkn, rfl, rfl, rfl, rfl, ha, hd9, hd10⟩ := hrel
    have hks : k = 0 ∨ k = 1 ∨ k = 2 ∨ k = 3 ∨ k = 4 ∨ k = 5 ∨ k = 6 ∨ k = 7 ∨ k = 8 ∨ k = 9 ∨ k = 10 := by omega
    rcases hks with rfl | rfl | rfl | rfl | rfl | rfl | rfl | rfl | rfl | rfl | rfl
    · have hP : (128 : Nat) ^ 0 = 1 := by decide
      have hpl : pl 0 = 1 := by decide
      rw [hpl]
      clear hpl
      have HD := Lib.hid (hd9 (by omega))
      replace ha : acc < 1 := by rw [← hP]; exact ha (by omega)
      clear hd9 hd10
      by_cases hn : n = 0
      · have hge : ¬ ((0 : Int) < (n : Int)) := by omega
        have HN := Lib.hid hn
        clear hP
        go_wp2_with fail
        refine FL.out.mono ?_
        rintro e w2 ⟨rfl, st2, g2⟩
        have S2 := Lib.hid st2
        have G2 := Lib.hid g2
        clear st2 g2 FL
        go_wp2
        refine bodyPost_ret (results_tmp2 rfl _ _ _) rfl ?_
        obtain rfl : r = (0, 5, none) := by rw [← HRR.out]; exact uR_none (by rw [← HD.out]; rw [List.drop_of_length_le (by rw [HL.out, HN.out]; exact Nat.le_refl _)]; rfl)
        exact ⟨rfl, S2.out, G2.out⟩
      · have hlt : (0 : Int) < (n : Int) := by omega
        obtain ⟨b, off, ea, hb, hcs⟩ := HS.out.at (by omega)
        have HNE := Lib.hid (HNEQ.out b off ea (by omega))
        subst ea
        have ky := hcs 0 (by omega)
        have ed := Lib.hid (drop_cons (L := L) (k := 0) (by rw [HL.out]; omega))
        have hyy := HBY.out (L.getD 0 0) (getD_mem (by rw [HL.out]; omega))
        obtain ⟨y, hy⟩ : ∃ y : Nat, L.getD 0 0 = y := ⟨(L.getD 0 0).toNat, by omega⟩
        rw [hy] at ky ed hyy
        have hy256 : y < 256 := by omega
        rw [Nat.add_zero] at ky
        have HB := Lib.hid hb
        have HCS := Lib.hid hcs
        clear hcs hyy hy hb hn
        have dl : (L.drop 0) = (y : Int) :: L.drop (0 + 1) := ed.out
        have HD2 := Lib.hid (show lead 0 acc ((y : Int) :: L.drop (0 + 1)) = dec L by rw [← dl]; exact HD.out)
        clear dl ed HD
        have HD := HD2
        clear hP
        by_cases h2 : y < 128
        · have t1 : (y : Int).tmod 128 = (y : Int) := by rw [Int.tmod_eq_emod_of_nonneg (by omega)]; omega
          have t2 : (y : Int) % 128 = (y : Int) := by omega
          have h2i : (y : Int) < 128 := by omega
          have hw : acc + y * 1 ≤ 18446744073709551615 := by omega
          have hwi : (acc : Int) + (y : Int) * 1 ≤ 18446744073709551615 := by omega
          have hw2 : (y : Int) * 1 ≤ 18446744073709551615 := by omega
          by_cases hc : c = 1
          · have hci : (c : Int) = 1 := by omega
            have hnk : n = 1 := by omega
            subst hnk
            go_wp2
            refine bodyPost_ret (results_tmp2 rfl _ _ _) rfl ?_
            obtain rfl : r = (acc + y * 1, 0, some (L.drop (0 + 1))) := by rw [← HRR.out]; exact uR_some (by rw [← HD.out, lead_some 0 acc y (by omega) (by omega) (by omega), show (128 : Nat) ^ 0 = 1 by decide])
            exact ⟨by simp, st_drop1 H1.out HL.out HNE.out, grown_set _ _ _ _⟩
          · have hci : ¬ ((c : Int) = 1) := by omega
            have hcl : (1 : Int) ≤ (c : Int) := by omega
            go_wp2
            refine bodyPost_ret (results_tmp2 rfl _ _ _) rfl ?_
            obtain rfl : r = (acc + y * 1, 0, some (L.drop (0 + 1))) := by rw [← HRR.out]; exact uR_some (by rw [← HD.out, lead_some 0 acc y (by omega) (by omega) (by omega), show (128 : Nat) ^ 0 = 1 by decide])
            exact ⟨by simp, st_drop2 H1.out HS.out HL.out HNE.out (by omega), grown_set _ _ _ _⟩
        · obtain ⟨z, rfl⟩ : ∃ z, y = z + 128 := ⟨y - 128, by omega⟩
          have hz : z < 128 := by omega
          have t1 : ((z : Int) + 128).tmod 128 = (z : Int) := by rw [Int.tmod_eq_emod_of_nonneg (by omega)]; omega
          have t2 : ((z : Int) + 128) % 128 = (z : Int) := by omega
          rw [show ((z + 128 : Nat) : Int) = (z : Int) + 128 by omega] at ky
          have h2i : ¬ ((z : Int) + 128 < 128) := by omega
          have hdn := Lib.hid (show lead (0 + 1) (acc + z * 1) (L.drop (0 + 1)) = dec L by rw [← HD.out, lead_go 0 acc (z + 128) (by omega) (by omega), show (z + 128) % 128 = z by omega, show (128 : Nat) ^ 0 = 1 by decide])
          have hwi : (acc : Int) + (z : Int) * 1 ≤ 18446744073709551615 := by omega
          have hw2 : (z : Int) * 1 ≤ 18446744073709551615 := by omega
          have hlt2 := Lib.hid (show acc + z * 1 < 128 by omega)
          go_wp2
          go_roundw
          case rel => exact ⟨1, acc + z * 1, by omega, by omega, by go_num, by go_num, (by first | rfl | trivial), (by first | rfl | trivial), fun _ => by rw [show (128 : Nat) ^ 1 = 128 by decide]; exact hlt2.out, fun _ => hdn.out, fun h => by omega⟩
          case measure => first | (simp [intOf]; done) | (simp [intOf]; omega)
    · have hP : (128 : Nat) ^ 1 = 128 := by decide
      have hpl : pl 1 = 128 := by decide
      rw [hpl]
      clear hpl
      have HD := Lib.hid (hd9 (by omega))
      replace ha : acc < 128 := by rw [← hP]; exact ha (by omega)
      clear hd9 hd10
      by_cases hn : n = 1
      · have hge : ¬ ((1 : Int) < (n : Int)) := by omega
        have HN := Lib.hid hn
        clear hP
        go_wp2_with fail
        refine FL.out.mono ?_
        rintro e w2 ⟨rfl, st2, g2⟩
        have S2 := Lib.hid st2
        have G2 := Lib.hid g2
        clear st2 g2 FL
        go_wp2
        refine bodyPost_ret (results_tmp2 rfl _ _ _) rfl ?_
        obtain rfl : r = (0, 5, none) := by rw [← HRR.out]; exact uR_none (by rw [← HD.out]; rw [List.drop_of_length_le (by rw [HL.out, HN.out]; exact Nat.le_refl _)]; rfl)
        exact ⟨rfl, S2.out, G2.out⟩
      · have hlt : (1 : Int) < (n : Int) := by omega
        obtain ⟨b, off, ea, hb, hcs⟩ := HS.out.at (by omega)
        have HNE := Lib.hid (HNEQ.out b off ea (by omega))
        subst ea
        have ky := hcs 1 (by omega)
        have ed := Lib.hid (drop_cons (L := L) (k := 1) (by rw [HL.out]; omega))
        have hyy := HBY.out (L.getD 1 0) (getD_mem (by rw [HL.out]; omega))
        obtain ⟨y, hy⟩ : ∃ y : Nat, L.getD 1 0 = y := ⟨(L.getD 1 0).toNat, by omega⟩
        rw [hy] at ky ed hyy
        have hy256 : y < 256 := by omega
        have HB := Lib.hid hb
        have HCS := Lib.hid hcs
        clear hcs hyy hy hb hn
        have dl : (L.drop 1) = (y : Int) :: L.drop (1 + 1) := ed.out
        have HD2 := Lib.hid (show lead 1 acc ((y : Int) :: L.drop (1 + 1)) = dec L by rw [← dl]; exact HD.out)
        clear dl ed HD
        have HD := HD2
        clear hP
        by_cases h2 : y < 128
        · have t1 : (y : Int).tmod 128 = (y : Int) := by rw [Int.tmod_eq_emod_of_nonneg (by omega)]; omega
          have t2 : (y : Int) % 128 = (y : Int) := by omega
          have h2i : (y : Int) < 128 := by omega
          have hw : acc + y * 128 ≤ 18446744073709551615 := by omega
          have hwi : (acc : Int) + (y : Int) * 128 ≤ 18446744073709551615 := by omega
          have hw2 : (y : Int) * 128 ≤ 18446744073709551615 := by omega
          by_cases h0 : y = 0
          · subst h0
            have ky0 : wr.cell? ⟨b, off + 1, none⟩ = some (.int .u8 0) := ky
            clear ky t1 t2 h2i
            go_wp2_with fail
            refine FL.out.mono ?_
            rintro e w2 ⟨rfl, st2, g2⟩
            have S2 := Lib.hid st2
            have G2 := Lib.hid g2
            clear st2 g2 FL
            go_wp2
            refine bodyPost_ret (results_tmp2 rfl _ _ _) rfl ?_
            obtain rfl : r = (0, 5, none) := by rw [← HRR.out]; exact uR_none (by rw [← HD.out]; exact lead_zero 1 acc (by omega))
            exact ⟨rfl, S2.out, G2.out⟩
          · have h0i : ¬ ((y : Int) = 0) := by omega
            by_cases hc : c = 2
            · have hci : (c : Int) = 2 := by omega
              have hnk : n = 2 := by omega
              subst hnk
              go_wp2
              refine bodyPost_ret (results_tmp2 rfl _ _ _) rfl ?_
              obtain rfl : r = (acc + y * 128, 0, some (L.drop (1 + 1))) := by rw [← HRR.out]; exact uR_some (by rw [← HD.out, lead_some 1 acc y (by omega) (by omega) (by omega), show (128 : Nat) ^ 1 = 128 by decide])
              exact ⟨by simp, st_drop1 H1.out HL.out HNE.out, grown_set _ _ _ _⟩
            · have hci : ¬ ((c : Int) = 2) := by omega
              have hcl : (2 : Int) ≤ (c : Int) := by omega
              go_wp2
              refine bodyPost_ret (results_tmp2 rfl _ _ _) rfl ?_
              obtain rfl : r = (acc + y * 128, 0, some (L.drop (1 + 1))) := by rw [← HRR.out]; exact uR_some (by rw [← HD.out, lead_some 1 acc y (by omega) (by omega) (by omega), show (128 : Nat) ^ 1 = 128 by decide])
              exact ⟨by simp, st_drop2 H1.out HS.out HL.out HNE.out (by omega), grown_set _ _ _ _⟩
        · obtain ⟨z, rfl⟩ : ∃ z, y = z + 128 := ⟨y - 128, by omega⟩
          have hz : z < 128 := by omega
          have t1 : ((z : Int) + 128).tmod 128 = (z : Int) := by rw [Int.tmod_eq_emod_of_nonneg (by omega)]; omega
          have t2 : ((z : Int) + 128) % 128 = (z : Int) := by omega
          rw [show ((z + 128 : Nat) : Int) = (z : Int) + 128 by omega] at ky
          have h2i : ¬ ((z : Int) + 128 < 128) := by omega
          have hdn := Lib.hid (show lead (1 + 1) (acc + z * 128) (L.drop (1 + 1)) = dec L by rw [← HD.out, lead_go 1 acc (z + 128) (by omega) (by omega), show (z + 128) % 128 = z by omega, show (128 : Nat) ^ 1 = 128 by decide])
          have hwi : (acc : Int) + (z : Int) * 128 ≤ 18446744073709551615 := by omega
          have hw2 : (z : Int) * 128 ≤ 18446744073709551615 := by omega
          have hlt2 := Lib.hid (show acc + z * 128 < 16384 by omega)
          go_wp2
          go_roundw
          case rel => exact ⟨2, acc + z * 128, by omega, by omega, by go_num, by go_num, (by first | rfl | trivial), (by first | rfl | trivial), fun _ => by rw [show (128 : Nat) ^ 2 = 16384 by decide]; exact hlt2.out, fun _ => hdn.out, fun h => by omega⟩
          case measure => first | (simp [intOf]; done) | (simp [intOf]; omega)
    · have hP : (128 : Nat) ^ 2 = 16384 := by decide
      have hpl : pl 2 = 16384 := by decide
      rw [hpl]
      clear hpl
      have HD := Lib.hid (hd9 (by omega))
      replace ha : acc < 16384 := by rw [← hP]; exact ha (by omega)
      clear hd9 hd10
      by_cases hn : n = 2
      · have hge : ¬ ((2 : Int) < (n : Int)) := by omega
        have HN := Lib.hid hn
        clear hP
        go_wp2_with fail
        refine FL.out.mono ?_
        rintro e w2 ⟨rfl, st2, g2⟩
        have S2 := Lib.hid st2
        have G2 := Lib.hid g2
        clear st2 g2 FL
        go_wp2
        refine bodyPost_ret (results_tmp2 rfl _ _ _) rfl ?_
        obtain rfl : r = (0, 5, none) := by rw [← HRR.out]; exact uR_none (by rw [← HD.out]; rw [List.drop_of_length_le (by rw [HL.out, HN.out]; exact Nat.le_refl _)]; rfl)
        exact ⟨rfl, S2.out, G2.out⟩
      · have hlt : (2 : Int) < (n : Int) := by omega
        obtain ⟨b, off, ea, hb, hcs⟩ := HS.out.at (by omega)
        have HNE := Lib.hid (HNEQ.out b off ea (by omega))
        subst ea
        have ky := hcs 2 (by omega)
        have ed := Lib.hid (drop_cons (L := L) (k := 2) (by rw [HL.out]; omega))
        have hyy := HBY.out (L.getD 2 0) (getD_mem (by rw [HL.out]; omega))
        obtain ⟨y, hy⟩ : ∃ y : Nat, L.getD 2 0 = y := ⟨(L.getD 2 0).toNat, by omega⟩
        rw [hy] at ky ed hyy
        have hy256 : y < 256 := by omega
        have HB := Lib.hid hb
        have HCS := Lib.hid hcs
        clear hcs hyy hy hb hn
        have dl : (L.drop 2) = (y : Int) :: L.drop (2 + 1) := ed.out
        have HD2 := Lib.hid (show lead 2 acc ((y : Int) :: L.drop (2 + 1)) = dec L by rw [← dl]; exact HD.out)
        clear dl ed HD
        have HD := HD2
        clear hP
        by_cases h2 : y < 128
        · have t1 : (y : Int).tmod 128 = (y : Int) := by rw [Int.tmod_eq_emod_of_nonneg (by omega)]; omega
          have t2 : (y : Int) % 128 = (y : Int) := by omega
          have h2i : (y : Int) < 128 := by omega
          have hw : acc + y * 16384 ≤ 18446744073709551615 := by omega
          have hwi : (acc : Int) + (y : Int) * 16384 ≤ 18446744073709551615 := by omega
          have hw2 : (y : Int) * 16384 ≤ 18446744073709551615 := by omega
          by_cases h0 : y = 0
          · subst h0
            have ky0 : wr.cell? ⟨b, off + 2, none⟩ = some (.int .u8 0) := ky
            clear ky t1 t2 h2i
            go_wp2_with fail
            refine FL.out.mono ?_
            rintro e w2 ⟨rfl, st2, g2⟩
            have S2 := Lib.hid st2
            have G2 := Lib.hid g2
            clear st2 g2 FL
            go_wp2
            refine bodyPost_ret (results_tmp2 rfl _ _ _) rfl ?_
            obtain rfl : r = (0, 5, none) := by rw [← HRR.out]; exact uR_none (by rw [← HD.out]; exact lead_zero 2 acc (by omega))
            exact ⟨rfl, S2.out, G2.out⟩
          · have h0i : ¬ ((y : Int) = 0) := by omega
            by_cases hc : c = 3
            · have hci : (c : Int) = 3 := by omega
              have hnk : n = 3 := by omega
              subst hnk
              go_wp2
              refine bodyPost_ret (results_tmp2 rfl _ _ _) rfl ?_
              obtain rfl : r = (acc + y * 16384, 0, some (L.drop (2 + 1))) := by rw [← HRR.out]; exact uR_some (by rw [← HD.out, lead_some 2 acc y (by omega) (by omega) (by omega), show (128 : Nat) ^ 2 = 16384 by decide])
              exact ⟨by simp, st_drop1 H1.out HL.out HNE.out, grown_set _ _ _ _⟩
            · have hci : ¬ ((c : Int) = 3) := by omega
              have hcl : (3 : Int) ≤ (c : Int) := by omega
              go_wp2
              refine bodyPost_ret (results_tmp2 rfl _ _ _) rfl ?_
              obtain rfl : r = (acc + y * 16384, 0, some (L.drop (2 + 1))) := by rw [← HRR.out]; exact uR_some (by rw [← HD.out, lead_some 2 acc y (by omega) (by omega) (by omega), show (128 : Nat) ^ 2 = 16384 by decide])
              exact ⟨by simp, st_drop2 H1.out HS.out HL.out HNE.out (by omega), grown_set _ _ _ _⟩
        · obtain ⟨z, rfl⟩ : ∃ z, y = z + 128 := ⟨y - 128, by omega⟩
          have hz : z < 128 := by omega
          have t1 : ((z : Int) + 128).tmod 128 = (z : Int) := by rw [Int.tmod_eq_emod_of_nonneg (by omega)]; omega
          have t2 : ((z : Int) + 128) % 128 = (z : Int) := by omega
          rw [show ((z + 128 : Nat) : Int) = (z : Int) + 128 by omega] at ky
          have h2i : ¬ ((z : Int) + 128 < 128) := by omega
          have hdn := Lib.hid (show lead (2 + 1) (acc + z * 16384) (L.drop (2 + 1)) = dec L by rw [← HD.out, lead_go 2 acc (z + 128) (by omega) (by omega), show (z + 128) % 128 = z by omega, show (128 : Nat) ^ 2 = 16384 by decide])
          have hwi : (acc : Int) + (z : Int) * 16384 ≤ 18446744073709551615 := by omega
          have hw2 : (z : Int) * 16384 ≤ 18446744073709551615 := by omega
          have hlt2 := Lib.hid (show acc + z * 16384 < 2097152 by omega)
          go_wp2
          go_roundw
          case rel => exact ⟨3, acc + z * 16384, by omega, by omega, by go_num, by go_num, (by first | rfl | trivial), (by first | rfl | trivial), fun _ => by rw [show (128 : Nat) ^ 3 = 2097152 by decide]; exact hlt2.out, fun _ => hdn.out, fun h => by omega⟩
          case measure => first | (simp [intOf]; done) | (simp [intOf]; omega)
    · have hP : (128 : Nat) ^ 3 = 2097152 := by decide
      have hpl : pl 3 = 2097152 := by decide
      rw [hpl]
      clear hpl
      have HD := Lib.hid (hd9 (by omega))
      replace ha : acc < 2097152 := by rw [← hP]; exact ha (by omega)
      clear hd9 hd10
      by_cases hn : n = 3
      · have hge : ¬ ((3 : Int) < (n : Int)) := by omega
        have HN := Lib.hid hn
        clear hP
        go_wp2_with fail
        refine FL.out.mono ?_
        rintro e w2 ⟨rfl, st2, g2⟩
        have S2 := Lib.hid st2
        have G2 := Lib.hid g2
        clear st2 g2 FL
        go_wp2
        refine bodyPost_ret (results_tmp2 rfl _ _ _) rfl ?_
        obtain rfl : r = (0, 5, none) := by rw [← HRR.out]; exact uR_none (by rw [← HD.out]; rw [List.drop_of_length_le (by rw [HL.out, HN.out]; exact Nat.le_refl _)]; rfl)
        exact ⟨rfl, S2.out, G2.out⟩
      · have hlt : (3 : Int) < (n : Int) := by omega
        obtain ⟨b, off, ea, hb, hcs⟩ := HS.out.at (by omega)
        have HNE := Lib.hid (HNEQ.out b off ea (by omega))
        subst ea
        have ky := hcs 3 (by omega)
        have ed := Lib.hid (drop_cons (L := L) (k := 3) (by rw [HL.out]; omega))
        have hyy := HBY.out (L.getD 3 0) (getD_mem (by rw [HL.out]; omega))
        obtain ⟨y, hy⟩ : ∃ y : Nat, L.getD 3 0 = y := ⟨(L.getD 3 0).toNat, by omega⟩
        rw [hy] at ky ed hyy
        have hy256 : y < 256 := by omega
        have HB := Lib.hid hb
        have HCS := Lib.hid hcs
        clear hcs hyy hy hb hn
        have dl : (L.drop 3) = (y : Int) :: L.drop (3 + 1) := ed.out
        have HD2 := Lib.hid (show lead 3 acc ((y : Int) :: L.drop (3 + 1)) = dec L by rw [← dl]; exact HD.out)
        clear dl ed HD
        have HD := HD2
        clear hP
        by_cases h2 : y < 128
        · have t1 : (y : Int).tmod 128 = (y : Int) := by rw [Int.tmod_eq_emod_of_nonneg (by omega)]; omega
          have t2 : (y : Int) % 128 = (y : Int) := by omega
          have h2i : (y : Int) < 128 := by omega
          have hw : acc + y * 2097152 ≤ 18446744073709551615 := by omega
          have hwi : (acc : Int) + (y : Int) * 2097152 ≤ 18446744073709551615 := by omega
          have hw2 : (y : Int) * 2097152 ≤ 18446744073709551615 := by omega
          by_cases h0 : y = 0
          · subst h0
            have ky0 : wr.cell? ⟨b, off + 3, none⟩ = some (.int .u8 0) := ky
            clear ky t1 t2 h2i
            go_wp2_with fail
            refine FL.out.mono ?_
            rintro e w2 ⟨rfl, st2, g2⟩
            have S2 := Lib.hid st2
            have G2 := Lib.hid g2
            clear st2 g2 FL
            go_wp2
            refine bodyPost_ret (results_tmp2 rfl _ _ _) rfl ?_
            obtain rfl : r = (0, 5, none) := by rw [← HRR.out]; exact uR_none (by rw [← HD.out]; exact lead_zero 3 acc (by omega))
            exact ⟨rfl, S2.out, G2.out⟩
          · have h0i : ¬ ((y : Int) = 0) := by omega
            by_cases hc : c = 4
            · have hci : (c : Int) = 4 := by omega
              have hnk : n = 4 := by omega
              subst hnk
              go_wp2
              refine bodyPost_ret (results_tmp2 rfl _ _ _) rfl ?_
              obtain rfl : r = (acc + y * 2097152, 0, some (L.drop (3 + 1))) := by rw [← HRR.out]; exact uR_some (by rw [← HD.out, lead_some 3 acc y (by omega) (by omega) (by omega), show (128 : Nat) ^ 3 = 2097152 by decide])
              exact ⟨by simp, st_drop1 H1.out HL.out HNE.out, grown_set _ _ _ _⟩
            · have hci : ¬ ((c : Int) = 4) := by omega
              have hcl : (4 : Int) ≤ (c : Int) := by omega
              go_wp2
              refine bodyPost_ret (results_tmp2 rfl _ _ _) rfl ?_
              obtain rfl : r = (acc + y * 2097152, 0, some (L.drop (3 + 1))) := by rw [← HRR.out]; exact uR_some (by rw [← HD.out, lead_some 3 acc y (by omega) (by omega) (by omega), show (128 : Nat) ^ 3 = 2097152 by decide])
              exact ⟨by simp, st_drop2 H1.out HS.out HL.out HNE.out (by omega), grown_set _ _ _ _⟩
        · obtain ⟨z, rfl⟩ : ∃ z, y = z + 128 := ⟨y - 128, by omega⟩
          have hz : z < 128 := by omega
          have t1 : ((z : Int) + 128).tmod 128 = (z : Int) := by rw [Int.tmod_eq_emod_of_nonneg (by omega)]; omega
          have t2 : ((z : Int) + 128) % 128 = (z : Int) := by omega
          rw [show ((z + 128 : Nat) : Int) = (z : Int) + 128 by omega] at ky
          have h2i : ¬ ((z : Int) + 128 < 128) := by omega
          have hdn := Lib.hid (show lead (3 + 1) (acc + z * 2097152) (L.drop (3 + 1)) = dec L by rw [← HD.out, lead_go 3 acc (z + 128) (by omega) (by omega), show (z + 128) % 128 = z by omega, show (128 : Nat) ^ 3 = 2097152 by decide])
          have hwi : (acc : Int) + (z : Int) * 2097152 ≤ 18446744073709551615 := by omega
          have hw2 : (z : Int) * 2097152 ≤ 18446744073709551615 := by omega
          have hlt2 := Lib.hid (show acc + z * 2097152 < 268435456 by omega)
          go_wp2
          go_roundw
          case rel => exact ⟨4, acc + z * 2097152, by omega, by omega, by go_num, by go_num, (by first | rfl | trivial), (by first | rfl | trivial), fun _ => by rw [show (128 : Nat) ^ 4 = 268435456 by decide]; exact hlt2.out, fun _ => hdn.out, fun h => by omega⟩
          case measure => first | (simp [intOf]; done) | (simp [intOf]; omega)
    · have hP : (128 : Nat) ^ 4 = 268435456 := by decide
      have hpl : pl 4 = 268435456 := by decide
      rw [hpl]
      clear hpl
      have HD := Lib.hid (hd9 (by omega))
      replace ha : acc < 268435456 := by rw [← hP]; exact ha (by omega)
      clear hd9 hd10
      by_cases hn : n = 4
      · have hge : ¬ ((4 : Int) < (n : Int)) := by omega
        have HN := Lib.hid hn
        clear hP
        go_wp2_with fail
        refine FL.out.mono ?_
        rintro e w2 ⟨rfl, st2, g2⟩
        have S2 := Lib.hid st2
        have G2 := Lib.hid g2
        clear st2 g2 FL
        go_wp2
        refine bodyPost_ret (results_tmp2 rfl _ _ _) rfl ?_
        obtain rfl : r = (0, 5, none) := by rw [← HRR.out]; exact uR_none (by rw [← HD.out]; rw [List.drop_of_length_le (by rw [HL.out, HN.out]; exact Nat.le_refl _)]; rfl)
        exact ⟨rfl, S2.out, G2.out⟩
      · have hlt : (4 : Int) < (n : Int) := by omega
        obtain ⟨b, off, ea, hb, hcs⟩ := HS.out.at (by omega)
        have HNE := Lib.hid (HNEQ.out b off ea (by omega))
        subst ea
        have ky := hcs 4 (by omega)
        have ed := Lib.hid (drop_cons (L := L) (k := 4) (by rw [HL.out]; omega))
        have hyy := HBY.out (L.getD 4 0) (getD_mem (by rw [HL.out]; omega))
        obtain ⟨y, hy⟩ : ∃ y : Nat, L.getD 4 0 = y := ⟨(L.getD 4 0).toNat, by omega⟩
        rw [hy] at ky ed hyy
        have hy256 : y < 256 := by omega
        have HB := Lib.hid hb
        have HCS := Lib.hid hcs
        clear hcs hyy hy hb hn
        have dl : (L.drop 4) = (y : Int) :: L.drop (4 + 1) := ed.out
        have HD2 := Lib.hid (show lead 4 acc ((y : Int) :: L.drop (4 + 1)) = dec L by rw [← dl]; exact HD.out)
        clear dl ed HD
        have HD := HD2
        clear hP
        by_cases h2 : y < 128
        · have t1 : (y : Int).tmod 128 = (y : Int) := by rw [Int.tmod_eq_emod_of_nonneg (by omega)]; omega
          have t2 : (y : Int) % 128 = (y : Int) := by omega
          have h2i : (y : Int) < 128 := by omega
          have hw : acc + y * 268435456 ≤ 18446744073709551615 := by omega
          have hwi : (acc : Int) + (y : Int) * 268435456 ≤ 18446744073709551615 := by omega
          have hw2 : (y : Int) * 268435456 ≤ 18446744073709551615 := by omega
          by_cases h0 : y = 0
          · subst h0
            have ky0 : wr.cell? ⟨b, off + 4, none⟩ = some (.int .u8 0) := ky
            clear ky t1 t2 h2i
            go_wp2_with fail
            refine FL.out.mono ?_
            rintro e w2 ⟨rfl, st2, g2⟩
            have S2 := Lib.hid st2
            have G2 := Lib.hid g2
            clear st2 g2 FL
            go_wp2
            refine bodyPost_ret (results_tmp2 rfl _ _ _) rfl ?_
            obtain rfl : r = (0, 5, none) := by rw [← HRR.out]; exact uR_none (by rw [← HD.out]; exact lead_zero 4 acc (by omega))
            exact ⟨rfl, S2.out, G2.out⟩
          · have h0i : ¬ ((y : Int) = 0) := by omega
            by_cases hc : c = 5
            · have hci : (c : Int) = 5 := by omega
              have hnk : n = 5 := by omega
              subst hnk
              go_wp2
              refine bodyPost_ret (results_tmp2 rfl _ _ _) rfl ?_
              obtain rfl : r = (acc + y * 268435456, 0, some (L.drop (4 + 1))) := by rw [← HRR.out]; exact uR_some (by rw [← HD.out, lead_some 4 acc y (by omega) (by omega) (by omega), show (128 : Nat) ^ 4 = 268435456 by decide])
              exact ⟨by simp, st_drop1 H1.out HL.out HNE.out, grown_set _ _ _ _⟩
            · have hci : ¬ ((c : Int) = 5) := by omega
              have hcl : (5 : Int) ≤ (c : Int) := by omega
              go_wp2
              refine bodyPost_ret (results_tmp2 rfl _ _ _) rfl ?_
              obtain rfl : r = (acc + y * 268435456, 0, some (L.drop (4 + 1))) := by rw [← HRR.out]; exact uR_some (by rw [← HD.out, lead_some 4 acc y (by omega) (by omega) (by omega), show (128 : Nat) ^ 4 = 268435456 by decide])
              exact ⟨by simp, st_drop2 H1.out HS.out HL.out HNE.out (by omega), grown_set _ _ _ _⟩
        · obtain ⟨z, rfl⟩ : ∃ z, y = z + 128 := ⟨y - 128, by omega⟩
          have hz : z < 128 := by omega
          have t1 : ((z : Int) + 128).tmod 128 = (z : Int) := by rw [Int.tmod_eq_emod_of_nonneg (by omega)]; omega
          have t2 : ((z : Int) + 128) % 128 = (z : Int) := by omega
          rw [show ((z + 128 : Nat) : Int) = (z : Int) + 128 by omega] at ky
          have h2i : ¬ ((z : Int) + 128 < 128) := by omega
          have hdn := Lib.hid (show lead (4 + 1) (acc + z * 268435456) (L.drop (4 + 1)) = dec L by rw [← HD.out, lead_go 4 acc (z + 128) (by omega) (by omega), show (z + 128) % 128 = z by omega, show (128 : Nat) ^ 4 = 268435456 by decide])
          have hwi : (acc : Int) + (z : Int) * 268435456 ≤ 18446744073709551615 := by omega
          have hw2 : (z : Int) * 268435456 ≤ 18446744073709551615 := by omega
          have hlt2 := Lib.hid (show acc + z * 268435456 < 34359738368 by omega)
          go_wp2
          go_roundw
          case rel => exact ⟨5, acc + z * 268435456, by omega, by omega, by go_num, by go_num, (by first | rfl | trivial), (by first | rfl | trivial), fun _ => by rw [show (128 : Nat) ^ 5 = 34359738368 by decide]; exact hlt2.out, fun _ => hdn.out, fun h => by omega⟩
          case measure => first | (simp [intOf]; done) | (simp [intOf]; omega)
    · have hP : (128 : Nat) ^ 5 = 34359738368 := by decide
      have hpl : pl 5 = 34359738368 := by decide
      rw [hpl]
      clear hpl
      have HD := Lib.hid (hd9 (by omega))
      replace ha : acc < 34359738368 := by rw [← hP]; exact ha (by omega)
      clear hd9 hd10
      by_cases hn : n = 5
      · have hge : ¬ ((5 : Int) < (n : Int)) := by omega
        have HN := Lib.hid hn
        clear hP
        go_wp2_with fail
        refine FL.out.mono ?_
        rintro e w2 ⟨rfl, st2, g2⟩
        have S2 := Lib.hid st2
        have G2 := Lib.hid g2
        clear st2 g2 FL
        go_wp2
        refine bodyPost_ret (results_tmp2 rfl _ _ _) rfl ?_
        obtain rfl : r = (0, 5, none) := by rw [← HRR.out]; exact uR_none (by rw [← HD.out]; rw [List.drop_of_length_le (by rw [HL.out, HN.out]; exact Nat.le_refl _)]; rfl)
        exact ⟨rfl, S2.out, G2.out⟩
      · have hlt : (5 : Int) < (n : Int) := by omega
        obtain ⟨b, off, ea, hb, hcs⟩ := HS.out.at (by omega)
        have HNE := Lib.hid (HNEQ.out b off ea (by omega))
        subst ea
        have ky := hcs 5 (by omega)
        have ed := Lib.hid (drop_cons (L := L) (k := 5) (by rw [HL.out]; omega))
        have hyy := HBY.out (L.getD 5 0) (getD_mem (by rw [HL.out]; omega))
        obtain ⟨y, hy⟩ : ∃ y : Nat, L.getD 5 0 = y := ⟨(L.getD 5 0).toNat, by omega⟩
        rw [hy] at ky ed hyy
        have hy256 : y < 256 := by omega
        have HB := Lib.hid hb
        have HCS := Lib.hid hcs
        clear hcs hyy hy hb hn
        have dl : (L.drop 5) = (y : Int) :: L.drop (5 + 1) := ed.out
        have HD2 := Lib.hid (show lead 5 acc ((y : Int) :: L.drop (5 + 1)) = dec L by rw [← dl]; exact HD.out)
        clear dl ed HD
        have HD := HD2
        clear hP
        by_cases h2 : y < 128
        · have t1 : (y : Int).tmod 128 = (y : Int) := by rw [Int.tmod_eq_emod_of_nonneg (by omega)]; omega
          have t2 : (y : Int) % 128 = (y : Int) := by omega
          have h2i : (y : Int) < 128 := by omega
          have hw : acc + y * 34359738368 ≤ 18446744073709551615 := by omega
          have hwi : (acc : Int) + (y : Int) * 34359738368 ≤ 18446744073709551615 := by omega
          have hw2 : (y : Int) * 34359738368 ≤ 18446744073709551615 := by omega
          by_cases h0 : y = 0
          · subst h0
            have ky0 : wr.cell? ⟨b, off + 5, none⟩ = some (.int .u8 0) := ky
            clear ky t1 t2 h2i
            go_wp2_with fail
            refine FL.out.mono ?_
            rintro e w2 ⟨rfl, st2, g2⟩
            have S2 := Lib.hid st2
            have G2 := Lib.hid g2
            clear st2 g2 FL
            go_wp2
            refine bodyPost_ret (results_tmp2 rfl _ _ _) rfl ?_
            obtain rfl : r = (0, 5, none) := by rw [← HRR.out]; exact uR_none (by rw [← HD.out]; exact lead_zero 5 acc (by omega))
            exact ⟨rfl, S2.out, G2.out⟩
          · have h0i : ¬ ((y : Int) = 0) := by omega
            by_cases hc : c = 6
            · have hci : (c : Int) = 6 := by omega
              have hnk : n = 6 := by omega
              subst hnk
              go_wp2
              refine bodyPost_ret (results_tmp2 rfl _ _ _) rfl ?_
              obtain rfl : r = (acc + y * 34359738368, 0, some (L.drop (5 + 1))) := by rw [← HRR.out]; exact uR_some (by rw [← HD.out, lead_some 5 acc y (by omega) (by omega) (by omega), show (128 : Nat) ^ 5 = 34359738368 by decide])
              exact ⟨by simp, st_drop1 H1.out HL.out HNE.out, grown_set _ _ _ _⟩
            · have hci : ¬ ((c : Int) = 6) := by omega
              have hcl : (6 : Int) ≤ (c : Int) := by omega
              go_wp2
              refine bodyPost_ret (results_tmp2 rfl _ _ _) rfl ?_
              obtain rfl : r = (acc + y * 34359738368, 0, some (L.drop (5 + 1))) := by rw [← HRR.out]; exact uR_some (by rw [← HD.out, lead_some 5 acc y (by omega) (by omega) (by omega), show (128 : Nat) ^ 5 = 34359738368 by decide])
              exact ⟨by simp, st_drop2 H1.out HS.out HL.out HNE.out (by omega), grown_set _ _ _ _⟩
        · obtain ⟨z, rfl⟩ : ∃ z, y = z + 128 := ⟨y - 128, by omega⟩
          have hz : z < 128 := by omega
          have t1 : ((z : Int) + 128).tmod 128 = (z : Int) := by rw [Int.tmod_eq_emod_of_nonneg (by omega)]; omega
          have t2 : ((z : Int) + 128) % 128 = (z : Int) := by omega
          rw [show ((z + 128 : Nat) : Int) = (z : Int) + 128 by omega] at ky
          have h2i : ¬ ((z : Int) + 128 < 128) := by omega
          have hdn := Lib.hid (show lead (5 + 1) (acc + z * 34359738368) (L.drop (5 + 1)) = dec L by rw [← HD.out, lead_go 5 acc (z + 128) (by omega) (by omega), show (z + 128) % 128 = z by omega, show (128 : Nat) ^ 5 = 34359738368 by decide])
          have hwi : (acc : Int) + (z : Int) * 34359738368 ≤ 18446744073709551615 := by omega
          have hw2 : (z : Int) * 34359738368 ≤ 18446744073709551615 := by omega
          have hlt2 := Lib.hid (show acc + z * 34359738368 < 4398046511104 by omega)
          go_wp2
          go_roundw
          case rel => exact ⟨6, acc + z * 34359738368, by omega, by omega, by go_num, by go_num, (by first | rfl | trivial), (by first | rfl | trivial), fun _ => by rw [show (128 : Nat) ^ 6 = 4398046511104 by decide]; exact hlt2.out, fun _ => hdn.out, fun h => by omega⟩
          case measure => first | (simp [intOf]; done) | (simp [intOf]; omega)
    · have hP : (128 : Nat) ^ 6 = 4398046511104 := by decide
      have hpl : pl 6 = 4398046511104 := by decide
      rw [hpl]
      clear hpl
      have HD := Lib.hid (hd9 (by omega))
      replace ha : acc < 4398046511104 := by rw [← hP]; exact ha (by omega)
      clear hd9 hd10
      by_cases hn : n = 6
      · have hge : ¬ ((6 : Int) < (n : Int)) := by omega
        have HN := Lib.hid hn
        clear hP
        go_wp2_with fail
        refine FL.out.mono ?_
        rintro e w2 ⟨rfl, st2, g2⟩
        have S2 := Lib.hid st2
        have G2 := Lib.hid g2
        clear st2 g2 FL
        go_wp2
        refine bodyPost_ret (results_tmp2 rfl _ _ _) rfl ?_
        obtain rfl : r = (0, 5, none) := by rw [← HRR.out]; exact uR_none (by rw [← HD.out]; rw [List.drop_of_length_le (by rw [HL.out, HN.out]; exact Nat.le_refl _)]; rfl)
        exact ⟨rfl, S2.out, G2.out⟩
      · have hlt : (6 : Int) < (n : Int) := by omega
        obtain ⟨b, off, ea, hb, hcs⟩ := HS.out.at (by omega)
        have HNE := Lib.hid (HNEQ.out b off ea (by omega))
        subst ea
        have ky := hcs 6 (by omega)
        have ed := Lib.hid (drop_cons (L := L) (k := 6) (by rw [HL.out]; omega))
        have hyy := HBY.out (L.getD 6 0) (getD_mem (by rw [HL.out]; omega))
        obtain ⟨y, hy⟩ : ∃ y : Nat, L.getD 6 0 = y := ⟨(L.getD 6 0).toNat, by omega⟩
        rw [hy] at ky ed hyy
        have hy256 : y < 256 := by omega
        have HB := Lib.hid hb
        have HCS := Lib.hid hcs
        clear hcs hyy hy hb hn
        have dl : (L.drop 6) = (y : Int) :: L.drop (6 + 1) := ed.out
        have HD2 := Lib.hid (show lead 6 acc ((y : Int) :: L.drop (6 + 1)) = dec L by rw [← dl]; exact HD.out)
        clear dl ed HD
        have HD := HD2
        clear hP
        by_cases h2 : y < 128
        · have t1 : (y : Int).tmod 128 = (y : Int) := by rw [Int.tmod_eq_emod_of_nonneg (by omega)]; omega
          have t2 : (y : Int) % 128 = (y : Int) := by omega
          have h2i : (y : Int) < 128 := by omega
          have hw : acc + y * 4398046511104 ≤ 18446744073709551615 := by omega
          have hwi : (acc : Int) + (y : Int) * 4398046511104 ≤ 18446744073709551615 := by omega
          have hw2 : (y : Int) * 4398046511104 ≤ 18446744073709551615 := by omega
          by_cases h0 : y = 0
          · subst h0
            have ky0 : wr.cell? ⟨b, off + 6, none⟩ = some (.int .u8 0) := ky
            clear ky t1 t2 h2i
            go_wp2_with fail
            refine FL.out.mono ?_
            rintro e w2 ⟨rfl, st2, g2⟩
            have S2 := Lib.hid st2
            have G2 := Lib.hid g2
            clear st2 g2 FL
            go_wp2
            refine bodyPost_ret (results_tmp2 rfl _ _ _) rfl ?_
            obtain rfl : r = (0, 5, none) := by rw [← HRR.out]; exact uR_none (by rw [← HD.out]; exact lead_zero 6 acc (by omega))
            exact ⟨rfl, S2.out, G2.out⟩
          · have h0i : ¬ ((y : Int) = 0) := by omega
            by_cases hc : c = 7
            · have hci : (c : Int) = 7 := by omega
              have hnk : n = 7 := by omega
              subst hnk
              go_wp2
              refine bodyPost_ret (results_tmp2 rfl _ _ _) rfl ?_
              obtain rfl : r = (acc + y * 4398046511104, 0, some (L.drop (6 + 1))) := by rw [← HRR.out]; exact uR_some (by rw [← HD.out, lead_some 6 acc y (by omega) (by omega) (by omega), show (128 : Nat) ^ 6 = 4398046511104 by decide])
              exact ⟨by simp, st_drop1 H1.out HL.out HNE.out, grown_set _ _ _ _⟩
            · have hci : ¬ ((c : Int) = 7) := by omega
              have hcl : (7 : Int) ≤ (c : Int) := by omega
              go_wp2
              refine bodyPost_ret (results_tmp2 rfl _ _ _) rfl ?_
              obtain rfl : r = (acc + y * 4398046511104, 0, some (L.drop (6 + 1))) := by rw [← HRR.out]; exact uR_some (by rw [← HD.out, lead_some 6 acc y (by omega) (by omega) (by omega), show (128 : Nat) ^ 6 = 4398046511104 by decide])
              exact ⟨by simp, st_drop2 H1.out HS.out HL.out HNE.out (by omega), grown_set _ _ _ _⟩
        · obtain ⟨z, rfl⟩ : ∃ z, y = z + 128 := ⟨y - 128, by omega⟩
          have hz : z < 128 := by omega
          have t1 : ((z : Int) + 128).tmod 128 = (z : Int) := by rw [Int.tmod_eq_emod_of_nonneg (by omega)]; omega
          have t2 : ((z : Int) + 128) % 128 = (z : Int) := by omega
          rw [show ((z + 128 : Nat) : Int) = (z : Int) + 128 by omega] at ky
          have h2i : ¬ ((z : Int) + 128 < 128) := by omega
          have hdn := Lib.hid (show lead (6 + 1) (acc + z * 4398046511104) (L.drop (6 + 1)) = dec L by rw [← HD.out, lead_go 6 acc (z + 128) (by omega) (by omega), show (z + 128) % 128 = z by omega, show (128 : Nat) ^ 6 = 4398046511104 by decide])
          have hwi : (acc : Int) + (z : Int) * 4398046511104 ≤ 18446744073709551615 := by omega
          have hw2 : (z : Int) * 4398046511104 ≤ 18446744073709551615 := by omega
          have hlt2 := Lib.hid (show acc + z * 4398046511104 < 562949953421312 by omega)
          go_wp2
          go_roundw
          case rel => exact ⟨7, acc + z * 4398046511104, by omega, by omega, by go_num, by go_num, (by first | rfl | trivial), (by first | rfl | trivial), fun _ => by rw [show (128 : Nat) ^ 7 = 562949953421312 by decide]; exact hlt2.out, fun _ => hdn.out, fun h => by omega⟩
          case measure => first | (simp [intOf]; done) | (simp [intOf]; omega)
    · have hP : (128 : Nat) ^ 7 = 562949953421312 := by decide
      have hpl : pl 7 = 562949953421312 := by decide
      rw [hpl]
      clear hpl
      have HD := Lib.hid (hd9 (by omega))
      replace ha : acc < 562949953421312 := by rw [← hP]; exact ha (by omega)
      clear hd9 hd10
      by_cases hn : n = 7
      · have hge : ¬ ((7 : Int) < (n : Int)) := by omega
        have HN := Lib.hid hn
        clear hP
        go_wp2_with fail
        refine FL.out.mono ?_
        rintro e w2 ⟨rfl, st2, g2⟩
        have S2 := Lib.hid st2
        have G2 := Lib.hid g2
        clear st2 g2 FL
        go_wp2
        refine bodyPost_ret (results_tmp2 rfl _ _ _) rfl ?_
        obtain rfl : r = (0, 5, none) := by rw [← HRR.out]; exact uR_none (by rw [← HD.out]; rw [List.drop_of_length_le (by rw [HL.out, HN.out]; exact Nat.le_refl _)]; rfl)
        exact ⟨rfl, S2.out, G2.out⟩
      · have hlt : (7 : Int) < (n : Int) := by omega
        obtain ⟨b, off, ea, hb, hcs⟩ := HS.out.at (by omega)
        have HNE := Lib.hid (HNEQ.out b off ea (by omega))
        subst ea
        have ky := hcs 7 (by omega)
        have ed := Lib.hid (drop_cons (L := L) (k := 7) (by rw [HL.out]; omega))
        have hyy := HBY.out (L.getD 7 0) (getD_mem (by rw [HL.out]; omega))
        obtain ⟨y, hy⟩ : ∃ y : Nat, L.getD 7 0 = y := ⟨(L.getD 7 0).toNat, by omega⟩
        rw [hy] at ky ed hyy
        have hy256 : y < 256 := by omega
        have HB := Lib.hid hb
        have HCS := Lib.hid hcs
        clear hcs hyy hy hb hn
        have dl : (L.drop 7) = (y : Int) :: L.drop (7 + 1) := ed.out
        have HD2 := Lib.hid (show lead 7 acc ((y : Int) :: L.drop (7 + 1)) = dec L by rw [← dl]; exact HD.out)
        clear dl ed HD
        have HD := HD2
        clear hP
        by_cases h2 : y < 128
        · have t1 : (y : Int).tmod 128 = (y : Int) := by rw [Int.tmod_eq_emod_of_nonneg (by omega)]; omega
          have t2 : (y : Int) % 128 = (y : Int) := by omega
          have h2i : (y : Int) < 128 := by omega
          have hw : acc + y * 562949953421312 ≤ 18446744073709551615 := by omega
          have hwi : (acc : Int) + (y : Int) * 562949953421312 ≤ 18446744073709551615 := by omega
          have hw2 : (y : Int) * 562949953421312 ≤ 18446744073709551615 := by omega
          by_cases h0 : y = 0
          · subst h0
            have ky0 : wr.cell? ⟨b, off + 7, none⟩ = some (.int .u8 0) := ky
            clear ky t1 t2 h2i
            go_wp2_with fail
            refine FL.out.mono ?_
            rintro e w2 ⟨rfl, st2, g2⟩
            have S2 := Lib.hid st2
            have G2 := Lib.hid g2
            clear st2 g2 FL
            go_wp2
            refine bodyPost_ret (results_tmp2 rfl _ _ _) rfl ?_
            obtain rfl : r = (0, 5, none) := by rw [← HRR.out]; exact uR_none (by rw [← HD.out]; exact lead_zero 7 acc (by omega))
            exact ⟨rfl, S2.out, G2.out⟩
          · have h0i : ¬ ((y : Int) = 0) := by omega
            by_cases hc : c = 8
            · have hci : (c : Int) = 8 := by omega
              have hnk : n = 8 := by omega
              subst hnk
              go_wp2
              refine bodyPost_ret (results_tmp2 rfl _ _ _) rfl ?_
              obtain rfl : r = (acc + y * 562949953421312, 0, some (L.drop (7 + 1))) := by rw [← HRR.out]; exact uR_some (by rw [← HD.out, lead_some 7 acc y (by omega) (by omega) (by omega), show (128 : Nat) ^ 7 = 562949953421312 by decide])
              exact ⟨by simp, st_drop1 H1.out HL.out HNE.out, grown_set _ _ _ _⟩
            · have hci : ¬ ((c : Int) = 8) := by omega
              have hcl : (8 : Int) ≤ (c : Int) := by omega
              go_wp2
              refine bodyPost_ret (results_tmp2 rfl _ _ _) rfl ?_
              obtain rfl : r = (acc + y * 562949953421312, 0, some (L.drop (7 + 1))) := by rw [← HRR.out]; exact uR_some (by rw [← HD.out, lead_some 7 acc y (by omega) (by omega) (by omega), show (128 : Nat) ^ 7 = 562949953421312 by decide])
              exact ⟨by simp, st_drop2 H1.out HS.out HL.out HNE.out (by omega), grown_set _ _ _ _⟩
        · obtain ⟨z, rfl⟩ : ∃ z, y = z + 128 := ⟨y - 128, by omega⟩
          have hz : z < 128 := by omega
          have t1 : ((z : Int) + 128).tmod 128 = (z : Int) := by rw [Int.tmod_eq_emod_of_nonneg (by omega)]; omega
          have t2 : ((z : Int) + 128) % 128 = (z : Int) := by omega
          rw [show ((z + 128 : Nat) : Int) = (z : Int) + 128 by omega] at ky
          have h2i : ¬ ((z : Int) + 128 < 128) := by omega
          have hdn := Lib.hid (show lead (7 + 1) (acc + z * 562949953421312) (L.drop (7 + 1)) = dec L by rw [← HD.out, lead_go 7 acc (z + 128) (by omega) (by omega), show (z + 128) % 128 = z by omega, show (128 : Nat) ^ 7 = 562949953421312 by decide])
          have hwi : (acc : Int) + (z : Int) * 562949953421312 ≤ 18446744073709551615 := by omega
          have hw2 : (z : Int) * 562949953421312 ≤ 18446744073709551615 := by omega
          have hlt2 := Lib.hid (show acc + z * 562949953421312 < 72057594037927936 by omega)
          go_wp2
          go_roundw
          case rel => exact ⟨8, acc + z * 562949953421312, by omega, by omega, by go_num, by go_num, (by first | rfl | trivial), (by first | rfl | trivial), fun _ => by rw [show (128 : Nat) ^ 8 = 72057594037927936 by decide]; exact hlt2.out, fun _ => hdn.out, fun h => by omega⟩
          case measure => first | (simp [intOf]; done) | (simp [intOf]; omega)
    · have hP : (128 : Nat) ^ 8 = 72057594037927936 := by decide
      have hpl : pl 8 = 72057594037927936 := by decide
      rw [hpl]
      clear hpl
      have HD := Lib.hid (hd9 (by omega))
      replace ha : acc < 72057594037927936 := by rw [← hP]; exact ha (by omega)
      clear hd9 hd10
      by_cases hn : n = 8
      · have hge : ¬ ((8 : Int) < (n : Int)) := by omega
        have HN := Lib.hid hn
        clear hP
        go_wp2_with fail
        refine FL.out.mono ?_
        rintro e w2 ⟨rfl, st2, g2⟩
        have S2 := Lib.hid st2
        have G2 := Lib.hid g2
        clear st2 g2 FL
        go_wp2
        refine bodyPost_ret (results_tmp2 rfl _ _ _) rfl ?_
        obtain rfl : r = (0, 5, none) := by rw [← HRR.out]; exact uR_none (by rw [← HD.out]; rw [List.drop_of_length_le (by rw [HL.out, HN.out]; exact Nat.le_refl _)]; rfl)
        exact ⟨rfl, S2.out, G2.out⟩
      · have hlt : (8 : Int) < (n : Int) := by omega
        obtain ⟨b, off, ea, hb, hcs⟩ := HS.out.at (by omega)
        have HNE := Lib.hid (HNEQ.out b off ea (by omega))
        subst ea
        have ky := hcs 8 (by omega)
        have ed := Lib.hid (drop_cons (L := L) (k := 8) (by rw [HL.out]; omega))
        have hyy := HBY.out (L.getD 8 0) (getD_mem (by rw [HL.out]; omega))
        obtain ⟨y, hy⟩ : ∃ y : Nat, L.getD 8 0 = y := ⟨(L.getD 8 0).toNat, by omega⟩
        rw [hy] at ky ed hyy
        have hy256 : y < 256 := by omega
        have HB := Lib.hid hb
        have HCS := Lib.hid hcs
        clear hcs hyy hy hb hn
        have dl : (L.drop 8) = (y : Int) :: L.drop (8 + 1) := ed.out
        have HD2 := Lib.hid (show lead 8 acc ((y : Int) :: L.drop (8 + 1)) = dec L by rw [← dl]; exact HD.out)
        clear dl ed HD
        have HD := HD2
        clear hP
        by_cases h2 : y < 128
        · have t1 : (y : Int).tmod 128 = (y : Int) := by rw [Int.tmod_eq_emod_of_nonneg (by omega)]; omega
          have t2 : (y : Int) % 128 = (y : Int) := by omega
          have h2i : (y : Int) < 128 := by omega
          have hw : acc + y * 72057594037927936 ≤ 18446744073709551615 := by omega
          have hwi : (acc : Int) + (y : Int) * 72057594037927936 ≤ 18446744073709551615 := by omega
          have hw2 : (y : Int) * 72057594037927936 ≤ 18446744073709551615 := by omega
          by_cases h0 : y = 0
          · subst h0
            have ky0 : wr.cell? ⟨b, off + 8, none⟩ = some (.int .u8 0) := ky
            clear ky t1 t2 h2i
            go_wp2_with fail
            refine FL.out.mono ?_
            rintro e w2 ⟨rfl, st2, g2⟩
            have S2 := Lib.hid st2
            have G2 := Lib.hid g2
            clear st2 g2 FL
            go_wp2
            refine bodyPost_ret (results_tmp2 rfl _ _ _) rfl ?_
            obtain rfl : r = (0, 5, none) := by rw [← HRR.out]; exact uR_none (by rw [← HD.out]; exact lead_zero 8 acc (by omega))
            exact ⟨rfl, S2.out, G2.out⟩
          · have h0i : ¬ ((y : Int) = 0) := by omega
            by_cases hc : c = 9
            · have hci : (c : Int) = 9 := by omega
              have hnk : n = 9 := by omega
              subst hnk
              go_wp2
              refine bodyPost_ret (results_tmp2 rfl _ _ _) rfl ?_
              obtain rfl : r = (acc + y * 72057594037927936, 0, some (L.drop (8 + 1))) := by rw [← HRR.out]; exact uR_some (by rw [← HD.out, lead_some 8 acc y (by omega) (by omega) (by omega), show (128 : Nat) ^ 8 = 72057594037927936 by decide])
              exact ⟨by simp, st_drop1 H1.out HL.out HNE.out, grown_set _ _ _ _⟩
            · have hci : ¬ ((c : Int) = 9) := by omega
              have hcl : (9 : Int) ≤ (c : Int) := by omega
              go_wp2
              refine bodyPost_ret (results_tmp2 rfl _ _ _) rfl ?_
              obtain rfl : r = (acc + y * 72057594037927936, 0, some (L.drop (8 + 1))) := by rw [← HRR.out]; exact uR_some (by rw [← HD.out, lead_some 8 acc y (by omega) (by omega) (by omega), show (128 : Nat) ^ 8 = 72057594037927936 by decide])
              exact ⟨by simp, st_drop2 H1.out HS.out HL.out HNE.out (by omega), grown_set _ _ _ _⟩
        · obtain ⟨z, rfl⟩ : ∃ z, y = z + 128 := ⟨y - 128, by omega⟩
          have hz : z < 128 := by omega
          have t1 : ((z : Int) + 128).tmod 128 = (z : Int) := by rw [Int.tmod_eq_emod_of_nonneg (by omega)]; omega
          have t2 : ((z : Int) + 128) % 128 = (z : Int) := by omega
          rw [show ((z + 128 : Nat) : Int) = (z : Int) + 128 by omega] at ky
          have h2i : ¬ ((z : Int) + 128 < 128) := by omega
          have hdn := Lib.hid (show lead (8 + 1) (acc + z * 72057594037927936) (L.drop (8 + 1)) = dec L by rw [← HD.out, lead_go 8 acc (z + 128) (by omega) (by omega), show (z + 128) % 128 = z by omega, show (128 : Nat) ^ 8 = 72057594037927936 by decide])
          have hwi : (acc : Int) + (z : Int) * 72057594037927936 ≤ 18446744073709551615 := by omega
          have hw2 : (z : Int) * 72057594037927936 ≤ 18446744073709551615 := by omega
          have hlt2 := Lib.hid (show acc + z * 72057594037927936 < 9223372036854775808 by omega)
          go_wp2
          go_roundw
          case rel => exact ⟨9, acc + z * 72057594037927936, by omega, by omega, by go_num, by go_num, (by first | rfl | trivial), (by first | rfl | trivial), fun _ => by rw [show (128 : Nat) ^ 9 = 9223372036854775808 by decide]; exact hlt2.out, fun _ => hdn.out, fun h => by omega⟩
          case measure => first | (simp [intOf]; done) | (simp [intOf]; omega)
    · have hP : (128 : Nat) ^ 9 = 9223372036854775808 := by decide
      have hpl : pl 9 = 9223372036854775808 := by decide
      rw [hpl]
      clear hpl
      have HD := Lib.hid (hd9 (by omega))
      replace ha : acc < 9223372036854775808 := by rw [← hP]; exact ha (by omega)
      clear hd9 hd10
      by_cases hn : n = 9
      · have hge : ¬ ((9 : Int) < (n : Int)) := by omega
        have HN := Lib.hid hn
        clear hP
        go_wp2_with fail
        refine FL.out.mono ?_
        rintro e w2 ⟨rfl, st2, g2⟩
        have S2 := Lib.hid st2
        have G2 := Lib.hid g2
        clear st2 g2 FL
        go_wp2
        refine bodyPost_ret (results_tmp2 rfl _ _ _) rfl ?_
        obtain rfl : r = (0, 5, none) := by rw [← HRR.out]; exact uR_none (by rw [← HD.out]; rw [List.drop_of_length_le (by rw [HL.out, HN.out]; exact Nat.le_refl _)]; rfl)
        exact ⟨rfl, S2.out, G2.out⟩
      · have hlt : (9 : Int) < (n : Int) := by omega
        obtain ⟨b, off, ea, hb, hcs⟩ := HS.out.at (by omega)
        have HNE := Lib.hid (HNEQ.out b off ea (by omega))
        subst ea
        have ky := hcs 9 (by omega)
        have ed := Lib.hid (drop_cons (L := L) (k := 9) (by rw [HL.out]; omega))
        have hyy := HBY.out (L.getD 9 0) (getD_mem (by rw [HL.out]; omega))
        obtain ⟨y, hy⟩ : ∃ y : Nat, L.getD 9 0 = y := ⟨(L.getD 9 0).toNat, by omega⟩
        rw [hy] at ky ed hyy
        have hy256 : y < 256 := by omega
        have HB := Lib.hid hb
        have HCS := Lib.hid hcs
        clear hcs hyy hy hb hn
        have dl : (L.drop 9) = (y : Int) :: L.drop (9 + 1) := ed.out
        have HD2 := Lib.hid (show lead 9 acc ((y : Int) :: L.drop (9 + 1)) = dec L by rw [← dl]; exact HD.out)
        clear dl ed HD
        have HD := HD2
        clear hP
        by_cases h2 : y < 128
        · have t1 : (y : Int).tmod 128 = (y : Int) := by rw [Int.tmod_eq_emod_of_nonneg (by omega)]; omega
          have t2 : (y : Int) % 128 = (y : Int) := by omega
          have h2i : (y : Int) < 128 := by omega
          by_cases h1 : 1 < y
          · have h1i : (1 : Int) < (y : Int) := by omega
            go_wp2_with fail
            refine FL.out.mono ?_
            rintro e w2 ⟨rfl, st2, g2⟩
            have S2 := Lib.hid st2
            have G2 := Lib.hid g2
            clear st2 g2 FL
            go_wp2
            refine bodyPost_ret (results_tmp2 rfl _ _ _) rfl ?_
            obtain rfl : r = (0, 5, none) := by rw [← HRR.out]; exact uR_none (by rw [← HD.out]; exact lead_none9 acc h1)
            exact ⟨rfl, S2.out, G2.out⟩
          · have h1i : ¬ ((1 : Int) < (y : Int)) := by omega
            have hw : acc + y * 9223372036854775808 ≤ 18446744073709551615 := by omega
            have hwi : (acc : Int) + (y : Int) * 9223372036854775808 ≤ 18446744073709551615 := by omega
            have hw2 : (y : Int) * 9223372036854775808 ≤ 18446744073709551615 := by omega
            by_cases h0 : y = 0
            · subst h0
              have ky0 : wr.cell? ⟨b, off + 9, none⟩ = some (.int .u8 0) := ky
              clear ky t1 t2 h2i
              go_wp2_with fail
              refine FL.out.mono ?_
              rintro e w2 ⟨rfl, st2, g2⟩
              have S2 := Lib.hid st2
              have G2 := Lib.hid g2
              clear st2 g2 FL
              go_wp2
              refine bodyPost_ret (results_tmp2 rfl _ _ _) rfl ?_
              obtain rfl : r = (0, 5, none) := by rw [← HRR.out]; exact uR_none (by rw [← HD.out]; exact lead_zero 9 acc (by omega))
              exact ⟨rfl, S2.out, G2.out⟩
            · have h0i : ¬ ((y : Int) = 0) := by omega
              by_cases hc : c = 10
              · have hci : (c : Int) = 10 := by omega
                have hnk : n = 10 := by omega
                subst hnk
                go_wp2
                refine bodyPost_ret (results_tmp2 rfl _ _ _) rfl ?_
                obtain rfl : r = (acc + y * 9223372036854775808, 0, some (L.drop (9 + 1))) := by rw [← HRR.out]; exact uR_some (by rw [← HD.out, lead_some 9 acc y (by omega) (by omega) (by omega), show (128 : Nat) ^ 9 = 9223372036854775808 by decide])
                exact ⟨by simp, st_drop1 H1.out HL.out HNE.out, grown_set _ _ _ _⟩
              · have hci : ¬ ((c : Int) = 10) := by omega
                have hcl : (10 : Int) ≤ (c : Int) := by omega
                go_wp2
                refine bodyPost_ret (results_tmp2 rfl _ _ _) rfl ?_
                obtain rfl : r = (acc + y * 9223372036854775808, 0, some (L.drop (9 + 1))) := by rw [← HRR.out]; exact uR_some (by rw [← HD.out, lead_some 9 acc y (by omega) (by omega) (by omega), show (128 : Nat) ^ 9 = 9223372036854775808 by decide])
                exact ⟨by simp, st_drop2 H1.out HS.out HL.out HNE.out (by omega), grown_set _ _ _ _⟩
        · obtain ⟨z, rfl⟩ : ∃ z, y = z + 128 := ⟨y - 128, by omega⟩
          have hz : z < 128 := by omega
          have t1 : ((z : Int) + 128).tmod 128 = (z : Int) := by rw [Int.tmod_eq_emod_of_nonneg (by omega)]; omega
          have t2 : ((z : Int) + 128) % 128 = (z : Int) := by omega
          rw [show ((z + 128 : Nat) : Int) = (z : Int) + 128 by omega] at ky
          have h2i : ¬ ((z : Int) + 128 < 128) := by omega
          have hdn := Lib.hid (show dec L = none by rw [← HD.out]; exact lead_none9 acc (by omega))
          by_cases h1 : 1 < z
          · have h1i : (1 : Int) < (z : Int) := by omega
            go_wp2_with fail
            refine FL.out.mono ?_
            rintro e w2 ⟨rfl, st2, g2⟩
            have S2 := Lib.hid st2
            have G2 := Lib.hid g2
            clear st2 g2 FL
            go_wp2
            refine bodyPost_ret (results_tmp2 rfl _ _ _) rfl ?_
            obtain rfl : r = (0, 5, none) := by rw [← HRR.out]; exact uR_none hdn.out
            exact ⟨rfl, S2.out, G2.out⟩
          · have h1i : ¬ ((1 : Int) < (z : Int)) := by omega
            have hwi : (acc : Int) + (z : Int) * 9223372036854775808 ≤ 18446744073709551615 := by omega
            have hw2 : (z : Int) * 9223372036854775808 ≤ 18446744073709551615 := by omega
            go_wp2
            go_roundw
            case rel => exact ⟨10, acc + z * 9223372036854775808, by omega, by omega, by go_num, by go_num, (by first | rfl | trivial), (by first | rfl | trivial), fun h => by omega, fun h => by omega, fun _ => hdn.out⟩
            case measure => first | (simp [intOf]; done) | (simp [intOf]; omega)
    · have hP : (128 : Nat) ^ 10 = 1180591620717411303424 := by decide
      have hpl : pl 10 = 0 := by decide
      rw [hpl]
      clear hpl
      have HD := Lib.hid (show (none : Option (Nat × List Int)) = dec L from (hd10 rfl).symm)
      clear hd9 hd10 ha hP
      by_cases hn : n = 10
      · subst hn
        go_wp2_with fail
        refine FL.out.mono ?_
        rintro e w2 ⟨rfl, st2, g2⟩
        have S2 := Lib.hid st2
        have G2 := Lib.hid g2
        clear st2 g2 FL
        go_wp2
        refine bodyPost_ret (results_tmp2 rfl _ _ _) rfl ?_
        obtain rfl : r = (0, 5, none) := by rw [← HRR.out]; exact uR_none HD.out.symm
        exact ⟨rfl, S2.out, G2.out⟩
      · have hlt : (10 : Int) < (n : Int) := by omega
        go_wp2_with fail
        refine FL.out.mono ?_
        rintro e w2 ⟨rfl, st2, g2⟩
        have S2 := Lib.hid st2
        have G2 := Lib.hid g2
        clear st2 g2 FL
        go_wp2
        refine bodyPost_ret (results_tmp2 rfl _ _ _) rfl ?_
        obtain rfl : r = (0, 5, none) := by rw [← HRR.out]; exact uR_none HD.out.symm
        exact ⟨rfl, S2.out, G2.out⟩

end Go.Proofs.YtcdkehghdhcokaaDoor.wr
