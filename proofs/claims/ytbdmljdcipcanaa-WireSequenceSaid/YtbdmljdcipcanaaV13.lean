/- Groups that are there. -/
import Derived.Test.YtbdmljdcipcanaaV4
import Derived.Laws.BitsAllLaws
namespace Go.Proofs.Ytbdmljdcipcanaa
open Go.RowKit
set_option linter.unusedVariables false

theorem and127 : ∀ k : Fin 256, bits .and .u8 ((k.val : Nat) : Int) 127 = ((k.val % 128 : Nat) : Int) := by decide +kernel
theorem and127n (m : Nat) (h : m < 256) : bits .and .u8 (m : Int) 127 = ((m % 128 : Nat) : Int) := and127 ⟨m, h⟩
theorem orN (acc q e : Nat) (he : e ≤ 63) (ha : acc < 2 ^ e) (hb : acc + q * 2 ^ e < 18446744073709551616) : bits .or .u64 (acc : Int) ((q * 2 ^ e : Nat) : Int) = ((acc + q * 2 ^ e : Nat) : Int) := by
  rw [u64_or_nat acc (q * 2 ^ e) (by omega) (by omega)]
  congr 1
  rw [Nat.or_comm, Nat.mul_comm q, ← Nat.two_pow_add_eq_or_of_lt ha q, Nat.add_comm]
theorem head_at {pre T : List Int} {q : Nat} {m : Nat} {k : Nat} {x : Int} {R : List Int} (hpre : pre ++ grp q = grp m) (hk : pre.length = k) (hg : grp q = x :: R) : (grp m ++ T).getD k 0 = x := by
  subst hk
  rw [← hpre, hg]
  simp [List.getD]

set_option maxHeartbeats 8000000 in
set_option maxRecDepth 100000 in
/-- the groups that stand at the beginning -/
theorem lead_c (a : Option Addr) (n c : Nat) (m : Nat) (T : List Int) (w : World) (h : SlB w a n c (grp m ++ T)) (hm64 : m < 18446744073709551616) :
    Calls Try.prog 32 #[.slice a n c] w fun e w' => e = .returned (.tuple #[.int .u64 (m : Nat), .int .i64 ((grp m).length : Nat)]) ∧ w' = w := by
  have hpos : 0 < (grp m).length := by
    by_cases h0 : m < 128
    · rw [grp_small h0]; simp
    · rw [grp_big h0]; simp
  have hnl := h.1
  rw [List.length_append] at hnl
  obtain ⟨b, off, rfl, hb, hcs⟩ := h.at (by omega)
  have HC := Lib.hid hcs
  have hnc : n ≤ c := h.2.1
  have hc63 := h.2.2.1
  have HN := Lib.hid hnl
  clear h hcs hpos hnl
  go_enter Try.func32, Try.ntmps32
  go_wp2
  go_loopw [4, 9] (fun s4 s9 wr => ∃ (k acc q : Nat), k ≤ 9 ∧ s9 = .int .i64 (k : Nat) ∧ s4 = .int .u64 (acc : Nat) ∧ wr = w ∧ acc < 128 ^ k ∧ acc + q * 128 ^ k = m ∧ (∃ pre : List Int, pre.length = k ∧ pre ++ grp q = grp m) ∧ (0 < k → 0 < q)) (fun _ s _ => 10 - (intOf s).toNat)
  case atStart => exact ⟨0, 0, m, by omega, rfl, rfl, rfl, by simp, by simp, ⟨[], rfl, rfl⟩, fun h => by omega⟩
  case round =>
    obtain ⟨k, acc, q, hk9, rfl, rfl, rfl, ha, hm, ⟨pre, hk, hpre⟩, hkq⟩ := hrel
    have hlen : k + (grp q).length ≤ n := by
      rw [← HN.out, ← hpre, List.length_append, hk]; omega
    replace hlen := Lib.hid hlen
    replace hk := Lib.hid hk
    replace hpre := Lib.hid hpre
    have hks : k = 0 ∨ k = 1 ∨ k = 2 ∨ k = 3 ∨ k = 4 ∨ k = 5 ∨ k = 6 ∨ k = 7 ∨ k = 8 ∨ k = 9 := by omega
    rcases hks with rfl | rfl | rfl | rfl | rfl | rfl | rfl | rfl | rfl | rfl
    · have hP : (128 : Nat) ^ 0 = 1 := by decide
      rw [hP] at ha hm
      clear hP
      by_cases hq : q < 128
      · have h00 : q = 0 ∨ 0 < q := by omega
        rcases h00 with rfl | hq0
        · have eg := Lib.hid (grp_small (n := 0) (by omega))
          obtain rfl : acc = 0 := by omega
          have hlt : (0 : Int) < n := by have h1 := hlen.out; rw [eg.out] at h1; simp at h1; omega
          have k0 : wr.cell? ⟨b, off, none⟩ = some (.int .u8 0) := by have h1 := HC.out 0 (by omega); rw [head_at (T := T) (R := []) hpre.out hk.out eg.out] at h1; exact h1
          have q0 : bits .and .u8 0 127 = 0 := by decide
          have q2 : bits .or .u64 0 0 = 0 := by decide
          have lenr := Lib.hid (show ((grp m).length : Int) = 1 by rw [← hpre.out, List.length_append, hk.out, eg.out]; rfl)
          have fin := Lib.hid (show (m : Int) = 0 by omega)
          go_wp2
          refine bodyPost_ret (results_tmp2 rfl _ _ _) rfl ?_; refine ⟨?_, rfl⟩; rw [lenr.out, fin.out]; rfl
        · replace hq0 : 0 < q := hq0
          have eg := Lib.hid (grp_small hq)
          have hlt : (0 : Int) < n := by have h1 := hlen.out; rw [eg.out] at h1; simp at h1; omega
          have k0 : wr.cell? ⟨b, off, none⟩ = some (.int .u8 (q : Int)) := by have h1 := HC.out 0 (by omega); rw [head_at (T := T) (R := []) hpre.out hk.out eg.out] at h1; exact h1
          have a1 := and127n q (by omega)
          rw [Nat.mod_eq_of_lt hq] at a1
          have o1 := orN acc q 0 (by decide) (by rw [show (2 : Nat) ^ 0 = 1 by decide]; exact ha) (by rw [show (2 : Nat) ^ 0 = 1 by decide]; omega)
          rw [show (2 : Nat) ^ 0 = 1 by decide, Int.natCast_mul, Int.natCast_add, Int.natCast_mul] at o1
          replace o1 : bits .or .u64 (acc : Int) (q : Int) = (acc : Int) + (q : Int) := by simpa using o1
          have lenr := Lib.hid (show ((grp m).length : Int) = 1 by rw [← hpre.out, List.length_append, hk.out, eg.out]; rfl)
          have fin := Lib.hid (show (m : Int) = (acc : Int) + (q : Int) * 1 by omega)
          have hwr : (q : Int) * 1 ≤ 18446744073709551615 := by omega
          go_wp2
          all_goals (refine bodyPost_ret (results_tmp2 rfl _ _ _) rfl ?_; refine ⟨?_, rfl⟩; rw [lenr.out, fin.out]; simp)
      · have eg := Lib.hid (grp_big hq)
        have hlt : (0 : Int) < n := by have h1 := hlen.out; rw [eg.out] at h1; simp at h1; omega
        have k0 : wr.cell? ⟨b, off, none⟩ = some (.int .u8 ((q % 128 + 128 : Nat) : Int)) := by have h1 := HC.out 0 (by omega); rw [head_at (T := T) (R := grp (q / 128)) hpre.out hk.out eg.out] at h1; exact h1
        obtain ⟨y, hy⟩ : ∃ y, q % 128 = y := ⟨_, rfl⟩
        have hy2 : y < 128 := by omega
        have hy3 := Lib.hid (show q = 128 * (q / 128) + y by omega)
        rw [hy] at k0
        have eg2 := Lib.hid (show grp q = ((y + 128 : Nat) : Int) :: grp (q / 128) by rw [← hy]; exact eg.out)
        clear eg hy
        have a1 := and127n (y + 128) (by omega)
        rw [show (y + 128) % 128 = y by omega] at a1
        have hb1 : acc + y * 1 ≤ m := by have := hy3.out; omega
        have o1 := orN acc y 0 (by decide) (by rw [show (2 : Nat) ^ 0 = 1 by decide]; exact ha) (by rw [show (2 : Nat) ^ 0 = 1 by decide]; omega)
        rw [show (2 : Nat) ^ 0 = 1 by decide, Int.natCast_mul, Int.natCast_add, Int.natCast_mul] at o1
        replace o1 : bits .or .u64 (acc : Int) (y : Int) = (acc : Int) + (y : Int) := by simpa using o1
        have hwr : (y : Int) * 1 ≤ 18446744073709551615 := by omega
        rw [show ((y + 128 : Nat) : Int) = (y : Int) + 128 by omega] at k0 a1
        go_wp2
        go_roundw
        case rel => exact ⟨1, acc + y * 1, q / 128, by omega, by go_num, by go_num, (by first | rfl | trivial), by rw [show (128 : Nat) ^ 1 = 128 by decide]; omega, by rw [show (128 : Nat) ^ 1 = 128 by decide]; have := hy3.out; omega, ⟨pre ++ [((y + 128 : Nat) : Int)], by rw [List.length_append, hk.out]; rfl, by rw [← hpre.out, eg2.out]; simp⟩, fun _ => by omega⟩
        case measure => first | (simp [intOf]; done) | (simp [intOf]; omega)
    · have hP : (128 : Nat) ^ 1 = 128 := by decide
      rw [hP] at ha hm
      clear hP
      by_cases hq : q < 128
      · have eg := Lib.hid (grp_small hq)
        have hlt : (1 : Int) < n := by have h1 := hlen.out; rw [eg.out] at h1; simp at h1; omega
        have k0 : wr.cell? ⟨b, off + 1, none⟩ = some (.int .u8 (q : Int)) := by have h1 := HC.out 1 (by omega); rw [head_at (T := T) (R := []) hpre.out hk.out eg.out] at h1; exact h1
        have a1 := and127n q (by omega)
        rw [Nat.mod_eq_of_lt hq] at a1
        have o1 := orN acc q 7 (by decide) (by rw [show (2 : Nat) ^ 7 = 128 by decide]; exact ha) (by rw [show (2 : Nat) ^ 7 = 128 by decide]; omega)
        rw [show (2 : Nat) ^ 7 = 128 by decide, Int.natCast_mul, Int.natCast_add, Int.natCast_mul] at o1
        replace o1 : bits .or .u64 (acc : Int) ((q : Int) * 128) = (acc : Int) + (q : Int) * 128 := o1
        have lenr := Lib.hid (show ((grp m).length : Int) = 2 by rw [← hpre.out, List.length_append, hk.out, eg.out]; rfl)
        have fin := Lib.hid (show (m : Int) = (acc : Int) + (q : Int) * 128 by omega)
        have hwr : (q : Int) * 128 ≤ 18446744073709551615 := by omega
        go_wp2
        all_goals (refine bodyPost_ret (results_tmp2 rfl _ _ _) rfl ?_; refine ⟨?_, rfl⟩; rw [lenr.out, fin.out]; simp)
      · have eg := Lib.hid (grp_big hq)
        have hlt : (1 : Int) < n := by have h1 := hlen.out; rw [eg.out] at h1; simp at h1; omega
        have k0 : wr.cell? ⟨b, off + 1, none⟩ = some (.int .u8 ((q % 128 + 128 : Nat) : Int)) := by have h1 := HC.out 1 (by omega); rw [head_at (T := T) (R := grp (q / 128)) hpre.out hk.out eg.out] at h1; exact h1
        obtain ⟨y, hy⟩ : ∃ y, q % 128 = y := ⟨_, rfl⟩
        have hy2 : y < 128 := by omega
        have hy3 := Lib.hid (show q = 128 * (q / 128) + y by omega)
        rw [hy] at k0
        have eg2 := Lib.hid (show grp q = ((y + 128 : Nat) : Int) :: grp (q / 128) by rw [← hy]; exact eg.out)
        clear eg hy
        have a1 := and127n (y + 128) (by omega)
        rw [show (y + 128) % 128 = y by omega] at a1
        have hb1 : acc + y * 128 ≤ m := by have := hy3.out; omega
        have o1 := orN acc y 7 (by decide) (by rw [show (2 : Nat) ^ 7 = 128 by decide]; exact ha) (by rw [show (2 : Nat) ^ 7 = 128 by decide]; omega)
        rw [show (2 : Nat) ^ 7 = 128 by decide, Int.natCast_mul, Int.natCast_add, Int.natCast_mul] at o1
        replace o1 : bits .or .u64 (acc : Int) ((y : Int) * 128) = (acc : Int) + (y : Int) * 128 := o1
        have hwr : (y : Int) * 128 ≤ 18446744073709551615 := by omega
        rw [show ((y + 128 : Nat) : Int) = (y : Int) + 128 by omega] at k0 a1
        go_wp2
        go_roundw
        case rel => exact ⟨2, acc + y * 128, q / 128, by omega, by go_num, by go_num, (by first | rfl | trivial), by rw [show (128 : Nat) ^ 2 = 16384 by decide]; omega, by rw [show (128 : Nat) ^ 2 = 16384 by decide]; have := hy3.out; omega, ⟨pre ++ [((y + 128 : Nat) : Int)], by rw [List.length_append, hk.out]; rfl, by rw [← hpre.out, eg2.out]; simp⟩, fun _ => by omega⟩
        case measure => first | (simp [intOf]; done) | (simp [intOf]; omega)
    · have hP : (128 : Nat) ^ 2 = 16384 := by decide
      rw [hP] at ha hm
      clear hP
      by_cases hq : q < 128
      · have eg := Lib.hid (grp_small hq)
        have hlt : (2 : Int) < n := by have h1 := hlen.out; rw [eg.out] at h1; simp at h1; omega
        have k0 : wr.cell? ⟨b, off + 2, none⟩ = some (.int .u8 (q : Int)) := by have h1 := HC.out 2 (by omega); rw [head_at (T := T) (R := []) hpre.out hk.out eg.out] at h1; exact h1
        have a1 := and127n q (by omega)
        rw [Nat.mod_eq_of_lt hq] at a1
        have o1 := orN acc q 14 (by decide) (by rw [show (2 : Nat) ^ 14 = 16384 by decide]; exact ha) (by rw [show (2 : Nat) ^ 14 = 16384 by decide]; omega)
        rw [show (2 : Nat) ^ 14 = 16384 by decide, Int.natCast_mul, Int.natCast_add, Int.natCast_mul] at o1
        replace o1 : bits .or .u64 (acc : Int) ((q : Int) * 16384) = (acc : Int) + (q : Int) * 16384 := o1
        have lenr := Lib.hid (show ((grp m).length : Int) = 3 by rw [← hpre.out, List.length_append, hk.out, eg.out]; rfl)
        have fin := Lib.hid (show (m : Int) = (acc : Int) + (q : Int) * 16384 by omega)
        have hwr : (q : Int) * 16384 ≤ 18446744073709551615 := by omega
        go_wp2
        all_goals (refine bodyPost_ret (results_tmp2 rfl _ _ _) rfl ?_; refine ⟨?_, rfl⟩; rw [lenr.out, fin.out]; simp)
      · have eg := Lib.hid (grp_big hq)
        have hlt : (2 : Int) < n := by have h1 := hlen.out; rw [eg.out] at h1; simp at h1; omega
        have k0 : wr.cell? ⟨b, off + 2, none⟩ = some (.int .u8 ((q % 128 + 128 : Nat) : Int)) := by have h1 := HC.out 2 (by omega); rw [head_at (T := T) (R := grp (q / 128)) hpre.out hk.out eg.out] at h1; exact h1
        obtain ⟨y, hy⟩ : ∃ y, q % 128 = y := ⟨_, rfl⟩
        have hy2 : y < 128 := by omega
        have hy3 := Lib.hid (show q = 128 * (q / 128) + y by omega)
        rw [hy] at k0
        have eg2 := Lib.hid (show grp q = ((y + 128 : Nat) : Int) :: grp (q / 128) by rw [← hy]; exact eg.out)
        clear eg hy
        have a1 := and127n (y + 128) (by omega)
        rw [show (y + 128) % 128 = y by omega] at a1
        have hb1 : acc + y * 16384 ≤ m := by have := hy3.out; omega
        have o1 := orN acc y 14 (by decide) (by rw [show (2 : Nat) ^ 14 = 16384 by decide]; exact ha) (by rw [show (2 : Nat) ^ 14 = 16384 by decide]; omega)
        rw [show (2 : Nat) ^ 14 = 16384 by decide, Int.natCast_mul, Int.natCast_add, Int.natCast_mul] at o1
        replace o1 : bits .or .u64 (acc : Int) ((y : Int) * 16384) = (acc : Int) + (y : Int) * 16384 := o1
        have hwr : (y : Int) * 16384 ≤ 18446744073709551615 := by omega
        rw [show ((y + 128 : Nat) : Int) = (y : Int) + 128 by omega] at k0 a1
        go_wp2
        go_roundw
        case rel => exact ⟨3, acc + y * 16384, q / 128, by omega, by go_num, by go_num, (by first | rfl | trivial), by rw [show (128 : Nat) ^ 3 = 2097152 by decide]; omega, by rw [show (128 : Nat) ^ 3 = 2097152 by decide]; have := hy3.out; omega, ⟨pre ++ [((y + 128 : Nat) : Int)], by rw [List.length_append, hk.out]; rfl, by rw [← hpre.out, eg2.out]; simp⟩, fun _ => by omega⟩
        case measure => first | (simp [intOf]; done) | (simp [intOf]; omega)
    · have hP : (128 : Nat) ^ 3 = 2097152 := by decide
      rw [hP] at ha hm
      clear hP
      by_cases hq : q < 128
      · have eg := Lib.hid (grp_small hq)
        have hlt : (3 : Int) < n := by have h1 := hlen.out; rw [eg.out] at h1; simp at h1; omega
        have k0 : wr.cell? ⟨b, off + 3, none⟩ = some (.int .u8 (q : Int)) := by have h1 := HC.out 3 (by omega); rw [head_at (T := T) (R := []) hpre.out hk.out eg.out] at h1; exact h1
        have a1 := and127n q (by omega)
        rw [Nat.mod_eq_of_lt hq] at a1
        have o1 := orN acc q 21 (by decide) (by rw [show (2 : Nat) ^ 21 = 2097152 by decide]; exact ha) (by rw [show (2 : Nat) ^ 21 = 2097152 by decide]; omega)
        rw [show (2 : Nat) ^ 21 = 2097152 by decide, Int.natCast_mul, Int.natCast_add, Int.natCast_mul] at o1
        replace o1 : bits .or .u64 (acc : Int) ((q : Int) * 2097152) = (acc : Int) + (q : Int) * 2097152 := o1
        have lenr := Lib.hid (show ((grp m).length : Int) = 4 by rw [← hpre.out, List.length_append, hk.out, eg.out]; rfl)
        have fin := Lib.hid (show (m : Int) = (acc : Int) + (q : Int) * 2097152 by omega)
        have hwr : (q : Int) * 2097152 ≤ 18446744073709551615 := by omega
        go_wp2
        all_goals (refine bodyPost_ret (results_tmp2 rfl _ _ _) rfl ?_; refine ⟨?_, rfl⟩; rw [lenr.out, fin.out]; simp)
      · have eg := Lib.hid (grp_big hq)
        have hlt : (3 : Int) < n := by have h1 := hlen.out; rw [eg.out] at h1; simp at h1; omega
        have k0 : wr.cell? ⟨b, off + 3, none⟩ = some (.int .u8 ((q % 128 + 128 : Nat) : Int)) := by have h1 := HC.out 3 (by omega); rw [head_at (T := T) (R := grp (q / 128)) hpre.out hk.out eg.out] at h1; exact h1
        obtain ⟨y, hy⟩ : ∃ y, q % 128 = y := ⟨_, rfl⟩
        have hy2 : y < 128 := by omega
        have hy3 := Lib.hid (show q = 128 * (q / 128) + y by omega)
        rw [hy] at k0
        have eg2 := Lib.hid (show grp q = ((y + 128 : Nat) : Int) :: grp (q / 128) by rw [← hy]; exact eg.out)
        clear eg hy
        have a1 := and127n (y + 128) (by omega)
        rw [show (y + 128) % 128 = y by omega] at a1
        have hb1 : acc + y * 2097152 ≤ m := by have := hy3.out; omega
        have o1 := orN acc y 21 (by decide) (by rw [show (2 : Nat) ^ 21 = 2097152 by decide]; exact ha) (by rw [show (2 : Nat) ^ 21 = 2097152 by decide]; omega)
        rw [show (2 : Nat) ^ 21 = 2097152 by decide, Int.natCast_mul, Int.natCast_add, Int.natCast_mul] at o1
        replace o1 : bits .or .u64 (acc : Int) ((y : Int) * 2097152) = (acc : Int) + (y : Int) * 2097152 := o1
        have hwr : (y : Int) * 2097152 ≤ 18446744073709551615 := by omega
        rw [show ((y + 128 : Nat) : Int) = (y : Int) + 128 by omega] at k0 a1
        go_wp2
        go_roundw
        case rel => exact ⟨4, acc + y * 2097152, q / 128, by omega, by go_num, by go_num, (by first | rfl | trivial), by rw [show (128 : Nat) ^ 4 = 268435456 by decide]; omega, by rw [show (128 : Nat) ^ 4 = 268435456 by decide]; have := hy3.out; omega, ⟨pre ++ [((y + 128 : Nat) : Int)], by rw [List.length_append, hk.out]; rfl, by rw [← hpre.out, eg2.out]; simp⟩, fun _ => by omega⟩
        case measure => first | (simp [intOf]; done) | (simp [intOf]; omega)
    · have hP : (128 : Nat) ^ 4 = 268435456 := by decide
      rw [hP] at ha hm
      clear hP
      by_cases hq : q < 128
      · have eg := Lib.hid (grp_small hq)
        have hlt : (4 : Int) < n := by have h1 := hlen.out; rw [eg.out] at h1; simp at h1; omega
        have k0 : wr.cell? ⟨b, off + 4, none⟩ = some (.int .u8 (q : Int)) := by have h1 := HC.out 4 (by omega); rw [head_at (T := T) (R := []) hpre.out hk.out eg.out] at h1; exact h1
        have a1 := and127n q (by omega)
        rw [Nat.mod_eq_of_lt hq] at a1
        have o1 := orN acc q 28 (by decide) (by rw [show (2 : Nat) ^ 28 = 268435456 by decide]; exact ha) (by rw [show (2 : Nat) ^ 28 = 268435456 by decide]; omega)
        rw [show (2 : Nat) ^ 28 = 268435456 by decide, Int.natCast_mul, Int.natCast_add, Int.natCast_mul] at o1
        replace o1 : bits .or .u64 (acc : Int) ((q : Int) * 268435456) = (acc : Int) + (q : Int) * 268435456 := o1
        have lenr := Lib.hid (show ((grp m).length : Int) = 5 by rw [← hpre.out, List.length_append, hk.out, eg.out]; rfl)
        have fin := Lib.hid (show (m : Int) = (acc : Int) + (q : Int) * 268435456 by omega)
        have hwr : (q : Int) * 268435456 ≤ 18446744073709551615 := by omega
        go_wp2
        all_goals (refine bodyPost_ret (results_tmp2 rfl _ _ _) rfl ?_; refine ⟨?_, rfl⟩; rw [lenr.out, fin.out]; simp)
      · have eg := Lib.hid (grp_big hq)
        have hlt : (4 : Int) < n := by have h1 := hlen.out; rw [eg.out] at h1; simp at h1; omega
        have k0 : wr.cell? ⟨b, off + 4, none⟩ = some (.int .u8 ((q % 128 + 128 : Nat) : Int)) := by have h1 := HC.out 4 (by omega); rw [head_at (T := T) (R := grp (q / 128)) hpre.out hk.out eg.out] at h1; exact h1
        obtain ⟨y, hy⟩ : ∃ y, q % 128 = y := ⟨_, rfl⟩
        have hy2 : y < 128 := by omega
        have hy3 := Lib.hid (show q = 128 * (q / 128) + y by omega)
        rw [hy] at k0
        have eg2 := Lib.hid (show grp q = ((y + 128 : Nat) : Int) :: grp (q / 128) by rw [← hy]; exact eg.out)
        clear eg hy
        have a1 := and127n (y + 128) (by omega)
        rw [show (y + 128) % 128 = y by omega] at a1
        have hb1 : acc + y * 268435456 ≤ m := by have := hy3.out; omega
        have o1 := orN acc y 28 (by decide) (by rw [show (2 : Nat) ^ 28 = 268435456 by decide]; exact ha) (by rw [show (2 : Nat) ^ 28 = 268435456 by decide]; omega)
        rw [show (2 : Nat) ^ 28 = 268435456 by decide, Int.natCast_mul, Int.natCast_add, Int.natCast_mul] at o1
        replace o1 : bits .or .u64 (acc : Int) ((y : Int) * 268435456) = (acc : Int) + (y : Int) * 268435456 := o1
        have hwr : (y : Int) * 268435456 ≤ 18446744073709551615 := by omega
        rw [show ((y + 128 : Nat) : Int) = (y : Int) + 128 by omega] at k0 a1
        go_wp2
        go_roundw
        case rel => exact ⟨5, acc + y * 268435456, q / 128, by omega, by go_num, by go_num, (by first | rfl | trivial), by rw [show (128 : Nat) ^ 5 = 34359738368 by decide]; omega, by rw [show (128 : Nat) ^ 5 = 34359738368 by decide]; have := hy3.out; omega, ⟨pre ++ [((y + 128 : Nat) : Int)], by rw [List.length_append, hk.out]; rfl, by rw [← hpre.out, eg2.out]; simp⟩, fun _ => by omega⟩
        case measure => first | (simp [intOf]; done) | (simp [intOf]; omega)
    · have hP : (128 : Nat) ^ 5 = 34359738368 := by decide
      rw [hP] at ha hm
      clear hP
      by_cases hq : q < 128
      · have eg := Lib.hid (grp_small hq)
        have hlt : (5 : Int) < n := by have h1 := hlen.out; rw [eg.out] at h1; simp at h1; omega
        have k0 : wr.cell? ⟨b, off + 5, none⟩ = some (.int .u8 (q : Int)) := by have h1 := HC.out 5 (by omega); rw [head_at (T := T) (R := []) hpre.out hk.out eg.out] at h1; exact h1
        have a1 := and127n q (by omega)
        rw [Nat.mod_eq_of_lt hq] at a1
        have o1 := orN acc q 35 (by decide) (by rw [show (2 : Nat) ^ 35 = 34359738368 by decide]; exact ha) (by rw [show (2 : Nat) ^ 35 = 34359738368 by decide]; omega)
        rw [show (2 : Nat) ^ 35 = 34359738368 by decide, Int.natCast_mul, Int.natCast_add, Int.natCast_mul] at o1
        replace o1 : bits .or .u64 (acc : Int) ((q : Int) * 34359738368) = (acc : Int) + (q : Int) * 34359738368 := o1
        have lenr := Lib.hid (show ((grp m).length : Int) = 6 by rw [← hpre.out, List.length_append, hk.out, eg.out]; rfl)
        have fin := Lib.hid (show (m : Int) = (acc : Int) + (q : Int) * 34359738368 by omega)
        have hwr : (q : Int) * 34359738368 ≤ 18446744073709551615 := by omega
        go_wp2
        all_goals (refine bodyPost_ret (results_tmp2 rfl _ _ _) rfl ?_; refine ⟨?_, rfl⟩; rw [lenr.out, fin.out]; simp)
      · have eg := Lib.hid (grp_big hq)
        have hlt : (5 : Int) < n := by have h1 := hlen.out; rw [eg.out] at h1; simp at h1; omega
        have k0 : wr.cell? ⟨b, off + 5, none⟩ = some (.int .u8 ((q % 128 + 128 : Nat) : Int)) := by have h1 := HC.out 5 (by omega); rw [head_at (T := T) (R := grp (q / 128)) hpre.out hk.out eg.out] at h1; exact h1
        obtain ⟨y, hy⟩ : ∃ y, q % 128 = y := ⟨_, rfl⟩
        have hy2 : y < 128 := by omega
        have hy3 := Lib.hid (show q = 128 * (q / 128) + y by omega)
        rw [hy] at k0
        have eg2 := Lib.hid (show grp q = ((y + 128 : Nat) : Int) :: grp (q / 128) by rw [← hy]; exact eg.out)
        clear eg hy
        have a1 := and127n (y + 128) (by omega)
        rw [show (y + 128) % 128 = y by omega] at a1
        have hb1 : acc + y * 34359738368 ≤ m := by have := hy3.out; omega
        have o1 := orN acc y 35 (by decide) (by rw [show (2 : Nat) ^ 35 = 34359738368 by decide]; exact ha) (by rw [show (2 : Nat) ^ 35 = 34359738368 by decide]; omega)
        rw [show (2 : Nat) ^ 35 = 34359738368 by decide, Int.natCast_mul, Int.natCast_add, Int.natCast_mul] at o1
        replace o1 : bits .or .u64 (acc : Int) ((y : Int) * 34359738368) = (acc : Int) + (y : Int) * 34359738368 := o1
        have hwr : (y : Int) * 34359738368 ≤ 18446744073709551615 := by omega
        rw [show ((y + 128 : Nat) : Int) = (y : Int) + 128 by omega] at k0 a1
        go_wp2
        go_roundw
        case rel => exact ⟨6, acc + y * 34359738368, q / 128, by omega, by go_num, by go_num, (by first | rfl | trivial), by rw [show (128 : Nat) ^ 6 = 4398046511104 by decide]; omega, by rw [show (128 : Nat) ^ 6 = 4398046511104 by decide]; have := hy3.out; omega, ⟨pre ++ [((y + 128 : Nat) : Int)], by rw [List.length_append, hk.out]; rfl, by rw [← hpre.out, eg2.out]; simp⟩, fun _ => by omega⟩
        case measure => first | (simp [intOf]; done) | (simp [intOf]; omega)
    · have hP : (128 : Nat) ^ 6 = 4398046511104 := by decide
      rw [hP] at ha hm
      clear hP
      by_cases hq : q < 128
      · have eg := Lib.hid (grp_small hq)
        have hlt : (6 : Int) < n := by have h1 := hlen.out; rw [eg.out] at h1; simp at h1; omega
        have k0 : wr.cell? ⟨b, off + 6, none⟩ = some (.int .u8 (q : Int)) := by have h1 := HC.out 6 (by omega); rw [head_at (T := T) (R := []) hpre.out hk.out eg.out] at h1; exact h1
        have a1 := and127n q (by omega)
        rw [Nat.mod_eq_of_lt hq] at a1
        have o1 := orN acc q 42 (by decide) (by rw [show (2 : Nat) ^ 42 = 4398046511104 by decide]; exact ha) (by rw [show (2 : Nat) ^ 42 = 4398046511104 by decide]; omega)
        rw [show (2 : Nat) ^ 42 = 4398046511104 by decide, Int.natCast_mul, Int.natCast_add, Int.natCast_mul] at o1
        replace o1 : bits .or .u64 (acc : Int) ((q : Int) * 4398046511104) = (acc : Int) + (q : Int) * 4398046511104 := o1
        have lenr := Lib.hid (show ((grp m).length : Int) = 7 by rw [← hpre.out, List.length_append, hk.out, eg.out]; rfl)
        have fin := Lib.hid (show (m : Int) = (acc : Int) + (q : Int) * 4398046511104 by omega)
        have hwr : (q : Int) * 4398046511104 ≤ 18446744073709551615 := by omega
        go_wp2
        all_goals (refine bodyPost_ret (results_tmp2 rfl _ _ _) rfl ?_; refine ⟨?_, rfl⟩; rw [lenr.out, fin.out]; simp)
      · have eg := Lib.hid (grp_big hq)
        have hlt : (6 : Int) < n := by have h1 := hlen.out; rw [eg.out] at h1; simp at h1; omega
        have k0 : wr.cell? ⟨b, off + 6, none⟩ = some (.int .u8 ((q % 128 + 128 : Nat) : Int)) := by have h1 := HC.out 6 (by omega); rw [head_at (T := T) (R := grp (q / 128)) hpre.out hk.out eg.out] at h1; exact h1
        obtain ⟨y, hy⟩ : ∃ y, q % 128 = y := ⟨_, rfl⟩
        have hy2 : y < 128 := by omega
        have hy3 := Lib.hid (show q = 128 * (q / 128) + y by omega)
        rw [hy] at k0
        have eg2 := Lib.hid (show grp q = ((y + 128 : Nat) : Int) :: grp (q / 128) by rw [← hy]; exact eg.out)
        clear eg hy
        have a1 := and127n (y + 128) (by omega)
        rw [show (y + 128) % 128 = y by omega] at a1
        have hb1 : acc + y * 4398046511104 ≤ m := by have := hy3.out; omega
        have o1 := orN acc y 42 (by decide) (by rw [show (2 : Nat) ^ 42 = 4398046511104 by decide]; exact ha) (by rw [show (2 : Nat) ^ 42 = 4398046511104 by decide]; omega)
        rw [show (2 : Nat) ^ 42 = 4398046511104 by decide, Int.natCast_mul, Int.natCast_add, Int.natCast_mul] at o1
        replace o1 : bits .or .u64 (acc : Int) ((y : Int) * 4398046511104) = (acc : Int) + (y : Int) * 4398046511104 := o1
        have hwr : (y : Int) * 4398046511104 ≤ 18446744073709551615 := by omega
        rw [show ((y + 128 : Nat) : Int) = (y : Int) + 128 by omega] at k0 a1
        go_wp2
        go_roundw
        case rel => exact ⟨7, acc + y * 4398046511104, q / 128, by omega, by go_num, by go_num, (by first | rfl | trivial), by rw [show (128 : Nat) ^ 7 = 562949953421312 by decide]; omega, by rw [show (128 : Nat) ^ 7 = 562949953421312 by decide]; have := hy3.out; omega, ⟨pre ++ [((y + 128 : Nat) : Int)], by rw [List.length_append, hk.out]; rfl, by rw [← hpre.out, eg2.out]; simp⟩, fun _ => by omega⟩
        case measure => first | (simp [intOf]; done) | (simp [intOf]; omega)
    · have hP : (128 : Nat) ^ 7 = 562949953421312 := by decide
      rw [hP] at ha hm
      clear hP
      by_cases hq : q < 128
      · have eg := Lib.hid (grp_small hq)
        have hlt : (7 : Int) < n := by have h1 := hlen.out; rw [eg.out] at h1; simp at h1; omega
        have k0 : wr.cell? ⟨b, off + 7, none⟩ = some (.int .u8 (q : Int)) := by have h1 := HC.out 7 (by omega); rw [head_at (T := T) (R := []) hpre.out hk.out eg.out] at h1; exact h1
        have a1 := and127n q (by omega)
        rw [Nat.mod_eq_of_lt hq] at a1
        have o1 := orN acc q 49 (by decide) (by rw [show (2 : Nat) ^ 49 = 562949953421312 by decide]; exact ha) (by rw [show (2 : Nat) ^ 49 = 562949953421312 by decide]; omega)
        rw [show (2 : Nat) ^ 49 = 562949953421312 by decide, Int.natCast_mul, Int.natCast_add, Int.natCast_mul] at o1
        replace o1 : bits .or .u64 (acc : Int) ((q : Int) * 562949953421312) = (acc : Int) + (q : Int) * 562949953421312 := o1
        have lenr := Lib.hid (show ((grp m).length : Int) = 8 by rw [← hpre.out, List.length_append, hk.out, eg.out]; rfl)
        have fin := Lib.hid (show (m : Int) = (acc : Int) + (q : Int) * 562949953421312 by omega)
        have hwr : (q : Int) * 562949953421312 ≤ 18446744073709551615 := by omega
        go_wp2
        all_goals (refine bodyPost_ret (results_tmp2 rfl _ _ _) rfl ?_; refine ⟨?_, rfl⟩; rw [lenr.out, fin.out]; simp)
      · have eg := Lib.hid (grp_big hq)
        have hlt : (7 : Int) < n := by have h1 := hlen.out; rw [eg.out] at h1; simp at h1; omega
        have k0 : wr.cell? ⟨b, off + 7, none⟩ = some (.int .u8 ((q % 128 + 128 : Nat) : Int)) := by have h1 := HC.out 7 (by omega); rw [head_at (T := T) (R := grp (q / 128)) hpre.out hk.out eg.out] at h1; exact h1
        obtain ⟨y, hy⟩ : ∃ y, q % 128 = y := ⟨_, rfl⟩
        have hy2 : y < 128 := by omega
        have hy3 := Lib.hid (show q = 128 * (q / 128) + y by omega)
        rw [hy] at k0
        have eg2 := Lib.hid (show grp q = ((y + 128 : Nat) : Int) :: grp (q / 128) by rw [← hy]; exact eg.out)
        clear eg hy
        have a1 := and127n (y + 128) (by omega)
        rw [show (y + 128) % 128 = y by omega] at a1
        have hb1 : acc + y * 562949953421312 ≤ m := by have := hy3.out; omega
        have o1 := orN acc y 49 (by decide) (by rw [show (2 : Nat) ^ 49 = 562949953421312 by decide]; exact ha) (by rw [show (2 : Nat) ^ 49 = 562949953421312 by decide]; omega)
        rw [show (2 : Nat) ^ 49 = 562949953421312 by decide, Int.natCast_mul, Int.natCast_add, Int.natCast_mul] at o1
        replace o1 : bits .or .u64 (acc : Int) ((y : Int) * 562949953421312) = (acc : Int) + (y : Int) * 562949953421312 := o1
        have hwr : (y : Int) * 562949953421312 ≤ 18446744073709551615 := by omega
        rw [show ((y + 128 : Nat) : Int) = (y : Int) + 128 by omega] at k0 a1
        go_wp2
        go_roundw
        case rel => exact ⟨8, acc + y * 562949953421312, q / 128, by omega, by go_num, by go_num, (by first | rfl | trivial), by rw [show (128 : Nat) ^ 8 = 72057594037927936 by decide]; omega, by rw [show (128 : Nat) ^ 8 = 72057594037927936 by decide]; have := hy3.out; omega, ⟨pre ++ [((y + 128 : Nat) : Int)], by rw [List.length_append, hk.out]; rfl, by rw [← hpre.out, eg2.out]; simp⟩, fun _ => by omega⟩
        case measure => first | (simp [intOf]; done) | (simp [intOf]; omega)
    · have hP : (128 : Nat) ^ 8 = 72057594037927936 := by decide
      rw [hP] at ha hm
      clear hP
      by_cases hq : q < 128
      · have eg := Lib.hid (grp_small hq)
        have hlt : (8 : Int) < n := by have h1 := hlen.out; rw [eg.out] at h1; simp at h1; omega
        have k0 : wr.cell? ⟨b, off + 8, none⟩ = some (.int .u8 (q : Int)) := by have h1 := HC.out 8 (by omega); rw [head_at (T := T) (R := []) hpre.out hk.out eg.out] at h1; exact h1
        have a1 := and127n q (by omega)
        rw [Nat.mod_eq_of_lt hq] at a1
        have o1 := orN acc q 56 (by decide) (by rw [show (2 : Nat) ^ 56 = 72057594037927936 by decide]; exact ha) (by rw [show (2 : Nat) ^ 56 = 72057594037927936 by decide]; omega)
        rw [show (2 : Nat) ^ 56 = 72057594037927936 by decide, Int.natCast_mul, Int.natCast_add, Int.natCast_mul] at o1
        replace o1 : bits .or .u64 (acc : Int) ((q : Int) * 72057594037927936) = (acc : Int) + (q : Int) * 72057594037927936 := o1
        have lenr := Lib.hid (show ((grp m).length : Int) = 9 by rw [← hpre.out, List.length_append, hk.out, eg.out]; rfl)
        have fin := Lib.hid (show (m : Int) = (acc : Int) + (q : Int) * 72057594037927936 by omega)
        have hwr : (q : Int) * 72057594037927936 ≤ 18446744073709551615 := by omega
        go_wp2
        all_goals (refine bodyPost_ret (results_tmp2 rfl _ _ _) rfl ?_; refine ⟨?_, rfl⟩; rw [lenr.out, fin.out]; simp)
      · have eg := Lib.hid (grp_big hq)
        have hlt : (8 : Int) < n := by have h1 := hlen.out; rw [eg.out] at h1; simp at h1; omega
        have k0 : wr.cell? ⟨b, off + 8, none⟩ = some (.int .u8 ((q % 128 + 128 : Nat) : Int)) := by have h1 := HC.out 8 (by omega); rw [head_at (T := T) (R := grp (q / 128)) hpre.out hk.out eg.out] at h1; exact h1
        obtain ⟨y, hy⟩ : ∃ y, q % 128 = y := ⟨_, rfl⟩
        have hy2 : y < 128 := by omega
        have hy3 := Lib.hid (show q = 128 * (q / 128) + y by omega)
        rw [hy] at k0
        have eg2 := Lib.hid (show grp q = ((y + 128 : Nat) : Int) :: grp (q / 128) by rw [← hy]; exact eg.out)
        clear eg hy
        have a1 := and127n (y + 128) (by omega)
        rw [show (y + 128) % 128 = y by omega] at a1
        have hb1 : acc + y * 72057594037927936 ≤ m := by have := hy3.out; omega
        have o1 := orN acc y 56 (by decide) (by rw [show (2 : Nat) ^ 56 = 72057594037927936 by decide]; exact ha) (by rw [show (2 : Nat) ^ 56 = 72057594037927936 by decide]; omega)
        rw [show (2 : Nat) ^ 56 = 72057594037927936 by decide, Int.natCast_mul, Int.natCast_add, Int.natCast_mul] at o1
        replace o1 : bits .or .u64 (acc : Int) ((y : Int) * 72057594037927936) = (acc : Int) + (y : Int) * 72057594037927936 := o1
        have hwr : (y : Int) * 72057594037927936 ≤ 18446744073709551615 := by omega
        rw [show ((y + 128 : Nat) : Int) = (y : Int) + 128 by omega] at k0 a1
        go_wp2
        go_roundw
        case rel => exact ⟨9, acc + y * 72057594037927936, q / 128, by omega, by go_num, by go_num, (by first | rfl | trivial), by rw [show (128 : Nat) ^ 9 = 9223372036854775808 by decide]; omega, by rw [show (128 : Nat) ^ 9 = 9223372036854775808 by decide]; have := hy3.out; omega, ⟨pre ++ [((y + 128 : Nat) : Int)], by rw [List.length_append, hk.out]; rfl, by rw [← hpre.out, eg2.out]; simp⟩, fun _ => by omega⟩
        case measure => first | (simp [intOf]; done) | (simp [intOf]; omega)
    · have hP : (128 : Nat) ^ 9 = 9223372036854775808 := by decide
      rw [hP] at ha hm
      clear hP
      by_cases hq : q < 128
      · have eg := Lib.hid (grp_small hq)
        have hlt : (9 : Int) < n := by have h1 := hlen.out; rw [eg.out] at h1; simp at h1; omega
        have k0 : wr.cell? ⟨b, off + 9, none⟩ = some (.int .u8 (q : Int)) := by have h1 := HC.out 9 (by omega); rw [head_at (T := T) (R := []) hpre.out hk.out eg.out] at h1; exact h1
        have a1 := and127n q (by omega)
        rw [Nat.mod_eq_of_lt hq] at a1
        have o1 := orN acc q 63 (by decide) (by rw [show (2 : Nat) ^ 63 = 9223372036854775808 by decide]; exact ha) (by rw [show (2 : Nat) ^ 63 = 9223372036854775808 by decide]; omega)
        rw [show (2 : Nat) ^ 63 = 9223372036854775808 by decide, Int.natCast_mul, Int.natCast_add, Int.natCast_mul] at o1
        replace o1 : bits .or .u64 (acc : Int) ((q : Int) * 9223372036854775808) = (acc : Int) + (q : Int) * 9223372036854775808 := o1
        have lenr := Lib.hid (show ((grp m).length : Int) = 10 by rw [← hpre.out, List.length_append, hk.out, eg.out]; rfl)
        have fin := Lib.hid (show (m : Int) = (acc : Int) + (q : Int) * 9223372036854775808 by omega)
        have hwr : (q : Int) * 9223372036854775808 ≤ 18446744073709551615 := by omega
        go_wp2
        all_goals (refine bodyPost_ret (results_tmp2 rfl _ _ _) rfl ?_; refine ⟨?_, rfl⟩; rw [lenr.out, fin.out]; simp)
      · have eg := Lib.hid (grp_big hq)
        have hlt : (9 : Int) < n := by have h1 := hlen.out; rw [eg.out] at h1; simp at h1; omega
        have k0 : wr.cell? ⟨b, off + 9, none⟩ = some (.int .u8 ((q % 128 + 128 : Nat) : Int)) := by have h1 := HC.out 9 (by omega); rw [head_at (T := T) (R := grp (q / 128)) hpre.out hk.out eg.out] at h1; exact h1
        exact absurd hm (by omega)

end Go.Proofs.Ytbdmljdcipcanaa
