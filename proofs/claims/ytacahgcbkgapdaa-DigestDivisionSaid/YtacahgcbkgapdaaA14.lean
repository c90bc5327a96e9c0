/- The laws of the nil hash and of the lengths. -/
import Derived.Test.YtacahgcbkgapdaaA13
import Derived.Laws.MakeOwn
namespace Go.Proofs.Ytacahgcbkgapdaa
open Go.RowKit
set_option linter.unusedVariables false

set_option maxHeartbeats 1000000 in
set_option maxRecDepth 100000 in
theorem law_nil (ad : Option Addr) (n cap : Nat) (l : List Int) (w : World) (hs : SlB w ad n cap l) (hz : ad = none → n = 0 ∧ cap = 0) :
    Calls Try.prog 7 #[.slice ad n cap] w fun e w' => e = .returned (.bool true) ∧ Below w.heap.size w w' := by
  have HS := Lib.hid hs; clear hs
  have HL := Lib.hid HS.out.1
  have HD1 := Lib.hid sumNil_c
  have HD2 := Lib.hid (fun (w3 : World) => refSum_c none 0 0 [] w3 (SlB.nil w3 none 0 (by omega)) (by omega) (fun _ => ⟨rfl, rfl⟩))
  have HD3 := Lib.hid (fun (H : Nat) (w3 : World) (h : HMsg w3 H []) => sum_c H [] w3 (by simp) h)
  have lD : (dig []).length = 32 := dig_len []
  obtain ⟨D, hD⟩ : ∃ D, dig [] = D := ⟨_, rfl⟩
  rw [hD] at lD HD1 HD2 HD3
  clear hD
  go_enter Try.func7, Try.ntmps7
  go_wp2_with fail
  refine (awake_c w).mono ?_
  rintro e w1 ⟨rfl, hb1⟩
  have B1 := Lib.hid hb1
  have S1 := Lib.hid (HS.out.below hb1)
  clear hb1
  go_wp2_with fail
  refine (writeNil_c _ _ _ _ ).mono ?_
  rintro e w2 ⟨rfl, rfl⟩
  go_wp2_with fail
  refine (HD1.out w1).mono ?_
  rintro e w3 ⟨rfl, hb3⟩
  have B3 := Lib.hid (B1.out.trans (hb3.mono B1.out.size))
  clear hb3
  go_wp2_with fail
  refine (HD2.out w3).mono ?_
  rintro e w4 ⟨rfl, hb4⟩
  have B4 := Lib.hid (B3.out.trans (hb4.mono B3.out.size))
  clear hb4
  have q1 := eqIn_same w4 D lD
  have q2 := fun x y => grd w4 .eql x y (vals .u8 D).toArray (vals .u8 D).toArray
  go_wp2_with fail
  clear q1 q2
  refine (cloneNil_c _).mono ?_
  rintro e w5 ⟨rfl, rfl⟩
  go_wp2_with fail
  refine (new_c w4).mono ?_
  rintro e w6 ⟨rfl, hw6⟩
  have H6 : Hid (HMsg w6 w4.heap.size []) := Lib.hid (by rw [hw6]; exact hcells_new w4)
  have B6 : Hid (Below w.heap.size w w6) := Lib.hid (by rw [hw6]; exact B4.out.alloc B4.out.size _)
  clear hw6
  go_wp2_with fail
  refine (HD3.out _ w6 H6.out).mono ?_
  rintro e w7 ⟨rfl, hb7⟩
  have B7 := Lib.hid (B6.out.trans (hb7.mono B6.out.size))
  clear hb7
  go_wp2_with fail
  refine (HD1.out w7).mono ?_
  rintro e w8 ⟨rfl, hb8⟩
  have B8 := Lib.hid (B7.out.trans (hb8.mono B7.out.size))
  clear hb8
  have q1 := eqIn_same w8 D lD
  have q2 := fun x y => grd w8 .eql x y (vals .u8 D).toArray (vals .u8 D).toArray
  go_wp2
  refine bodyPost_ret (results_tmp rfl _ _ _) rfl ?_
  exact ⟨rfl, B8.out⟩
theorem made_bytes (n : Nat) : madeCells (Value.int .u8 0).cells n = (vals .u8 (List.replicate n 0)).toArray := by
  apply Array.ext
  · simp [madeCells]
  · intro i h1 h2
    simp [madeCells, Value.cells, Nat.mod_one]
theorem mk_bytes (w : World) (n : Nat) (hn : n ≤ 1073741824) : (Instr.makeSlice 22 (.int .i64 n) (.int .i64 n)).run Try.prog w = .ok (.slice (some ⟨w.heap.size, 0, none⟩) n n) (w.alloc (.cells (vals .u8 (List.replicate n 0)).toArray 5)) := by
  obtain ⟨i0, hi, hz0, hz1, hz2⟩ := info_parts info5z
  have := run_make (P := Try.prog) w 22 5 i0 (.int .u8 0) Try.underlying22 hi hz0 .i64 .i64 n n (by omega) (by omega) (by rw [hz2]; omega) (by omega)
  rw [this, hz1, Int.toNat_natCast, Nat.mul_one, made_bytes]
theorem fill_set {n i : Nat} (x : Int) (h : i < n) : (vals .u8 (List.replicate i x ++ List.replicate (n - i) 0)).set i (.int .u8 x) = vals .u8 (List.replicate (i + 1) x ++ List.replicate (n - (i + 1)) 0) := by
  rw [show n - i = (n - (i + 1)) + 1 by omega, List.replicate_succ, List.replicate_succ']
  unfold vals
  rw [List.map_append, List.map_cons, List.set_append_right _ _ (by simp)]
  simp
set_option maxHeartbeats 1000000 in
set_option maxRecDepth 100000 in
theorem law_lengths (N x : Int) (w : World) :
    Calls Try.prog 4 #[.int .i64 N, .int .u8 x] w fun e w' => e = .returned (.bool true) ∧ Below w.heap.size w w' := by
  obtain ⟨i0, hi, hz0, hz1, hz2⟩ := info_parts info5z
  by_cases hn : N < 0
  · go_enter Try.func4, Try.ntmps4
    go_wp2_with fail
    refine (awake_c w).mono ?_
    rintro e w1 ⟨rfl, hb1⟩
    have B1 := Lib.hid hb1
    clear hb1
    go_wp2_with fail
    refine (awake_c w1).mono ?_
    rintro e w2 ⟨rfl, hb2⟩
    have B2 := Lib.hid (B1.out.trans (hb2.mono B1.out.size))
    go_wp2
    refine bodyPost_ret (results_tmp rfl _ _ _) rfl ?_
    exact ⟨rfl, B2.out⟩
  · by_cases hn2 : 300 < N
    · go_enter Try.func4, Try.ntmps4
      go_wp2_with fail
      refine (awake_c w).mono ?_
      rintro e w1 ⟨rfl, hb1⟩
      have B1 := Lib.hid hb1
      clear hb1
      go_wp2_with fail
      refine (awake_c w1).mono ?_
      rintro e w2 ⟨rfl, hb2⟩
      have B2 := Lib.hid (B1.out.trans (hb2.mono B1.out.size))
      go_wp2
      refine bodyPost_ret (results_tmp rfl _ _ _) rfl ?_
      exact ⟨rfl, B2.out⟩
    · obtain ⟨n, rfl⟩ : ∃ n : Nat, N = (n : Int) := ⟨N.toNat, by omega⟩
      go_enter Try.func4, Try.ntmps4
      go_wp2_with fail
      refine (awake_c w).mono ?_
      rintro e w1 ⟨rfl, hb1⟩
      have B1 := Lib.hid hb1
      clear hb1
      go_wp2_with fail
      rw [mk_bytes w1 n (by omega)]
      obtain ⟨w2, hw2⟩ : ∃ w2, w1.alloc (.cells (vals .u8 (List.replicate n 0)).toArray 5) = w2 := ⟨_, rfl⟩
      have R2 : Hid (Row w2 w1.heap.size 5 (vals .u8 (List.replicate n 0))) := Lib.hid (by rw [← hw2]; exact Row.new w1 5 _)
      have B2 : Hid (Below w.heap.size w w2) := Lib.hid (by rw [← hw2]; exact B1.out.alloc B1.out.size _)
      rw [hw2]
      clear hw2
      go_wp2
      go_loopw [6] (fun s wr => ∃ i : Nat, i ≤ n ∧ s = .int .i64 i ∧ Row wr w1.heap.size 5 (vals .u8 (List.replicate i x ++ List.replicate (n - i) 0)) ∧ Below w.heap.size w wr) (fun s _ => n - (intOf s).toNat)
      case atStart => exact ⟨0, by omega, rfl, by simpa using R2.out, B2.out⟩
      case round =>
        clear R2 B2
        obtain ⟨i, hi, rfl, hr, hb⟩ := hrel
        have RR := Lib.hid hr; clear hr
        have BB := Lib.hid hb; clear hb
        by_cases hlt : i < n
        · have k0 := RR.out.cell i (vals_at (by simp; omega))
          have f0 := RR.out.frozen i
          generalize (List.replicate i x ++ List.replicate (n - i) 0).getD i 0 = y0 at k0
          have hst := Lib.hid (fill_set x hlt)
          go_wp2
          go_roundw
          case rel => exact ⟨i + 1, by omega, by go_num, by rw [← hst.out]; exact RR.out.set i _, BB.out.setCell (p := ⟨w1.heap.size, i, none⟩) B1.out.size _⟩
          case measure => simp [intOf]; omega
        · have hin : i = n := by omega
          have hr := RR.out
          rw [hin, Nat.sub_self, List.replicate_zero, List.append_nil] at hr
          have RN := Lib.hid hr
          clear hr RR hin
          have HD1 := Lib.hid (fun (va : Option Addr) (vc : Nat) (w2 : World) (h : SlB w2 va n vc (List.replicate n x)) => digestSum_c va n vc (List.replicate n x) w2 h (by omega))
          have HD2 := Lib.hid (fun (va : Option Addr) (vc : Nat) (w2 : World) (h : SlB w2 va n vc (List.replicate n x)) (hz : va = none → n = 0 ∧ vc = 0) => refSum_c va n vc (List.replicate n x) w2 h (by omega) hz)
          have lD : (dig (List.replicate n x)).length = 32 := dig_len _
          obtain ⟨D, hD⟩ : ∃ D, dig (List.replicate n x) = D := ⟨_, rfl⟩
          rw [hD] at lD HD1 HD2
          clear hD
          have S2 : Hid (SlB wr (some ⟨w1.heap.size, 0, none⟩) n n (List.replicate n x)) := Lib.hid ⟨by simp, by omega, by omega, .inr ⟨_, 0, rfl, RN.out.lt, fun i hi => by rw [Nat.zero_add]; exact RN.out.cell i (vals_at (by simpa using hi))⟩⟩
          clear RN
          go_wp2_with fail
          refine (HD1.out _ n wr S2.out).mono ?_
          rintro e w3 ⟨rfl, hb3⟩
          have S3 := Lib.hid (S2.out.below hb3)
          have B3 := Lib.hid (BB.out.trans (hb3.mono BB.out.size))
          clear hb3
          go_wp2_with fail
          refine (HD2.out _ n w3 S3.out (fun h => by cases h)).mono ?_
          rintro e w4 ⟨rfl, hb4⟩
          have B4 := Lib.hid (B3.out.trans (hb4.mono B3.out.size))
          clear hb4
          have q1 := eqIn_same w4 D lD
          have q2 := fun x y => grd w4 .eql x y (vals .u8 D).toArray (vals .u8 D).toArray
          go_wp2
          refine bodyPost_ret (results_tmp rfl _ _ _) rfl ?_
          exact ⟨rfl, B4.out⟩

end Go.Proofs.Ytacahgcbkgapdaa
