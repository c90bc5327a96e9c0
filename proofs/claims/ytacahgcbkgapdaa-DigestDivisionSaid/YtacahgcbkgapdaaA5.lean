/- The reference processes a block. -/
import Derived.Test.YtacahgcbkgapdaaA4
namespace Go.Proofs.Ytacahgcbkgapdaa
open Go.RowKit
set_option linter.unusedVariables false

/-- a slice of n bytes that reads as l -/
def BytesAt (w : World) (b off : Nat) (l : List Int) : Prop := ∀ i, i < l.length → w.cell? ⟨b, off + i, none⟩ = some (.int .u8 (l.getD i 0))
theorem addTo_set (st s : List Int) (k : Nat) (h : k < st.length) : (vals .u32 (addTo st s k)).set k (.int .u32 (((addTo st s k).getD k 0 + s.getD k 0) % 4294967296)) = vals .u32 (addTo st s (k + 1)) := by
  have := addTo_step st s k [] 0 0 h
  unfold hcells at this
  rw [List.append_assoc, List.append_assoc, List.set_append_left _ _ (by simpa [addTo_len] using h)] at this
  exact List.append_cancel_right this
theorem Row.at37 {w : World} {g : Nat} {l : List Int} (h : Row w g 37 (vals .u32 l)) {i : Nat} (hi : i < l.length) : w.cell? ⟨g, i, none⟩ = some (.int .u32 (l.getD i 0)) := h.cell i (vals_at hi)
theorem BytesAt.below {w w' : World} {b off : Nat} {l : List Int} {B : Nat} (h : BytesAt w b off l) (hb : Below B w w') (hlt : b < B) : BytesAt w' b off l :=
  fun i hi => (hb.cell (p := ⟨b, off + i, none⟩) hlt).trans (h i hi)
set_option maxHeartbeats 4000000 in
set_option maxRecDepth 100000 in
theorem blockd_c (a0 b0 c0 d0 e0 f0 g0 h0 : Int) (b off cap : Nat) (B : List Int) (w : World) (hB : B.length = 64) (hcap : 64 ≤ cap) (hbw : b < w.heap.size) (hby : BytesAt w b off B) :
    Calls Try.prog 16 #[.agg (vals .u32 [a0, b0, c0, d0, e0, f0, g0, h0]).toArray, .slice (some ⟨b, off, none⟩) 64 cap] w fun e w' => e = .returned (.agg (vals .u32 (blk [a0, b0, c0, d0, e0, f0, g0, h0] B)).toArray) ∧ Below w.heap.size w w' := by
  have HB := Lib.hid hB; clear hB
  have HY := Lib.hid hby; clear hby
  have HCC := Lib.hid (fun w => constantsd_c w)
  obtain ⟨KK, hKK⟩ : ∃ KK, kc = KK := ⟨_, rfl⟩
  have lK := kc_len
  rw [hKK] at HCC lK
  have HKK := Lib.hid hKK
  clear hKK
  go_enter Try.func16, Try.ntmps16
  go_wp2_with fail
  refine (HCC.out _).mono ?_
  rintro e w2 ⟨rfl, hb2⟩
  have S2 := Lib.hid (((Row.new w 37 (vals .u32 [a0, b0, c0, d0, e0, f0, g0, h0])).alloc (.cells (vals .u32 [0, 0, 0, 0, 0, 0, 0, 0]).toArray 37)).below hb2 (by simp only [World.size_alloc]; omega))
  have R2 : Hid (Row w2 (w.heap.size + 1) 37 (vals .u32 [0, 0, 0, 0, 0, 0, 0, 0])) := Lib.hid (by
    have := Row.new (w.alloc (.cells (vals .u32 [a0, b0, c0, d0, e0, f0, g0, h0]).toArray 37)) 37 (vals .u32 [0, 0, 0, 0, 0, 0, 0, 0])
    rw [World.size_alloc] at this
    exact this.below hb2 (by simp only [World.size_alloc]; omega))
  have B2 : Hid (Below w.heap.size w w2) := Lib.hid ((((Below.refl _ _).alloc (Nat.le_refl _) _).alloc (by simp) _).trans (hb2.mono (by simp; omega)))
  have Z2 : Hid (w.heap.size + 2 ≤ w2.heap.size) := Lib.hid (by have := hb2.size; simp at this; omega)
  clear hb2
  go_wp2_with fail
  obtain ⟨w3, hw3⟩ : ∃ w3 : World, w3 = w2.alloc (.cells (part [] 64).toArray 44) := ⟨_, rfl⟩
  have r0 : Hid (Row w3 w2.heap.size 44 (part [] 64)) := Lib.hid (by rw [hw3]; exact Row.new w2 44 _)
  have S3 := Lib.hid (show Row w3 w.heap.size 37 _ by rw [hw3]; exact S2.out.alloc _)
  have R3 := Lib.hid (show Row w3 (w.heap.size + 1) 37 _ by rw [hw3]; exact R2.out.alloc _)
  have B3 : Hid (Below w.heap.size w w3) := Lib.hid (by rw [hw3]; exact B2.out.alloc (by have := Z2.out; omega) _)
  have Z3 : Hid (w3.heap.size = w2.heap.size + 1) := Lib.hid (by rw [hw3]; simp)
  simp only [part_zero, vals, List.replicate, List.map_cons, List.map_nil] at hw3
  rw [← hw3]
  clear hw3 S2 R2 B2
  rw [storeRow r0.out (by simp [part, lK]) vals_one']
  simp only [Result.andThen_ok]
  rw [Oper.upon_skip]
  obtain ⟨w4, hw4⟩ : ∃ w4 : World, w4 = w3.setRow w2.heap.size (vals .u32 KK).toArray := ⟨_, rfl⟩
  rw [← hw4]
  have RK4 : Hid (Row w4 w2.heap.size 44 (vals .u32 KK)) := Lib.hid (by rw [hw4]; exact r0.out.setRow _)
  have S4 := Lib.hid (show Row w4 w.heap.size 37 _ by rw [hw4]; exact S3.out.otherRow _ (by have := Z2.out; omega))
  have R4 := Lib.hid (show Row w4 (w.heap.size + 1) 37 _ by rw [hw4]; exact R3.out.otherRow _ (by have := Z2.out; omega))
  have B4 : Hid (Below w.heap.size w w4) := Lib.hid (by rw [hw4]; exact below_setRow B3.out (by have := Z2.out; omega) _)
  have Z4 : Hid (w4.heap.size = w2.heap.size + 1) := Lib.hid (by rw [hw4]; simp [World.setRow, Z3.out])
  clear hw4 r0 S3 R3 B3 Z3
  go_upto_region 3 with fail
  obtain ⟨w5, hw5⟩ : ∃ w5 : World, w5 = w4.alloc (.cells (part [] 64).toArray 44) := ⟨_, rfl⟩
  have W5 : Hid (Row w5 w4.heap.size 44 (part [] 64)) := Lib.hid (by rw [hw5]; exact Row.new w4 44 _)
  have RK5 := Lib.hid (show Row w5 w2.heap.size 44 _ by rw [hw5]; exact RK4.out.alloc _)
  have S5 := Lib.hid (show Row w5 w.heap.size 37 _ by rw [hw5]; exact S4.out.alloc _)
  have R5 := Lib.hid (show Row w5 (w.heap.size + 1) 37 _ by rw [hw5]; exact R4.out.alloc _)
  have B5 : Hid (Below w.heap.size w w5) := Lib.hid (by rw [hw5]; exact B4.out.alloc (by have := Z2.out; have := Z4.out; omega) _)
  simp only [part_zero, vals, List.replicate, List.map_cons, List.map_nil] at hw5
  rw [← hw5]
  clear hw5 RK4 S4 R4 B4
  go_wp2
  go_loopw [7] (fun s wr => ∃ k : Nat, k ≤ 16 ∧ s = .int .i64 k ∧ Row wr w4.heap.size 44 (part (sch B k) 64) ∧ Row wr w2.heap.size 44 (vals .u32 KK) ∧ Row wr w.heap.size 37 (vals .u32 [a0, b0, c0, d0, e0, f0, g0, h0]) ∧ Row wr (w.heap.size + 1) 37 (vals .u32 [0, 0, 0, 0, 0, 0, 0, 0]) ∧ Below w.heap.size w wr) (fun s _ => 16 - (intOf s).toNat)
  case atStart => exact ⟨0, by omega, rfl, by rw [sch_zero]; exact W5.out, RK5.out, S5.out, R5.out, B5.out⟩
  case round =>
    clear W5 RK5 S5 R5 B5
    obtain ⟨k, hk, rfl, hrw, hrk, hrs, hrr, hbl⟩ := hrel
    have HRW := Lib.hid hrw; clear hrw
    have HRK := Lib.hid hrk; clear hrk
    have HRS := Lib.hid hrs; clear hrs
    have HRR := Lib.hid hrr; clear hrr
    have HBL := Lib.hid hbl; clear hbl
    by_cases hlt : k < 16
    · have hlk := Lib.hid (sch_len B k)
      have HX := Lib.hid (HY.out.below HBL.out hbw)
      have hn : Hid (wd B (sch B k) k = ldw (B.getD (4 * k) 0) (B.getD (4 * k + 1) 0) (B.getD (4 * k + 2) 0) (B.getD (4 * k + 3) 0)) := Lib.hid (by unfold wd; rw [if_pos hlt])
      have g0 := HX.out (4 * k) (by rw [HB.out]; omega)
      have g1 := HX.out (4 * k + 1) (by rw [HB.out]; omega)
      have g2 := HX.out (4 * k + 2) (by rw [HB.out]; omega)
      have g3 := HX.out (4 * k + 3) (by rw [HB.out]; omega)
      obtain ⟨x0, hx0⟩ : ∃ x, B.getD (4 * k) 0 = x := ⟨_, rfl⟩
      obtain ⟨x1, hx1⟩ : ∃ x, B.getD (4 * k + 1) 0 = x := ⟨_, rfl⟩
      obtain ⟨x2, hx2⟩ : ∃ x, B.getD (4 * k + 2) 0 = x := ⟨_, rfl⟩
      obtain ⟨x3, hx3⟩ : ∃ x, B.getD (4 * k + 3) 0 = x := ⟨_, rfl⟩
      rw [hx0] at g0 hn
      rw [hx1] at g1 hn
      rw [hx2] at g2 hn
      rw [hx3] at g3 hn
      clear hx0 hx1 hx2 hx3
      have e0 : wr.cell? ⟨w4.heap.size, k, none⟩ = some (.int .u32 0) := HRW.out.cell k (by have := part_next (l := sch B k) (n := 64) (by rw [hlk.out]; omega); rwa [hlk.out] at this)
      have f0 := HRW.out.frozen k
      have b1 : 4 * (k : Int) < 64 := by omega
      have b2 : 4 * (k : Int) + 1 < 64 := by omega
      have b3 : 4 * (k : Int) + 2 < 64 := by omega
      have b4 : 4 * (k : Int) + 3 < 64 := by omega
      have b5 : (4 * (k : Int)).toNat = 4 * k := by omega
      have b6 : (4 * (k : Int) + 1).toNat = 4 * k + 1 := by omega
      have b7 : (4 * (k : Int) + 2).toNat = 4 * k + 2 := by omega
      have b8 : (4 * (k : Int) + 3).toNat = 4 * k + 3 := by omega
      have p1 : 0 ≤ 4 * (k : Int) := by omega
      have p2 : 0 ≤ 4 * (k : Int) + 1 := by omega
      have p3 : 0 ≤ 4 * (k : Int) + 2 := by omega
      have p4 : 0 ≤ 4 * (k : Int) + 3 := by omega
      go_wp2
      go_region
      go_wp2
      go_roundw
      case rel =>
        have z2 := Z2.out
        have z4 := Z4.out
        refine ⟨k + 1, by omega, by go_num, ?_, HRK.out.other _ _ _ (by omega), HRS.out.other _ _ _ (by omega), HRR.out.other _ _ _ (by omega), below_drew (HBL.out.setCell (p := ⟨w4.heap.size, k, none⟩) (by show _ ≤ w4.heap.size; omega) _) 1⟩
        have := HRW.out.set k (.int .u32 (wd B (sch B k) k))
        rw [part_push (by rw [hlk.out]; omega) hlk.out, hn.out] at this
        rw [sch_succ]
        rw [hn.out]
        exact this
      case measure => simp [intOf]; omega
    · have hk16 : k = 16 := by omega
      have hl := HRW.out
      rw [hk16] at hl
      have HRW2 := Lib.hid hl
      clear hk hk16 HRW hl
      go_wp2
      obtain ⟨wa, rfl⟩ : ∃ wa : World, wa = wr := ⟨_, rfl⟩
      go_loopw [8] (fun s wr => ∃ k : Nat, 16 ≤ k ∧ k ≤ 64 ∧ s = .int .i64 k ∧ Row wr w4.heap.size 44 (part (sch B k) 64) ∧ Row wr w2.heap.size 44 (vals .u32 KK) ∧ Row wr w.heap.size 37 (vals .u32 [a0, b0, c0, d0, e0, f0, g0, h0]) ∧ Row wr (w.heap.size + 1) 37 (vals .u32 [0, 0, 0, 0, 0, 0, 0, 0]) ∧ Below w.heap.size w wr) (fun s _ => 64 - (intOf s).toNat)
      case atStart => exact ⟨16, by omega, by omega, rfl, HRW2.out, HRK.out, HRS.out, HRR.out, HBL.out⟩
      case round =>
        clear HRW2 HRK HRS HRR HBL
        obtain ⟨k, hk0, hk, rfl, hrw, hrk, hrs, hrr, hbl⟩ := hrel
        have HRW := Lib.hid hrw; clear hrw
        have HRK := Lib.hid hrk; clear hrk
        have HRS := Lib.hid hrs; clear hrs
        have HRR := Lib.hid hrr; clear hrr
        have HBL := Lib.hid hbl; clear hbl
        by_cases hlt : k < 64
        · have hlk := Lib.hid (sch_len B k)
          have hn : Hid (wd B (sch B k) k = mix ((sch B k).getD (k - 16) 0) ((sch B k).getD (k - 7) 0) (s0w ((sch B k).getD (k - 15) 0)) (s1w ((sch B k).getD (k - 2) 0))) := Lib.hid (by unfold wd; rw [if_neg (by omega)])
          have g0 := HRW.out.cell (k - 15) (part_at (by rw [hlk.out]; omega))
          have g1 := HRW.out.cell (k - 2) (part_at (by rw [hlk.out]; omega))
          have g2 := HRW.out.cell (k - 16) (part_at (by rw [hlk.out]; omega))
          have g3 := HRW.out.cell (k - 7) (part_at (by rw [hlk.out]; omega))
          obtain ⟨x0, hx0⟩ : ∃ x, (sch B k).getD (k - 15) 0 = x := ⟨_, rfl⟩
          obtain ⟨x1, hx1⟩ : ∃ x, (sch B k).getD (k - 2) 0 = x := ⟨_, rfl⟩
          obtain ⟨x2, hx2⟩ : ∃ x, (sch B k).getD (k - 16) 0 = x := ⟨_, rfl⟩
          obtain ⟨x3, hx3⟩ : ∃ x, (sch B k).getD (k - 7) 0 = x := ⟨_, rfl⟩
          rw [hx0] at g0 hn
          rw [hx1] at g1 hn
          rw [hx2] at g2 hn
          rw [hx3] at g3 hn
          clear hx0 hx1 hx2 hx3
          have e0 : wr.cell? ⟨w4.heap.size, k, none⟩ = some (.int .u32 0) := HRW.out.cell k (by have := part_next (l := sch B k) (n := 64) (by rw [hlk.out]; omega); rwa [hlk.out] at this)
          have f0 := HRW.out.frozen k
          have c1 : ((k : Int) - 15).toNat = k - 15 := by omega
          have c2 : ((k : Int) - 2).toNat = k - 2 := by omega
          have c3 : ((k : Int) - 16).toNat = k - 16 := by omega
          have c4 : ((k : Int) - 7).toNat = k - 7 := by omega
          have p1 : 0 ≤ (k : Int) - 15 := by omega
          have p2 : 0 ≤ (k : Int) - 2 := by omega
          have p3 : 0 ≤ (k : Int) - 16 := by omega
          have p4 : 0 ≤ (k : Int) - 7 := by omega
          have q1 : (k : Int) - 15 < 64 := by omega
          have q2 : (k : Int) - 2 < 64 := by omega
          have q3 : (k : Int) - 16 < 64 := by omega
          have q4 : (k : Int) - 7 < 64 := by omega
          go_wp2
          go_quiet (fail)
          go_wp2_with fail
          refine (rotd_7 _ _).mono ?_
          rintro e w' ⟨rfl, n1, rfl⟩
          go_wp2_with fail
          refine (rotd_18 _ _).mono ?_
          rintro e w' ⟨rfl, n2, rfl⟩
          go_wp2_with fail
          refine (rotd_17 _ _).mono ?_
          rintro e w' ⟨rfl, n3, rfl⟩
          go_wp2_with fail
          refine (rotd_19 _ _).mono ?_
          rintro e w' ⟨rfl, n4, rfl⟩
          go_wp2_with fail
          go_region
          go_wp2
          go_roundw
          case rel =>
            have z2 := Z2.out
            have z4 := Z4.out
            refine ⟨k + 1, by omega, by omega, by go_num, ?_, (HRK.out.drewN _).other _ _ _ (by omega), (HRS.out.drewN _).other _ _ _ (by omega), (HRR.out.drewN _).other _ _ _ (by omega), (below_drew HBL.out _).setCell (p := ⟨w4.heap.size, k, none⟩) (by show _ ≤ w4.heap.size; omega) _⟩
            have := (HRW.out.drewN 1).set k (.int .u32 (wd B (sch B k) k))
            rw [part_push (by rw [hlk.out]; omega) hlk.out, hn.out] at this
            rw [sch_succ]
            rw [hn.out]
            exact this
          case measure => simp [intOf]; omega
        · have hk64 : k = 64 := by omega
          have LEN := Lib.hid (sch_len B 64)
          have hl := HRW.out
          rw [hk64, part_full LEN.out] at hl
          clear hk64
          obtain ⟨W, hW⟩ : ∃ W, sch B 64 = W := ⟨_, rfl⟩
          rw [hW] at hl LEN
          have HW := Lib.hid hW
          have HWW := Lib.hid hl
          clear hl HRW hW
          have k0 := HRS.out.cell 0 (v := .int .u32 a0) rfl
          have k1 := HRS.out.cell 1 (v := .int .u32 b0) rfl
          have k2 := HRS.out.cell 2 (v := .int .u32 c0) rfl
          have k3 := HRS.out.cell 3 (v := .int .u32 d0) rfl
          have k4 := HRS.out.cell 4 (v := .int .u32 e0) rfl
          have k5 := HRS.out.cell 5 (v := .int .u32 f0) rfl
          have k6 := HRS.out.cell 6 (v := .int .u32 g0) rfl
          have k7 := HRS.out.cell 7 (v := .int .u32 h0) rfl
          go_wp2
          clear k0 k1 k2 k3 k4 k5 k6 k7
          obtain ⟨wv, rfl⟩ : ∃ wv : World, wv = wr := ⟨_, rfl⟩
          have v1 := Lib.hid HWW.out.lt
          have v2 := Lib.hid HRK.out.lt
          have v3 := Lib.hid HRR.out.lt
          have V0 := Lib.hid (Row.new wv 37 (vals .u32 [a0, b0, c0, d0, e0, f0, g0, h0]))
          have W0 := Lib.hid (HWW.out.alloc (.cells (vals .u32 [a0, b0, c0, d0, e0, f0, g0, h0]).toArray 37))
          have K0 := Lib.hid (HRK.out.alloc (.cells (vals .u32 [a0, b0, c0, d0, e0, f0, g0, h0]).toArray 37))
          have S0 := Lib.hid (HRS.out.alloc (.cells (vals .u32 [a0, b0, c0, d0, e0, f0, g0, h0]).toArray 37))
          have R0 := Lib.hid (HRR.out.alloc (.cells (vals .u32 [a0, b0, c0, d0, e0, f0, g0, h0]).toArray 37))
          have L0 := Lib.hid (HBL.out.alloc (o := .cells (vals .u32 [a0, b0, c0, d0, e0, f0, g0, h0]).toArray 37) (by have := v3.out; omega))
          clear HWW HRK HRS HRR HBL
          go_loopw [14] (fun s wr => ∃ (k : Nat) (a b c d e f g p : Int), k ≤ 64 ∧ s = .int .i64 k ∧ Hid (rnds W k [a0, b0, c0, d0, e0, f0, g0, h0] = [a, b, c, d, e, f, g, p]) ∧ Row wr wv.heap.size 37 (vals .u32 [a, b, c, d, e, f, g, p]) ∧ Row wr w4.heap.size 44 (vals .u32 W) ∧ Row wr w2.heap.size 44 (vals .u32 KK) ∧ Row wr w.heap.size 37 (vals .u32 [a0, b0, c0, d0, e0, f0, g0, h0]) ∧ Row wr (w.heap.size + 1) 37 (vals .u32 [0, 0, 0, 0, 0, 0, 0, 0]) ∧ Below w.heap.size w wr) (fun s _ => 64 - (intOf s).toNat)
          case atStart => exact ⟨0, a0, b0, c0, d0, e0, f0, g0, h0, by omega, rfl, Lib.hid (rnds_zero _ _), V0.out, W0.out, K0.out, S0.out, R0.out, L0.out⟩
          case round =>
            clear V0 W0 K0 S0 R0 L0
            obtain ⟨k, a, b, c, d, e, f, g, p, hk, rfl, HI, hs, hw, hkk, hss, hrr, hbl⟩ := hrel
            have HS := Lib.hid hs; clear hs
            have HRW := Lib.hid hw; clear hw
            have HRK := Lib.hid hkk; clear hkk
            have HRS := Lib.hid hss; clear hss
            have HRR := Lib.hid hrr; clear hrr
            have HBL := Lib.hid hbl; clear hbl
            by_cases hlt : k < 64
            · have k0 := HS.out.cell 0 (v := .int .u32 a) rfl
              have k1 := HS.out.cell 1 (v := .int .u32 b) rfl
              have k2 := HS.out.cell 2 (v := .int .u32 c) rfl
              have k3 := HS.out.cell 3 (v := .int .u32 d) rfl
              have k4 := HS.out.cell 4 (v := .int .u32 e) rfl
              have k5 := HS.out.cell 5 (v := .int .u32 f) rfl
              have k6 := HS.out.cell 6 (v := .int .u32 g) rfl
              have k7 := HS.out.cell 7 (v := .int .u32 p) rfl
              have k8 := HRW.out.cell k (vals_at (by rw [LEN.out]; exact hlt))
              have k9 := HRK.out.cell k (vals_at (by omega))
              have z0 := HS.out.frozen 0
              have z1 := HS.out.frozen 1
              have z2 := HS.out.frozen 2
              have z3 := HS.out.frozen 3
              have z4 := HS.out.frozen 4
              have z5 := HS.out.frozen 5
              have z6 := HS.out.frozen 6
              have z7 := HS.out.frozen 7
              obtain ⟨x0, hx0⟩ : ∃ x, W.getD k 0 = x := ⟨_, rfl⟩
              obtain ⟨x1, hx1⟩ : ∃ x, KK.getD k 0 = x := ⟨_, rfl⟩
              rw [hx0] at k8
              rw [hx1] at k9
              have X0 := Lib.hid hx0
              have X1 := Lib.hid hx1
              clear hx0 hx1
              go_wp2
              go_quiet (fail)
              go_wp2
              go_quiet (first | (go_at_call_of 19 (Value.int IntKind.i64 6); exact qadd (rotd_6 _ _)) | (go_at_call_of 19 (Value.int IntKind.i64 11); exact qadd (rotd_11 _ _)) | (go_at_call_of 19 (Value.int IntKind.i64 25); exact qadd (rotd_25 _ _)))
              go_wp2
              go_quiet (first | (go_at_call_of 19 (Value.int IntKind.i64 2); exact qadd (rotd_2 _ _)) | (go_at_call_of 19 (Value.int IntKind.i64 13); exact qadd (rotd_13 _ _)) | (go_at_call_of 19 (Value.int IntKind.i64 22); exact qadd (rotd_22 _ _)))
              go_wp2
              go_roundw
              case rel =>
                have z1 := v1.out
                have z2 := v2.out
                have z3 := v3.out
                refine ⟨k + 1, na a b c e f g p x1 x0, a, b, c, ne d e f g p x1 x0, e, f, g, by omega, by go_num, ?_, ?_, ?_, ?_, ?_, ?_, ?_⟩
                · exact Lib.hid (by rw [rnds_succ, HI.out, HKK.out, X0.out, X1.out]; rfl)
                · exact ((((((((HS.out.drewN _).set 0 _).set 1 _).set 2 _).set 3 _).set 4 _).set 5 _).set 6 _).set 7 _
                · exact (HRW.out.drewN _).other8 (by omega) _ _ _ _ _ _ _ _
                · exact (HRK.out.drewN _).other8 (by omega) _ _ _ _ _ _ _ _
                · exact (HRS.out.drewN _).other8 (by omega) _ _ _ _ _ _ _ _
                · exact (HRR.out.drewN _).other8 (by omega) _ _ _ _ _ _ _ _
                · exact Below.set8 (below_drew HBL.out _) (by omega) _ _ _ _ _ _ _ _
              case measure => simp [intOf]; omega
            · have hk64 : k = 64 := by omega
              have hi := HI.out
              rw [hk64] at hi
              have HF : Hid (blk [a0, b0, c0, d0, e0, f0, g0, h0] B = addTo [a0, b0, c0, d0, e0, f0, g0, h0] [a, b, c, d, e, f, g, p] 8) := Lib.hid (by unfold blk; rw [HW.out, hi])
              clear hi hk64 HI HRW HRK
              go_wp2
              obtain ⟨wb, rfl⟩ : ∃ wb : World, wb = wr := ⟨_, rfl⟩
              go_loopw [19] (fun s wr => ∃ j : Nat, j ≤ 8 ∧ s = .int .i64 j ∧ Row wr w.heap.size 37 (vals .u32 (addTo [a0, b0, c0, d0, e0, f0, g0, h0] [a, b, c, d, e, f, g, p] j)) ∧ Row wr wv.heap.size 37 (vals .u32 [a, b, c, d, e, f, g, p]) ∧ Row wr (w.heap.size + 1) 37 (vals .u32 [0, 0, 0, 0, 0, 0, 0, 0]) ∧ Below w.heap.size w wr) (fun s _ => 8 - (intOf s).toNat)
              case atStart => exact ⟨0, by omega, rfl, by rw [addTo_zero]; exact HRS.out, HS.out, HRR.out, HBL.out⟩
              case round =>
                clear HRS HS HRR HBL
                obtain ⟨j, hj, rfl, hss, hvv, hrr, hbl⟩ := hrel
                have HRS := Lib.hid hss; clear hss
                have HS := Lib.hid hvv; clear hvv
                have HRR := Lib.hid hrr; clear hrr
                have HBL := Lib.hid hbl; clear hbl
                by_cases hlt : j < 8
                · have hx := HRS.out.at37 (i := j) (by rw [addTo_len]; exact hlt)
                  have hy := HS.out.at37 (i := j) hlt
                  have hz := HRS.out.frozen j
                  have hst := Lib.hid (addTo_set [a0, b0, c0, d0, e0, f0, g0, h0] [a, b, c, d, e, f, g, p] j hlt)
                  obtain ⟨y0, hy0⟩ : ∃ x, (addTo [a0, b0, c0, d0, e0, f0, g0, h0] [a, b, c, d, e, f, g, p] j).getD j 0 = x := ⟨_, rfl⟩
                  obtain ⟨y1, hy1⟩ : ∃ x, [a, b, c, d, e, f, g, p].getD j 0 = x := ⟨_, rfl⟩
                  rw [hy0] at hx hst
                  rw [hy1] at hy hst
                  clear hy0 hy1
                  go_wp2
                  go_region
                  go_wp2
                  go_roundw
                  case rel =>
                    have z1 := v1.out
                    have z3 := v3.out
                    refine ⟨j + 1, by omega, by go_num, ?_, HS.out.other _ _ _ (by omega), HRR.out.other _ _ _ (by omega), below_drew (HBL.out.setCell (p := ⟨w.heap.size, j, none⟩) (Nat.le_refl _) _) 1⟩
                    have := HRS.out.set j (.int .u32 ((y0 + y1) % 4294967296))
                    rw [hst.out] at this
                    exact this
                  case measure => simp [intOf]; omega
                · have hj8 : j = 8 := by omega
                  have hr := HRS.out
                  rw [hj8, ← HF.out] at hr
                  have LL : Hid ((blk [a0, b0, c0, d0, e0, f0, g0, h0] B).length = 8) := Lib.hid (by rw [HF.out, addTo_len]; rfl)
                  obtain ⟨Z, hZ⟩ : ∃ Z, blk [a0, b0, c0, d0, e0, f0, g0, h0] B = Z := ⟨_, rfl⟩
                  rw [hZ] at hr LL
                  have HZ := Lib.hid hZ
                  have HRH2 := Lib.hid hr
                  clear hr hj8 HRS HF hZ
                  have hs8 : Hid ((Try.prog.info? 37).map (·.size) = some (vals .u32 Z).toArray.size) := Lib.hid (by rw [info37]; simp [LL.out])
                  go_upto_region 26 with fail
                  go_step
                  refine wpList_load_row rfl 37 _ rfl w.heap.size rfl 37 (vals .u32 Z).toArray (0, 0) _ HRH2.out Try.underlying37 rfl hs8.out ?_
                  refine wpList_store_row rfl 37 _ _ rfl (w.heap.size + 1) (vals .u32 Z).toArray rfl rfl 37 _ HRR.out hs8.out (by simp [LL.out]) vals_one ?_
                  go_wp2_with fail
                  refine bodyPost_ret (v := .agg (vals .u32 Z).toArray) (results_cell_row rfl _ _ (w.heap.size + 1) 37 _ (0, 0) _ rfl (setRow_heap _ _ _ _ _ _ HRR.out) Try.underlying37 rfl hs8.out) rfl ⟨by rw [HZ.out], ?_⟩
                  exact below_setRow HBL.out (by omega) _

end Go.Proofs.Ytacahgcbkgapdaa
