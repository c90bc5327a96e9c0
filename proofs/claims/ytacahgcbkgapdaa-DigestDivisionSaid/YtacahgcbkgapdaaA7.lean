/- Bytes are written to a hash. -/
import Derived.Test.YtacahgcbkgapdaaA6
namespace Go.Proofs.Ytacahgcbkgapdaa
open Go.RowKit
set_option linter.unusedVariables false

theorem hcells_set72 {st B : List Int} {u t x : Int} (hs : st.length = 8) (hb : B.length = 64) : (hcells st B u t).set 72 (.int .i64 x) = hcells st B x t := by
  unfold hcells
  rw [List.set_append_right _ _ (by simp [hs, hb])]
  simp [hs, hb]
theorem hcells_set73 {st B : List Int} {u t x : Int} (hs : st.length = 8) (hb : B.length = 64) : (hcells st B u t).set 73 (.int .u64 x) = hcells st B u x := by
  unfold hcells
  rw [List.set_append_right _ _ (by simp [hs, hb])]
  simp [hs, hb]
theorem grown_setRow {w w' : World} {H : Nat} (h : w.grownBy w' (some H)) (cs : Array Value) : w.grownBy (w'.setRow H cs) (some H) :=
  ⟨h.os, h.tape, h.output, by simpa [World.setRow] using h.size, fun k hk hne => by
    rw [setRow_other w' H k cs (fun e => hne (by rw [e]))]; exact h.block k hk hne⟩
theorem take_in {B X buf : List Int} {q c : Nat} (hB : B.length = 64) (hT : B.take q = buf) (hX : X.length = c) (h : q + c ≤ 64) : (B.take q ++ (X ++ B.drop (q + X.length))).take (q + c) = buf ++ X := by
  have hl : buf.length = q := by rw [← hT]; simp; omega
  rw [hT, ← List.append_assoc, List.take_append_of_le_length (by simp; omega), List.take_of_length_le (by simp; omega)]
theorem grown_trans {w w1 w2 : World} {H : Nat} (h : w.grownBy w1 (some H)) (h2 : w1.grownBy w2 (some H)) : w.grownBy w2 (some H) :=
  ⟨h2.os.trans h.os, h2.tape.trans h.tape, h2.output.trans h.output, Nat.le_trans h.size h2.size, fun k hk hne => (h2.block k (Nat.lt_of_lt_of_le hk h.size) hne).trans (h.block k hk hne)⟩
theorem eight {l : List Int} (h : l.length = 8) : ∃ a b c d e f g p, l = [a, b, c, d, e, f, g, p] := by
  match l, h with
  | [a, b, c, d, e, f, g, p], _ => exact ⟨a, b, c, d, e, f, g, p, rfl⟩
theorem process_any (H : Nat) (st B : List Int) (u t : Int) (w : World) (hs : st.length = 8) (hB : B.length = 64) (hrow : Row w H 41 (hcells st B u t)) :
    Calls Try.prog 17 #[.pointer (some ⟨H, 0, none⟩)] w fun e w' => e = .returned (.tuple #[]) ∧ Row w' H 41 (hcells (blk st B) B u t) ∧ w.grownBy w' (some H) := by
  obtain ⟨a, b, c, d, e, f, g, p, rfl⟩ := eight hs
  exact process_c H a b c d e f g p B u t w hB hrow
set_option maxHeartbeats 4000000 in
set_option maxRecDepth 100000 in
theorem write_c (H b off n cap : Nat) (ad : Option Addr) (st buf l : List Int) (t : Int) (w : World) (hl : l.length = n) (hn : n ≤ cap) (hc : cap ≤ 9223372036854775807) (ht0 : 0 ≤ t) (ht1 : t + n ≤ 1099511627776) (hbH : b ≠ H)
    (hh : HAt w H st buf t) (had : 0 < n → ad = some ⟨b, off, none⟩) (hby : ∀ i, i < n → w.cell? ⟨b, off + i, none⟩ = some (.int .u8 (l.getD i 0))) :
    Calls Try.prog 13 #[.pointer (some ⟨H, 0, none⟩), .slice ad n cap] w fun e w' => e = .returned (.tuple #[]) ∧ HAt w' H (runB st (buf ++ l)).1 (runB st (buf ++ l)).2 (t + n) ∧ w.grownBy w' (some H) := by
  obtain ⟨hst, hbl, B0, hB0, hT0, hrow⟩ := hh
  have HST0 := Lib.hid hst; clear hst
  have HB0 := Lib.hid hB0; clear hB0
  have HL := Lib.hid hl; clear hl
  have HY := Lib.hid hby; clear hby
  have HR0 := Lib.hid hrow; clear hrow
  have HT0 := Lib.hid hT0; clear hT0
  have HAD := Lib.hid had; clear had
  have k0 := HR0.out.cell 73 (hcells_total HST0.out HB0.out)
  have k1 := HR0.out.frozen 73
  have hH := HR0.out.lt
  go_enter Try.func13, Try.ntmps13
  go_wp2
  obtain ⟨T, hT⟩ : ∃ T : Int, t + n = T := ⟨_, rfl⟩
  rw [hT]
  have HTT := Lib.hid hT
  clear hT k0 k1
  have hr0 := HR0.out.set 73 (.int .u64 T)
  rw [hcells_set73 HST0.out HB0.out] at hr0
  have HA0 : Hid (HAt (w.setCell ⟨H, 73, none⟩ (.int .u64 T)) H st buf T) := Lib.hid ⟨HST0.out, hbl, B0, HB0.out, HT0.out, hr0⟩
  have HG0 : Hid (w.grownBy (w.setCell ⟨H, 73, none⟩ (.int .u64 T)) (some H)) := Lib.hid (grown_set (grown_below (Below.refl _ _) _) _ _)
  clear hr0 HR0 HST0 HB0 HT0 hbl
  go_loopw [1] (fun s wr => ∃ (k m cp : Nat) (ad : Option Addr) (st1 buf1 : List Int), Hid (k + m = n) ∧ m ≤ cp ∧ cp ≤ 9223372036854775807 ∧ Hid (0 < m → ad = some ⟨b, off + k, none⟩) ∧ s = .slice ad m cp ∧ HAt wr H st1 buf1 T ∧ Hid (runB st1 (buf1 ++ l.drop k) = runB st (buf ++ l)) ∧ w.grownBy wr (some H)) (fun s _ => match s with | .slice _ m _ => m | _ => 0)
  case atStart => exact ⟨0, n, cap, ad, st, buf, Lib.hid (by omega), hn, hc, Lib.hid HAD.out, rfl, HA0.out, Lib.hid rfl, HG0.out⟩
  case round =>
    clear HA0 HG0
    obtain ⟨k, m, cp, ad1, st1, buf, HKM, hmc, hcp, HA1, rfl, hat, HI, hg⟩ := hrel
    obtain ⟨hst, hbl, B, hB, hT, hrow⟩ := hat
    obtain ⟨q, hq⟩ : ∃ q, buf.length = q := ⟨_, rfl⟩
    rw [hq] at hbl hT hrow
    have HQ := Lib.hid hq; clear hq
    have HST := Lib.hid hst; clear hst
    have HB := Lib.hid hB; clear hB
    have HT := Lib.hid hT; clear hT
    have HR := Lib.hid hrow; clear hrow
    have HG := Lib.hid hg; clear hg
    by_cases hm : 0 < m
    · obtain rfl := HA1.out hm
      by_cases hfull : 64 - q ≤ m
      · skip
        obtain ⟨c, hc⟩ : ∃ c, q + c = 64 := ⟨64 - q, by omega⟩
        have hcm : c ≤ m := by omega
        have hcs : Nat.min m (64 - q) = c := by show min m (64 - q) = c; omega
        have e1 : ((q : Int) + (c : Int) == 64) = true := by rw [beq_iff_eq]; omega
        have c64 : c ≤ 64 := by omega
        have hqc : q + c ≤ 64 := by omega
        have s5 : ¬ (64 : Nat) = q := by omega
        have HC := Lib.hid hc; clear hc
        have HCS := Lib.hid hcs; clear hcs
        obtain ⟨X, hX⟩ : ∃ X, (l.drop k).take c = X := ⟨_, rfl⟩
        have hXl : X.length = c := by rw [← hX]; simp; have := HKM.out; have := HL.out; omega
        have HXL := Lib.hid hXl
        have HX := Lib.hid hX
        clear hX hXl
        have HXV : Hid ((vals .u8 X).length = c) := Lib.hid (by simp [HXL.out])
        have HSRC : Hid (∀ j v, (vals .u8 X)[j]? = some v → wr.cell? ((⟨b, off + k, none⟩ : Addr).add j) = some v) := Lib.hid (by
          intro j v hv
          have hj : j < X.length := by
            rcases Nat.lt_or_ge j X.length with h | h
            · exact h
            · rw [List.getElem?_eq_none (by simpa using h)] at hv; cases hv
          rw [vals_at hj] at hv
          cases hv
          rw [Addr.add_mid, show off + k + j = off + (k + j) from by omega]
          have hkm := HKM.out
          have hxl := HXL.out
          rw [(HG.out.cell (HY.out (k + j) (by omega)) (by simpa using hbH))]
          rw [← HX.out]
          simp [show j < c by omega])
        have s2 : (q : Int) ≤ 64 := by omega
        have s3 : (q : Int) < 64 := by omega
        have s4 : 0 ≤ (q : Int) := by omega
        have k2 := HR.out.cell 72 (hcells_used HST.out HB.out)
        have k3 := HR.out.frozen 72
        have hfit : Hid (8 + q + (vals .u8 X).length ≤ (hcells st1 B q T).length) := Lib.hid (by rw [HXV.out]; simp [hcells, HST.out, HB.out]; omega)
        have HSP := Lib.hid (hcells_splice (st := st1) (B := B) (u := q) (t := T) HST.out HB.out (n := q) (cs := X) (by rw [HXL.out]; omega))
        go_wp2
        go_region_law (refine step_copy_exact rfl (.tmp 27) (.tmp 28) 22 22 rfl 5 Try.underlying22 info5 H (8 + q) (64 - q) (64 - q) ⟨b, off + k, none⟩ m cp (by simp [Act.eval, Act.put]) (by simp [Act.eval, Act.put]) (hcells st1 B q T) 41 HR.out (vals .u8 X) (by rw [HXV.out]; exact HCS.out.symm) HSRC.out hfit.out vals_one' ?_; rw [HXV.out])
        have hx1 := (show Row wr.drew H 41 _ from HR.out).setRow (splice (hcells st1 B q T) (8 + q) (vals .u8 X))
        have hg1 : w.grownBy (wr.drew.setRow H (splice (hcells st1 B q T) (8 + q) (vals .u8 X)).toArray) (some H) := grown_setRow (grown_drew HG.out) _
        clear k2 k3
        obtain ⟨w1, hw1⟩ : ∃ w1, wr.drew.setRow H (splice (hcells st1 B q T) (8 + q) (vals .u8 X)).toArray = w1 := ⟨_, rfl⟩
        rw [hw1] at hx1 hg1 ⊢
        rw [HSP.out] at hx1
        obtain ⟨B1, hB1⟩ : ∃ B1, B.take q ++ (X ++ B.drop (q + X.length)) = B1 := ⟨_, rfl⟩
        rw [hB1] at hx1
        have HB1 : Hid (B1.length = 64) := Lib.hid (by rw [← hB1]; simp [HB.out, HXL.out]; omega)
        have HBT : Hid (B1.take (q + c) = buf ++ X) := Lib.hid (by rw [← hB1]; exact take_in HB.out HT.out HXL.out (by omega))
        have HR1 := Lib.hid hx1
        have HG1 := Lib.hid hg1
        clear hx1 hg1 hB1 hw1 HSP HSRC hfit HR HG HB
        have k2 := HR1.out.cell 72 (hcells_used HST.out HB1.out)
        have k3 := HR1.out.frozen 72
        have hx2 := HR1.out.set 72 (.int .i64 ((q : Int) + (c : Int)))
        rw [hcells_set72 HST.out HB1.out] at hx2
        have HR2 := Lib.hid hx2
        have HG2 := Lib.hid (grown_set HG1.out 72 (.int .i64 ((q : Int) + (c : Int))))
        clear hx2
        by_cases hcc : cp = c
        · obtain rfl := hcc
          go_wp2_with fail
          refine (process_any H st1 B1 _ T _ HST.out HB1.out HR2.out).mono ?_
          rintro e w3 ⟨rfl, hr3, hg3⟩
          have HS3 : Hid ((blk st1 B1).length = 8) := Lib.hid (by rw [blk_len]; exact HST.out)
          have k4 := hr3.cell 72 (hcells_used HS3.out HB1.out)
          have k5 := hr3.frozen 72
          have hx4 := hr3.set 72 (.int .i64 0)
          rw [hcells_set72 HS3.out HB1.out] at hx4
          have HR4 := Lib.hid hx4
          have HG4 := Lib.hid (grown_set (grown_trans HG2.out hg3) 72 (.int .i64 0))
          clear hx4 hr3 hg3 k2 k3 HR1 HR2 HG1 HG2
          go_wp2
          go_roundw
          case rel =>
            refine ⟨k + cp, 0, _, _, blk st1 B1, [], Lib.hid (by have := HKM.out; omega), ?_, ?_, ?_, rfl, ⟨HS3.out, by simp, B1, HB1.out, rfl, HR4.out⟩, ?_, HG4.out⟩
            · omega
            · omega
            · exact Lib.hid (fun h => by first | (exfalso; omega) | (simp [Nat.add_assoc]))
            · refine Lib.hid ?_
              have hb : B1 = buf ++ X := by rw [← HBT.out, HC.out, List.take_of_length_le (by rw [HB1.out]; omega)]
              rw [← HI.out, List.nil_append]
              rw [show l.drop k = X ++ l.drop (k + cp) by rw [← HX.out, ← List.drop_drop, List.take_append_drop], ← List.append_assoc, ← hb, runB_block HB1.out]
          case measure => have hc9 := HC.out; simp; omega
        · skip
          go_wp2_with fail
          refine (process_any H st1 B1 _ T _ HST.out HB1.out HR2.out).mono ?_
          rintro e w3 ⟨rfl, hr3, hg3⟩
          have HS3 : Hid ((blk st1 B1).length = 8) := Lib.hid (by rw [blk_len]; exact HST.out)
          have k4 := hr3.cell 72 (hcells_used HS3.out HB1.out)
          have k5 := hr3.frozen 72
          have hx4 := hr3.set 72 (.int .i64 0)
          rw [hcells_set72 HS3.out HB1.out] at hx4
          have HR4 := Lib.hid hx4
          have HG4 := Lib.hid (grown_set (grown_trans HG2.out hg3) 72 (.int .i64 0))
          clear hx4 hr3 hg3 k2 k3 HR1 HR2 HG1 HG2
          go_wp2
          go_roundw
          case rel =>
            refine ⟨k + c, m - c, _, _, blk st1 B1, [], Lib.hid (by have := HKM.out; omega), ?_, ?_, ?_, rfl, ⟨HS3.out, by simp, B1, HB1.out, rfl, HR4.out⟩, ?_, HG4.out⟩
            · omega
            · omega
            · exact Lib.hid (fun h => by first | (exfalso; omega) | (simp [Nat.add_assoc]))
            · refine Lib.hid ?_
              have hb : B1 = buf ++ X := by rw [← HBT.out, HC.out, List.take_of_length_le (by rw [HB1.out]; omega)]
              rw [← HI.out, List.nil_append]
              rw [show l.drop k = X ++ l.drop (k + c) by rw [← HX.out, ← List.drop_drop, List.take_append_drop], ← List.append_assoc, ← hb, runB_block HB1.out]
          case measure => have hc9 := HC.out; simp; omega

      · skip
        obtain ⟨c, hc⟩ : ∃ c, c = m := ⟨_, rfl⟩
        have hcm : c ≤ m := by omega
        have hcs : Nat.min m (64 - q) = c := by show min m (64 - q) = c; omega
        have e1 : ((q : Int) + (c : Int) == 64) = false := by rw [beq_eq_false_iff_ne]; omega
        have c64 : c ≤ 64 := by omega
        have hqc : q + c ≤ 64 := by omega
        have s5 : ¬ (64 : Nat) = q := by omega
        have HC := Lib.hid hc; clear hc
        have HCS := Lib.hid hcs; clear hcs
        obtain ⟨X, hX⟩ : ∃ X, (l.drop k).take c = X := ⟨_, rfl⟩
        have hXl : X.length = c := by rw [← hX]; simp; have := HKM.out; have := HL.out; omega
        have HXL := Lib.hid hXl
        have HX := Lib.hid hX
        clear hX hXl
        have HXV : Hid ((vals .u8 X).length = c) := Lib.hid (by simp [HXL.out])
        have HSRC : Hid (∀ j v, (vals .u8 X)[j]? = some v → wr.cell? ((⟨b, off + k, none⟩ : Addr).add j) = some v) := Lib.hid (by
          intro j v hv
          have hj : j < X.length := by
            rcases Nat.lt_or_ge j X.length with h | h
            · exact h
            · rw [List.getElem?_eq_none (by simpa using h)] at hv; cases hv
          rw [vals_at hj] at hv
          cases hv
          rw [Addr.add_mid, show off + k + j = off + (k + j) from by omega]
          have hkm := HKM.out
          have hxl := HXL.out
          rw [(HG.out.cell (HY.out (k + j) (by omega)) (by simpa using hbH))]
          rw [← HX.out]
          simp [show j < c by omega])
        have s2 : (q : Int) ≤ 64 := by omega
        have s3 : (q : Int) < 64 := by omega
        have s4 : 0 ≤ (q : Int) := by omega
        have k2 := HR.out.cell 72 (hcells_used HST.out HB.out)
        have k3 := HR.out.frozen 72
        have hfit : Hid (8 + q + (vals .u8 X).length ≤ (hcells st1 B q T).length) := Lib.hid (by rw [HXV.out]; simp [hcells, HST.out, HB.out]; omega)
        have HSP := Lib.hid (hcells_splice (st := st1) (B := B) (u := q) (t := T) HST.out HB.out (n := q) (cs := X) (by rw [HXL.out]; omega))
        go_wp2
        go_region_law (refine step_copy_exact rfl (.tmp 27) (.tmp 28) 22 22 rfl 5 Try.underlying22 info5 H (8 + q) (64 - q) (64 - q) ⟨b, off + k, none⟩ m cp (by simp [Act.eval, Act.put]) (by simp [Act.eval, Act.put]) (hcells st1 B q T) 41 HR.out (vals .u8 X) (by rw [HXV.out]; exact HCS.out.symm) HSRC.out hfit.out vals_one' ?_; rw [HXV.out])
        have hx1 := (show Row wr.drew H 41 _ from HR.out).setRow (splice (hcells st1 B q T) (8 + q) (vals .u8 X))
        have hg1 : w.grownBy (wr.drew.setRow H (splice (hcells st1 B q T) (8 + q) (vals .u8 X)).toArray) (some H) := grown_setRow (grown_drew HG.out) _
        clear k2 k3
        obtain ⟨w1, hw1⟩ : ∃ w1, wr.drew.setRow H (splice (hcells st1 B q T) (8 + q) (vals .u8 X)).toArray = w1 := ⟨_, rfl⟩
        rw [hw1] at hx1 hg1 ⊢
        rw [HSP.out] at hx1
        obtain ⟨B1, hB1⟩ : ∃ B1, B.take q ++ (X ++ B.drop (q + X.length)) = B1 := ⟨_, rfl⟩
        rw [hB1] at hx1
        have HB1 : Hid (B1.length = 64) := Lib.hid (by rw [← hB1]; simp [HB.out, HXL.out]; omega)
        have HBT : Hid (B1.take (q + c) = buf ++ X) := Lib.hid (by rw [← hB1]; exact take_in HB.out HT.out HXL.out (by omega))
        have HR1 := Lib.hid hx1
        have HG1 := Lib.hid hg1
        clear hx1 hg1 hB1 hw1 HSP HSRC hfit HR HG HB
        have k2 := HR1.out.cell 72 (hcells_used HST.out HB1.out)
        have k3 := HR1.out.frozen 72
        have hx2 := HR1.out.set 72 (.int .i64 ((q : Int) + (c : Int)))
        rw [hcells_set72 HST.out HB1.out] at hx2
        have HR2 := Lib.hid hx2
        have HG2 := Lib.hid (grown_set HG1.out 72 (.int .i64 ((q : Int) + (c : Int))))
        clear hx2
        by_cases hcc : cp = c
        · obtain rfl := hcc
          go_wp2
          go_roundw
          case rel =>
            refine ⟨k + cp, 0, _, _, st1, buf ++ X, Lib.hid (by have := HKM.out; omega), ?_, ?_, ?_, rfl, ⟨HST.out, by have := HQ.out; have := HXL.out; have := HC.out; simp; omega, B1, HB1.out, ?_, ?_⟩, ?_, HG2.out⟩
            · omega
            · omega
            · exact Lib.hid (fun h => by have := HC.out; exfalso; omega)
            · rw [show (buf ++ X).length = q + cp by simp [HQ.out, HXL.out]]; exact HBT.out
            · rw [show (((buf ++ X).length : Nat) : Int) = (q : Int) + (cp : Int) by simp [HQ.out, HXL.out]]; exact HR2.out
            · refine Lib.hid ?_
              rw [← HI.out]
              rw [show l.drop k = X ++ l.drop (k + cp) by rw [← HX.out, ← List.drop_drop, List.take_append_drop], ← List.append_assoc]
          case measure => have hc9 := HC.out; simp; omega
        · skip
          go_wp2
          go_roundw
          case rel =>
            refine ⟨k + c, m - c, _, _, st1, buf ++ X, Lib.hid (by have := HKM.out; omega), ?_, ?_, ?_, rfl, ⟨HST.out, by have := HQ.out; have := HXL.out; have := HC.out; simp; omega, B1, HB1.out, ?_, ?_⟩, ?_, HG2.out⟩
            · omega
            · omega
            · exact Lib.hid (fun h => by have := HC.out; exfalso; omega)
            · rw [show (buf ++ X).length = q + c by simp [HQ.out, HXL.out]]; exact HBT.out
            · rw [show (((buf ++ X).length : Nat) : Int) = (q : Int) + (c : Int) by simp [HQ.out, HXL.out]]; exact HR2.out
            · refine Lib.hid ?_
              rw [← HI.out]
              rw [show l.drop k = X ++ l.drop (k + c) by rw [← HX.out, ← List.drop_drop, List.take_append_drop], ← List.append_assoc]
          case measure => have hc9 := HC.out; simp; omega

    · have hm0 : m = 0 := by omega
      have hi := HI.out
      rw [List.drop_of_length_le (by have := HKM.out; have := HL.out; omega), List.append_nil, runB_short (by have := HQ.out; omega)] at hi
      have HI2 := Lib.hid hi
      clear hi HI
      go_wp2
      go_end0
      rw [HTT.out, ← HI2.out]
      exact ⟨rfl, ⟨HST.out, by have := HQ.out; show buf.length < 64; omega, B, HB.out, by show B.take buf.length = buf; rw [HQ.out]; exact HT.out, by show Row wr H 41 (hcells st1 B (buf.length : Nat) T); rw [HQ.out]; exact HR.out⟩, HG.out⟩

end Go.Proofs.Ytacahgcbkgapdaa
