/- Sum of a hash. -/
import Derived.Test.YtacahgcbkgapdaaA8
import Derived.Deep.WholeRow
import Derived.Deep.LoopGhost
namespace Go.Proofs.Ytacahgcbkgapdaa
open Go.RowKit
set_option linter.unusedVariables false

theorem zero41 : (Try.prog.info? 41).map (fun i => (i.zero, i.size)) = some (some (.agg (hcells (List.replicate 8 0) (List.replicate 64 0) 0 0).toArray), 74) := by kernel_rfl
/-- the first i bytes of the length, then zeros -/
def szp (x : Int) (i : Nat) : List Int := (List.range i).map (szb x) ++ List.replicate (8 - i) 0
theorem szp_zero (x : Int) : szp x 0 = List.replicate 8 0 := rfl
theorem szp_len {x : Int} {i : Nat} : (szp x i).length = i + (8 - i) := by simp [szp]
theorem szp_full (x : Int) : szp x 8 = sz8 x := by simp [szp, sz8]
theorem szp_set (x : Int) {i : Nat} (h : i < 8) : (vals .u8 (szp x i)).set i (.int .u8 (szb x i)) = vals .u8 (szp x (i + 1)) := by
  unfold szp
  rw [show 8 - i = (8 - (i + 1)) + 1 by omega, List.replicate_succ, List.range_succ]
  simp [vals]
/-- the bytes of the first i words, then zeros -/
def obp (st : List Int) (i : Nat) : List Int := outB (st.take i) ++ List.replicate (32 - 4 * i) 0
theorem obp_zero (st : List Int) : obp st 0 = List.replicate 32 0 := rfl
theorem outB_push (l : List Int) (x : Int) : outB (l ++ [x]) = outB l ++ wb x := by simp [outB]
theorem obp_len {st : List Int} {i : Nat} (h : i ≤ st.length) : (obp st i).length = 4 * i + (32 - 4 * i) := by
  unfold obp; rw [List.length_append, outB_len, List.length_replicate, List.length_take]; omega
theorem obp_full {st : List Int} (h : st.length = 8) : obp st 8 = outB st := by
  unfold obp; rw [List.take_of_length_le (by omega)]; simp
theorem obp_set {st : List Int} {i : Nat} (hs : st.length = 8) (h : i < 8) (x : Int) (hx : st.getD i 0 = x) :
    ((((vals .u8 (obp st i)).set (4 * i) (.int .u8 (x / 16777216 % 256))).set (4 * i + 1) (.int .u8 (x / 65536 % 256))).set (4 * i + 2) (.int .u8 (x / 256 % 256))).set (4 * i + 3) (.int .u8 (x % 256)) = vals .u8 (obp st (i + 1)) := by
  unfold obp
  have e : st.take (i + 1) = st.take i ++ [x] := by
    rw [← hx, List.take_succ_eq_append_getElem (by omega)]; simp [show i < st.length by omega]
  have hl : (outB (st.take i)).length = 4 * i := by rw [outB_len, List.length_take]; omega
  rw [e, outB_push]
  rw [show 32 - 4 * i = (32 - 4 * (i + 1)) + 4 by omega]
  generalize outB (st.take i) = A at hl
  subst_vars
  simp only [vals, List.map_append, wb, List.map_cons, List.map_nil]
  have hA : (A.map (Value.int .u8)).length = 4 * i := by simpa using hl
  generalize A.map (Value.int .u8) = C at hA
  rw [show List.replicate (32 - 4 * (i + 1) + 4) (0 : Int) = 0 :: 0 :: 0 :: 0 :: List.replicate (32 - 4 * (i + 1)) 0 from rfl]
  simp only [List.map_cons]
  rw [← hA]
  simp [List.set_append_right]
theorem one_byte (w : World) (x : Int) : ∀ i, i < 1 → (w.alloc (.cells #[.int .u8 x] 5)).cell? ⟨w.heap.size, 0 + i, none⟩ = some (.int .u8 ([x].getD i 0)) := by
  intro i hi
  obtain rfl : i = 0 := by omega
  exact (Row.new w 5 [.int .u8 x]).cell 0 rfl
theorem Row.grown {w w' : World} {g H : Nat} {t : TypeId} {cs : List Value} (h : Row w g t cs) (hg : w.grownBy w' (some H)) (hne : g ≠ H) : Row w' g t cs := by
  unfold Row; rw [hg.block g h.lt (fun e => hne (by cases e; rfl))]; exact h
theorem HMsg.alloc {w : World} {H : Nat} {m : List Int} (h : HMsg w H m) (o : Obj) : HMsg (w.alloc o) H m := h.below ((Below.refl w.heap.size w).alloc (Nat.le_refl _) o) h.lt
theorem HMsg.used {w : World} {H : Nat} {m : List Int} (h : HMsg w H m) : w.cell? ⟨H, 72, none⟩ = some (.int .i64 ((m.length % 64 : Nat) : Int)) := by
  obtain ⟨hs, _, B, hB, _, hr⟩ := h
  rw [← runB_mod init m]
  exact hr.cell 72 (hcells_used hs hB)
theorem below_grown {B H : Nat} {w0 w w' : World} (hb : Below B w0 w) (hg : w.grownBy w' (some H)) (hs : B ≤ w.heap.size) (hH : B ≤ H) : Below B w0 w' :=
  hb.grown hg hs (fun k hk => by cases hk; exact hH)
set_option maxHeartbeats 4000000 in
set_option maxRecDepth 100000 in
theorem sum_c (H : Nat) (m : List Int) (w : World) (hm : m.length ≤ 1073741824) (hh : HMsg w H m) :
    Calls Try.prog 14 #[.pointer (some ⟨H, 0, none⟩)] w fun e w' => e = .returned (.agg (vals .u8 (dig m)).toArray) ∧ Below w.heap.size w w' := by
  obtain ⟨hst, hbl, B, hB, hT, hrow⟩ := id hh
  have HST := Lib.hid hst; clear hst
  have HB := Lib.hid hB; clear hB
  have HT := Lib.hid hT; clear hT
  have HH := Lib.hid hh; clear hh
  obtain ⟨st, hsx⟩ : ∃ x, (runB init m).1 = x := ⟨_, rfl⟩
  obtain ⟨buf, hbx⟩ : ∃ x, (runB init m).2 = x := ⟨_, rfl⟩
  have HR := Lib.hid hrow; clear hrow
  have HN : Hid (HMsg = HMsg) := Lib.hid rfl
  rw [hsx] at HST HR
  rw [hbx] at HT HR hbl
  have HSX := Lib.hid hsx
  have HBX := Lib.hid hbx
  clear hsx hbx
  obtain ⟨L, hL⟩ : ∃ L, m.length = L := ⟨_, rfl⟩
  rw [hL] at hm HR
  have HL := Lib.hid hL
  clear hL
  have hz41 := (zero_of_info zero41).1
  have LZ : Hid ((hcells (List.replicate 8 0) (List.replicate 64 0) 0 0).length = 74) := Lib.hid rfl
  obtain ⟨Z, hZ⟩ : ∃ Z, hcells (List.replicate 8 0) (List.replicate 64 0) 0 0 = Z := ⟨_, rfl⟩
  rw [hZ] at hz41 LZ
  clear hZ
  go_enter Try.func14, Try.ntmps14
  go_upto_region 3 with fail
  obtain ⟨w1, hw1⟩ : ∃ w1 : World, w1 = w.alloc (.cells (vals .u8 (List.replicate 32 0)).toArray 24) := ⟨_, rfl⟩
  have r1 : Hid (Row w1 w.heap.size 24 (vals .u8 (List.replicate 32 0))) := Lib.hid (by rw [hw1]; exact Row.new w 24 _)
  have b1 : Hid (Below w.heap.size w w1) := Lib.hid (by rw [hw1]; exact (Below.refl _ _).alloc (Nat.le_refl _) _)
  have z1 : Hid (w1.heap.size = w.heap.size + 1) := Lib.hid (by rw [hw1]; simp)
  simp only [vals, List.replicate, List.map_cons, List.map_nil] at hw1
  rw [← hw1]
  clear hw1
  have hr1 := Lib.hid (HR.out.below b1.out HR.out.lt)
  have hsz : Hid ((Try.prog.info? 41).map (·.size) = some (hcells st B buf.length L).toArray.size) := Lib.hid (by rw [info41, List.size_toArray, hcells_len HST.out HB.out])
  go_step
  iterate 6 (first | go_step | go_back)
  refine wpList_load_row rfl 41 _ rfl H rfl 41 (hcells st B buf.length L).toArray (0, 0) _ hr1.out Try.underlying41 rfl hsz.out ?_
  iterate 3 (first | go_step | go_back)
  have rc := Lib.hid (Row.new w1 41 Z)
  have hszc : Hid (Z.toArray.size = (hcells st B buf.length L).toArray.size) := Lib.hid (by rw [List.size_toArray, List.size_toArray, hcells_len HST.out HB.out, LZ.out])
  refine wpList_store_row rfl 41 _ _ rfl w1.heap.size (hcells st B buf.length L).toArray rfl rfl 41 _ rc.out hsz.out hszc.out (all_oneCell_toArray hcells_one) ?_
  obtain ⟨w2, hw2⟩ : ∃ w2, (w1.alloc (.cells Z.toArray 41)).setRow w1.heap.size (hcells st B buf.length L).toArray = w2 := ⟨_, rfl⟩
  have HC : Hid (HMsg w2 w1.heap.size m) := Lib.hid (by
    unfold HMsg
    rw [HSX.out, HBX.out, HL.out, ← hw2]
    exact ⟨HST.out, hbl, B, HB.out, HT.out, rc.out.setRow _⟩)
  have RR : Hid (Row w2 w.heap.size 24 (vals .u8 (List.replicate 32 0))) := Lib.hid (by rw [← hw2]; exact (r1.out.alloc _).otherRow _ (by have := z1.out; omega))
  have BB : Hid (Below w.heap.size w w2) := Lib.hid (by rw [← hw2]; exact below_setRow (b1.out.alloc (by have := z1.out; omega) _) (by have := z1.out; omega) _)
  have R41 : Hid (Row w2 w1.heap.size 41 (hcells st B buf.length L)) := Lib.hid (by rw [← hw2]; exact rc.out.setRow _)
  rw [hw2]
  clear hw2 rc hszc hsz hr1 r1 b1 hz41
  have k0 := R41.out.cell 73 (hcells_total HST.out HB.out)
  go_wp2_with fail
  clear k0 R41
  refine (write_msg w1.heap.size w2.heap.size 0 1 1 _ m [128] _ rfl (Nat.le_refl _) (by omega) (by have := HL.out; omega) (by have := HC.out.lt; omega) (HC.out.alloc _) (fun _ => rfl) (one_byte w2 128)).mono ?_
  rintro e w3 ⟨rfl, hc3, g3⟩
  have zz : Hid (w.heap.size < w1.heap.size) := Lib.hid (by have := z1.out; omega)
  have RR3 := Lib.hid ((RR.out.alloc (.cells #[.int .u8 128] 5)).grown g3 (by have := z1.out; omega))
  have BB3 := Lib.hid (below_grown (BB.out.alloc (o := .cells #[.int .u8 128] 5) (by have := RR.out.lt; omega)) g3 (by have := RR.out.lt; simp; omega) (by have := z1.out; omega))
  have HC3 := Lib.hid hc3
  clear hc3 g3 RR BB HC HH
  obtain ⟨x8, hx8⟩ : ∃ x : Int, (L : Int) * 8 = x := ⟨_, rfl⟩
  rw [hx8]
  have HX8 := Lib.hid hx8
  clear hx8
  go_wp2
  go_loopg [22] 64 (fun gg _ wr => ∃ j : Nat, j ≤ zs L ∧ zs L - j ≤ gg ∧ HMsg wr w1.heap.size (m ++ [128] ++ List.replicate j 0) ∧ Row wr w.heap.size 24 (vals .u8 (List.replicate 32 0)) ∧ Below w.heap.size w wr)
  case atStart => exact ⟨0, by omega, by unfold zs; omega, by simpa using HC3.out, RR3.out, BB3.out⟩
  case round =>
    clear HC3 RR3 BB3
    obtain ⟨j, hj, hg, hc, hr, hb⟩ := hrel
    have HC := Lib.hid hc; clear hc
    have RR := Lib.hid hr; clear hr
    have BB := Lib.hid hb; clear hb
    have u0 := HC.out.used
    obtain ⟨U, hU⟩ : ∃ U, (m ++ [128] ++ List.replicate j 0).length % 64 = U := ⟨_, rfl⟩
    rw [hU] at u0
    have hU2 : (L + 1 + j) % 64 = U := by rw [← hU]; simp [HL.out]; omega
    have HU := Lib.hid hU2
    clear hU hU2
    by_cases hlt : j < zs L
    · have hne : ((U : Int) != 56) = true := by rw [bne_iff_ne]; have := HU.out; unfold zs at hlt; omega
      go_wp2_with fail
      refine (write_msg w1.heap.size wr.heap.size 0 1 1 _ _ [0] _ rfl (Nat.le_refl _) (by omega) (by have := HL.out; have hz : zs L < 64 := (by unfold zs; omega); simp; omega) (by have := HC.out.lt; omega) (HC.out.alloc _) (fun _ => rfl) (one_byte wr 0)).mono ?_
      rintro e w3 ⟨rfl, hc3, g3⟩
      have RR3 := Lib.hid ((RR.out.alloc (.cells #[.int .u8 0] 5)).grown g3 (by have := z1.out; omega))
      have BB3 := Lib.hid (below_grown (BB.out.alloc (o := .cells #[.int .u8 0] 5) (by have := RR.out.lt; omega)) g3 (by have := RR.out.lt; simp; omega) (by have := z1.out; omega))
      have HC3 := Lib.hid hc3
      clear hc3 g3 RR BB HC
      go_wp2
      go_roundg (zs L - (j + 1))
      case measure => omega
      case rel =>
        refine ⟨j + 1, by omega, by omega, ?_, RR3.out, BB3.out⟩
        have := HC3.out
        rw [List.append_assoc, ← List.replicate_succ'] at this
        exact this
    · have hne : ((U : Int) != 56) = false := by rw [bne_eq_false_iff_eq]; have := HU.out; unfold zs at hlt hj; omega
      have hjz : j = zs L := by omega
      have hc := HC.out
      rw [hjz] at hc
      have HC2 := Lib.hid hc
      clear hc HC hjz
      go_wp2
      obtain ⟨ws, hws⟩ : ∃ ws : World, ws = wr.alloc (.cells (vals .u8 (szp x8 0)).toArray 42) := ⟨_, rfl⟩
      have S0 : Hid (Row ws wr.heap.size 42 (vals .u8 (szp x8 0))) := Lib.hid (by rw [hws]; exact Row.new wr 42 _)
      have C0 : Hid (HMsg ws w1.heap.size (m ++ [128] ++ List.replicate (zs L) 0)) := Lib.hid (by rw [hws]; exact HC2.out.alloc _)
      have R0 : Hid (Row ws w.heap.size 24 (vals .u8 (List.replicate 32 0))) := Lib.hid (by rw [hws]; exact RR.out.alloc _)
      have B0 : Hid (Below w.heap.size w ws) := Lib.hid (by rw [hws]; exact BB.out.alloc (by have := RR.out.lt; omega) _)
      have hSC : Hid (w1.heap.size < wr.heap.size) := Lib.hid HC2.out.lt
      rw [szp_zero] at hws
      simp only [vals, List.replicate, List.map_cons, List.map_nil] at hws
      rw [← hws]
      clear hws RR BB HC2
      obtain ⟨wq, rfl⟩ : ∃ wq : World, wq = wr := ⟨_, rfl⟩
      go_loopw [26] (fun s wr => ∃ i : Nat, i ≤ 8 ∧ s = .int .i64 i ∧ Row wr wq.heap.size 42 (vals .u8 (szp x8 i)) ∧ HMsg wr w1.heap.size (m ++ [128] ++ List.replicate (zs L) 0) ∧ Row wr w.heap.size 24 (vals .u8 (List.replicate 32 0)) ∧ Below w.heap.size w wr) (fun s _ => 8 - (intOf s).toNat)
      case atStart => exact ⟨0, by omega, rfl, S0.out, C0.out, R0.out, B0.out⟩
      case round =>
        clear S0 C0 R0 B0
        obtain ⟨i, hi, rfl, hs, hc, hr, hb⟩ := hrel
        have HS := Lib.hid hs; clear hs
        have HC := Lib.hid hc; clear hc
        have RR := Lib.hid hr; clear hr
        have BB := Lib.hid hb; clear hb
        by_cases hlt : i < 8
        · have k0 := HS.out.cell i (vals_at (by rw [szp_len]; omega))
          have k1 := HS.out.frozen i
          obtain ⟨y, hy⟩ : ∃ y, (szp x8 i).getD i 0 = y := ⟨_, rfl⟩
          rw [hy] at k0
          clear hy
          have p0 : 0 ≤ 56 - 8 * (i : Int) := by omega
          go_wp2
          go_roundw
          case rel =>
            have zc := z1.out
            have zh := hSC.out
            refine ⟨i + 1, by omega, by go_num, ?_, ?_, RR.out.other _ _ _ (by omega), BB.out.setCell (p := ⟨wq.heap.size, i, none⟩) (by show _ ≤ wq.heap.size; omega) _⟩
            · rw [← szp_set x8 hlt]; exact HS.out.set i _
            · exact HC.out.below ((Below.refl wq.heap.size wr).setCell (p := ⟨wq.heap.size, i, none⟩) (Nat.le_refl _) _) (by omega)
          case measure => simp [intOf]; omega
        · have hi8 : i = 8 := by omega
          have hs := HS.out
          rw [hi8, szp_full] at hs
          have HS8 := Lib.hid hs
          clear hs HS hi8
          have LB : Hid ((sz8 x8).length = 8) := Lib.hid (by simp [sz8])
          obtain ⟨SB, hSB⟩ : ∃ SB, sz8 x8 = SB := ⟨_, rfl⟩
          rw [hSB] at HS8 LB
          have HSB := Lib.hid hSB
          clear hSB
          go_wp2_with fail
          refine (write_msg w1.heap.size wq.heap.size 0 8 8 _ _ SB _ LB.out (Nat.le_refl _) (by omega) (by have := HL.out; have hz : zs L < 64 := (by unfold zs; omega); simp; omega) (by have := hSC.out; omega) HC.out (fun _ => rfl) (fun i hi => by rw [Nat.zero_add]; exact HS8.out.cell i (vals_at (by rw [LB.out]; exact hi)))).mono ?_
          rintro e w4 ⟨rfl, hc4, g4⟩
          have RR4 := Lib.hid (RR.out.grown g4 (by have := z1.out; omega))
          have BB4 := Lib.hid (below_grown BB.out g4 (by have := RR.out.lt; omega) (by have := z1.out; omega))
          have hpad : m ++ [128] ++ List.replicate (zs L) 0 ++ SB = padded m := by unfold padded; rw [← HSB.out, ← HX8.out, HL.out]
          rw [hpad] at hc4
          obtain ⟨hs4, _, B4, hB4, _, hr4⟩ := hc4
          have HDG : Hid (dig m = outB (runB init (padded m)).1) := Lib.hid rfl
          obtain ⟨a, b, c, d, e, f, g, p, h8⟩ := eight hs4
          rw [h8] at hr4 HDG
          have R4 := Lib.hid hr4
          clear hpad hr4 h8 hs4 RR BB HC HS8 g4
          have k0 := R4.out.cell 0 (v := .int .u32 a) rfl
          have k1 := R4.out.cell 1 (v := .int .u32 b) rfl
          have k2 := R4.out.cell 2 (v := .int .u32 c) rfl
          have k3 := R4.out.cell 3 (v := .int .u32 d) rfl
          have k4 := R4.out.cell 4 (v := .int .u32 e) rfl
          have k5 := R4.out.cell 5 (v := .int .u32 f) rfl
          have k6 := R4.out.cell 6 (v := .int .u32 g) rfl
          have k7 := R4.out.cell 7 (v := .int .u32 p) rfl
          go_upto_region 16 with fail
          obtain ⟨w5, hw5⟩ : ∃ w5 : World, w5 = w4.alloc (.cells (vals .u8 (obp [a, b, c, d, e, f, g, p] 0)).toArray 24) := ⟨_, rfl⟩
          have O0 : Hid (Row w5 w4.heap.size 24 (vals .u8 (obp [a, b, c, d, e, f, g, p] 0))) := Lib.hid (by rw [hw5]; exact Row.new w4 24 _)
          have RR5 : Hid (Row w5 w.heap.size 24 (vals .u8 (List.replicate 32 0))) := Lib.hid (by rw [hw5]; exact RR4.out.alloc _)
          have BB5 : Hid (Below w.heap.size w w5) := Lib.hid (by rw [hw5]; exact BB4.out.alloc (by have := RR4.out.lt; omega) _)
          have hz4 : Hid (w.heap.size < w4.heap.size) := Lib.hid RR4.out.lt
          have K0 := Lib.hid (show w5.cell? ⟨w1.heap.size, 0, none⟩ = some (.int .u32 a) by rw [hw5]; exact (R4.out.alloc _).cell 0 rfl)
          have K1 := Lib.hid (show w5.cell? ⟨w1.heap.size, 1, none⟩ = some (.int .u32 b) by rw [hw5]; exact (R4.out.alloc _).cell 1 rfl)
          have K2 := Lib.hid (show w5.cell? ⟨w1.heap.size, 2, none⟩ = some (.int .u32 c) by rw [hw5]; exact (R4.out.alloc _).cell 2 rfl)
          have K3 := Lib.hid (show w5.cell? ⟨w1.heap.size, 3, none⟩ = some (.int .u32 d) by rw [hw5]; exact (R4.out.alloc _).cell 3 rfl)
          have K4 := Lib.hid (show w5.cell? ⟨w1.heap.size, 4, none⟩ = some (.int .u32 e) by rw [hw5]; exact (R4.out.alloc _).cell 4 rfl)
          have K5 := Lib.hid (show w5.cell? ⟨w1.heap.size, 5, none⟩ = some (.int .u32 f) by rw [hw5]; exact (R4.out.alloc _).cell 5 rfl)
          have K6 := Lib.hid (show w5.cell? ⟨w1.heap.size, 6, none⟩ = some (.int .u32 g) by rw [hw5]; exact (R4.out.alloc _).cell 6 rfl)
          have K7 := Lib.hid (show w5.cell? ⟨w1.heap.size, 7, none⟩ = some (.int .u32 p) by rw [hw5]; exact (R4.out.alloc _).cell 7 rfl)
          rw [obp_zero] at hw5
          simp only [vals, List.replicate, List.map_cons, List.map_nil] at hw5
          rw [← hw5]
          clear hw5 k0 k1 k2 k3 k4 k5 k6 k7 R4 RR4 BB4
          have k0 := K0.out
          have k1 := K1.out
          have k2 := K2.out
          have k3 := K3.out
          have k4 := K4.out
          have k5 := K5.out
          have k6 := K6.out
          have k7 := K7.out
          clear K0 K1 K2 K3 K4 K5 K6 K7
          go_wp2
          clear k0 k1 k2 k3 k4 k5 k6 k7
          go_loopw [42] (fun s wr => ∃ i : Nat, i ≤ 8 ∧ s = .int .i64 i ∧ Row wr w4.heap.size 24 (vals .u8 (obp [a, b, c, d, e, f, g, p] i)) ∧ Row wr w.heap.size 24 (vals .u8 (List.replicate 32 0)) ∧ Below w.heap.size w wr) (fun s _ => 8 - (intOf s).toNat)
          case atStart => exact ⟨0, by omega, rfl, O0.out, RR5.out, BB5.out⟩
          case round =>
            clear O0 RR5 BB5
            obtain ⟨i, hi, rfl, ho, hr, hb⟩ := hrel
            have HO := Lib.hid ho; clear ho
            have RR := Lib.hid hr; clear hr
            have BB := Lib.hid hb; clear hb
            by_cases hlt : i < 8
            · have hix := idx8 a b c d e f g p i hlt
              have hst := Lib.hid (obp_set (st := [a, b, c, d, e, f, g, p]) (i := i) rfl hlt _ rfl)
              have LO := Lib.hid (obp_len (st := [a, b, c, d, e, f, g, p]) (i := i) hi)
              obtain ⟨y, hy⟩ : ∃ x, [a, b, c, d, e, f, g, p].getD i 0 = x := ⟨_, rfl⟩
              rw [hy] at hix hst
              clear hy
              have k0 := HO.out.cell (4 * i) (vals_at (by rw [LO.out]; omega))
              have k1 := HO.out.cell (4 * i + 1) (vals_at (by rw [LO.out]; omega))
              have k2 := HO.out.cell (4 * i + 2) (vals_at (by rw [LO.out]; omega))
              have k3 := HO.out.cell (4 * i + 3) (vals_at (by rw [LO.out]; omega))
              generalize (obp [a, b, c, d, e, f, g, p] i).getD (4 * i) 0 = y0 at k0
              generalize (obp [a, b, c, d, e, f, g, p] i).getD (4 * i + 1) 0 = y1 at k1
              generalize (obp [a, b, c, d, e, f, g, p] i).getD (4 * i + 2) 0 = y2 at k2
              generalize (obp [a, b, c, d, e, f, g, p] i).getD (4 * i + 3) 0 = y3 at k3
              have f0 := HO.out.frozen (4 * i)
              have f1 := HO.out.frozen (4 * i + 1)
              have f2 := HO.out.frozen (4 * i + 2)
              have f3 := HO.out.frozen (4 * i + 3)
              have b1 : 4 * (i : Int) < 32 := by omega
              have b2 : 4 * (i : Int) + 1 < 32 := by omega
              have b3 : 4 * (i : Int) + 2 < 32 := by omega
              have b4 : 4 * (i : Int) + 3 < 32 := by omega
              have b5 : (4 * (i : Int)).toNat = 4 * i := by omega
              have b6 : (4 * (i : Int) + 1).toNat = 4 * i + 1 := by omega
              have b7 : (4 * (i : Int) + 2).toNat = 4 * i + 2 := by omega
              have b8 : (4 * (i : Int) + 3).toNat = 4 * i + 3 := by omega
              have p1 : 0 ≤ 4 * (i : Int) := by omega
              have p2 : 0 ≤ 4 * (i : Int) + 1 := by omega
              have p3 : 0 ≤ 4 * (i : Int) + 2 := by omega
              have p4 : 0 ≤ 4 * (i : Int) + 3 := by omega
              go_wp2
              go_roundw
              case rel =>
                have hh := hz4.out
                refine ⟨i + 1, by omega, by go_num, ?_, ?_, ?_⟩
                · rw [← hst.out]; exact (((HO.out.set (4 * i) _).set (4 * i + 1) _).set (4 * i + 2) _).set (4 * i + 3) _
                · exact (((RR.out.other _ (4 * i) _ (by omega)).other _ (4 * i + 1) _ (by omega)).other _ (4 * i + 2) _ (by omega)).other _ (4 * i + 3) _ (by omega)
                · exact (((BB.out.setCell (p := ⟨w4.heap.size, 4 * i, none⟩) (by show _ ≤ w4.heap.size; omega) _).setCell (p := ⟨w4.heap.size, 4 * i + 1, none⟩) (by show _ ≤ w4.heap.size; omega) _).setCell (p := ⟨w4.heap.size, 4 * i + 2, none⟩) (by show _ ≤ w4.heap.size; omega) _).setCell (p := ⟨w4.heap.size, 4 * i + 3, none⟩) (by show _ ≤ w4.heap.size; omega) _
              case measure => simp [intOf]; omega
            · have hi8 : i = 8 := by omega
              have ho := HO.out
              rw [hi8, obp_full rfl, ← HDG.out] at ho
              have LD : Hid ((dig m).length = 32) := Lib.hid (dig_len m)
              obtain ⟨D, hD⟩ : ∃ D, dig m = D := ⟨_, rfl⟩
              rw [hD] at ho LD
              have HD := Lib.hid hD
              have HO2 := Lib.hid ho
              clear ho hi8 HO hD HDG
              have hs32 : Hid ((Try.prog.info? 24).map (·.size) = some (vals .u8 D).toArray.size) := Lib.hid (by rw [info24]; simp [LD.out])
              have hz32 : Hid ((vals .u8 (List.replicate 32 0)).toArray.size = (vals .u8 D).toArray.size) := Lib.hid (by simp [LD.out])
              go_upto_region 21 with fail
              go_step
              refine wpList_load_row rfl 24 _ rfl w4.heap.size rfl 24 (vals .u8 D).toArray (0, 0) _ HO2.out Try.underlying24 rfl hs32.out ?_
              refine wpList_store_row rfl 24 _ _ rfl w.heap.size (vals .u8 D).toArray rfl rfl 24 _ RR.out hs32.out hz32.out vals_one ?_
              go_wp2_with fail
              refine bodyPost_ret (v := .agg (vals .u8 D).toArray) (results_cell_row rfl _ _ w.heap.size 24 _ (0, 0) _ rfl (setRow_heap _ _ _ _ _ _ RR.out) Try.underlying24 rfl hs32.out) rfl ⟨by rw [HD.out], ?_⟩
              exact below_setRow BB.out (Nat.le_refl _) _

end Go.Proofs.Ytacahgcbkgapdaa
