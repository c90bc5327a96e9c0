/- The words of a block. -/
import Derived.Test.YtacahgcbkgapdaaA1
namespace Go.Proofs.Ytacahgcbkgapdaa
open Go.RowKit
set_option linter.unusedVariables false

/-- a word out of four bytes -/
def ldw (x0 x1 x2 x3 : Int) : Int := bits .or .u32 (bits .or .u32 (bits .or .u32 (x0 % 4294967296 * 16777216 % 4294967296) (x1 % 4294967296 * 65536 % 4294967296)) (x2 % 4294967296 * 256 % 4294967296)) (x3 % 4294967296)
def s0w (x : Int) : Int := bits .xor .u32 (bits .xor .u32 (rot 7 x) (rot 18 x)) (x / 8)
def s1w (x : Int) : Int := bits .xor .u32 (bits .xor .u32 (rot 17 x) (rot 19 x)) (x / 1024)
def mix (a b s t : Int) : Int := (a + s + b + t) % 4294967296
/-- the word number k, after the words l -/
def wd (B l : List Int) (k : Nat) : Int :=
  if k < 16 then ldw (B.getD (4 * k) 0) (B.getD (4 * k + 1) 0) (B.getD (4 * k + 2) 0) (B.getD (4 * k + 3) 0)
  else mix (l.getD (k - 16) 0) (l.getD (k - 7) 0) (s0w (l.getD (k - 15) 0)) (s1w (l.getD (k - 2) 0))
/-- the first k words -/
def sch (B : List Int) : Nat → List Int
  | 0 => []
  | k + 1 => sch B k ++ [wd B (sch B k) k]
theorem sch_len (B : List Int) (k : Nat) : (sch B k).length = k := by
  induction k with
  | zero => rfl
  | succ k ih => simp [sch, ih]
theorem sch_zero (B : List Int) : sch B 0 = [] := rfl
theorem sch_succ (B : List Int) (k : Nat) : sch B (k + 1) = sch B k ++ [wd B (sch B k) k] := rfl
attribute [irreducible] sch
theorem vals_at {k : IntKind} {l : List Int} {i : Nat} (h : i < l.length) : (vals k l)[i]? = some (.int k (l.getD i 0)) := by
  simp [vals, h]
/-- the words found so far, then zeros -/
def part (l : List Int) (n : Nat) : List Value := vals .u32 (l ++ List.replicate (n - l.length) 0)
theorem part_at {l : List Int} {n i : Nat} (h : i < l.length) : (part l n)[i]? = some (.int .u32 (l.getD i 0)) := by
  unfold part
  rw [vals_at (by simp; omega)]
  simp [List.getElem?_append_left h]
theorem part_next {l : List Int} {n : Nat} (h : l.length < n) : (part l n)[l.length]? = some (.int .u32 0) := by
  unfold part
  rw [vals_at (by simp; omega)]
  rw [List.getD_eq_getElem?_getD, List.getElem?_append_right (Nat.le_refl _)]
  simp [show 0 < n - l.length by omega]
theorem part_push {l : List Int} {n k : Nat} (h : l.length < n) (hk : l.length = k) (x : Int) : (part l n).set k (.int .u32 x) = part (l ++ [x]) n := by
  subst hk
  unfold part
  have e : n - l.length = (n - (l ++ [x]).length) + 1 := by simp; omega
  rw [e, List.replicate_succ]
  simp [vals]
theorem part_full {l : List Int} {n : Nat} (h : l.length = n) : part l n = vals .u32 l := by
  subst h; simp [part]
theorem part_zero (n : Nat) : part [] n = vals .u32 (List.replicate n 0) := rfl
/-- the block of a hash: its state, the bytes, how many of them are in use, and how many came in all -/
def hcells (st B : List Int) (u t : Int) : List Value := vals .u32 st ++ vals .u8 B ++ [.int .i64 u, .int .u64 t]
theorem hcells_byte {st B : List Int} {u t : Int} (hs : st.length = 8) {i j : Nat} (hi : i < B.length) (hj : j = 8 + i) : (hcells st B u t)[j]? = some (.int .u8 (B.getD i 0)) := by
  subst hj
  unfold hcells
  rw [List.append_assoc, List.getElem?_append_right (by simp [hs])]
  simp only [vals, List.length_map, hs, Nat.add_sub_cancel_left]
  rw [List.getElem?_append_left (by simpa using hi)]
  exact vals_at hi
theorem hcells_state {st B : List Int} {u t : Int} {i : Nat} (hi : i < st.length) : (hcells st B u t)[i]? = some (.int .u32 (st.getD i 0)) := by
  unfold hcells
  rw [List.append_assoc, List.getElem?_append_left (by simpa using hi)]
  exact vals_at hi
theorem hcells_used {st B : List Int} {u t : Int} (hs : st.length = 8) (hb : B.length = 64) : (hcells st B u t)[72]? = some (.int .i64 u) := by
  unfold hcells
  rw [List.getElem?_append_right (by simp [hs, hb])]
  simp [hs, hb]
theorem hcells_total {st B : List Int} {u t : Int} (hs : st.length = 8) (hb : B.length = 64) : (hcells st B u t)[73]? = some (.int .u64 t) := by
  unfold hcells
  rw [List.getElem?_append_right (by simp [hs, hb])]
  simp [hs, hb]
theorem info44 : (Try.prog.info? 44).map (·.size) = some 64 := by kernel_rfl
theorem info37 : (Try.prog.info? 37).map (·.size) = some 8 := by kernel_rfl
theorem vals_one {k : IntKind} {l : List Int} : ((vals k l).toArray).all (·.oneCell') = true := all_oneCell_toArray (fun v hv => by
  simp only [vals, List.mem_map] at hv
  obtain ⟨x, _, rfl⟩ := hv; rfl)
set_option maxHeartbeats 2000000 in
set_option maxRecDepth 100000 in
theorem schedule_c (H : Nat) (st B : List Int) (u t : Int) (w : World) (hst : st.length = 8) (hB : B.length = 64) (hrow : Row w H 41 (hcells st B u t)) :
    Calls Try.prog 20 #[.pointer (some ⟨H, 0, none⟩)] w fun e w' => e = .returned (.agg (vals .u32 (sch B 64)).toArray) ∧ Below w.heap.size w w' := by
  have HST := Lib.hid hst; clear hst
  have HB := Lib.hid hB; clear hB
  have HR := Lib.hid hrow; clear hrow
  go_enter Try.func20, Try.ntmps20
  go_wp2
  obtain ⟨w0, hw0⟩ : ∃ w0 : World, w0 = (w.alloc (.cells (part [] 64).toArray 44)).alloc (.cells (part [] 64).toArray 44) := ⟨_, rfl⟩
  have r0 : Hid (Row w0 w.heap.size 44 (part [] 64)) := Lib.hid (by rw [hw0]; exact (Row.new w 44 _).alloc _)
  have r1 : Hid (Row w0 (w.heap.size + 1) 44 (part [] 64)) := Lib.hid (by rw [hw0]; have := Row.new (w.alloc (.cells (part [] 64).toArray 44)) 44 (part [] 64); rwa [World.size_alloc] at this)
  have b0 : Hid (Below w.heap.size w w0) := Lib.hid (by rw [hw0]; exact ((Below.refl _ _).alloc (Nat.le_refl _) _).alloc (by simp) _)
  simp only [part_zero, vals, List.replicate, List.map_cons, List.map_nil] at hw0
  rw [← hw0]
  clear hw0
  go_loopw [11] (fun s wr => ∃ k : Nat, k ≤ 16 ∧ s = .int .i64 k ∧ Row wr w.heap.size 44 (part [] 64) ∧ Row wr (w.heap.size + 1) 44 (part (sch B k) 64) ∧ Below w.heap.size w wr) (fun s _ => 16 - (intOf s).toNat)
  case atStart => exact ⟨0, by omega, rfl, r0.out, by rw [sch_zero]; exact r1.out, b0.out⟩
  case round =>
    clear r0 r1 b0
    obtain ⟨k, hk, rfl, hrz, hrw, hbl⟩ := hrel
    have HRZ := Lib.hid hrz; clear hrz
    have HRW := Lib.hid hrw; clear hrw
    have HBL := Lib.hid hbl; clear hbl
    by_cases hlt : k < 16
    · have hlk := Lib.hid (sch_len B k)
      have HX := Lib.hid (HR.out.below HBL.out HR.out.lt)
      have hn : Hid (wd B (sch B k) k = ldw (B.getD (4 * k) 0) (B.getD (4 * k + 1) 0) (B.getD (4 * k + 2) 0) (B.getD (4 * k + 3) 0)) := Lib.hid (by unfold wd; rw [if_pos hlt])
      have g0 := HX.out.cell (8 + 4 * k) (hcells_byte HST.out (i := 4 * k) (by rw [HB.out]; omega) rfl)
      have g1 := HX.out.cell (8 + 4 * k + 1) (hcells_byte HST.out (i := 4 * k + 1) (by rw [HB.out]; omega) (by omega))
      have g2 := HX.out.cell (8 + 4 * k + 2) (hcells_byte HST.out (i := 4 * k + 2) (by rw [HB.out]; omega) (by omega))
      have g3 := HX.out.cell (8 + 4 * k + 3) (hcells_byte HST.out (i := 4 * k + 3) (by rw [HB.out]; omega) (by omega))
      obtain ⟨x0, hx0⟩ : ∃ x, B.getD (4 * k) 0 = x := ⟨_, rfl⟩
      obtain ⟨x1, hx1⟩ : ∃ x, B.getD (4 * k + 1) 0 = x := ⟨_, rfl⟩
      obtain ⟨x2, hx2⟩ : ∃ x, B.getD (4 * k + 2) 0 = x := ⟨_, rfl⟩
      obtain ⟨x3, hx3⟩ : ∃ x, B.getD (4 * k + 3) 0 = x := ⟨_, rfl⟩
      rw [hx0] at g0 hn
      rw [hx1] at g1 hn
      rw [hx2] at g2 hn
      rw [hx3] at g3 hn
      clear hx0 hx1 hx2 hx3
      have e0 : wr.cell? ⟨w.heap.size + 1, k, none⟩ = some (.int .u32 0) := HRW.out.cell k (by have := part_next (l := sch B k) (n := 64) (by rw [hlk.out]; omega); rwa [hlk.out] at this)
      have f0 := HRW.out.frozen k
      have b1 : 4 * (k : Int) ≤ 64 := by omega
      have b2 : 4 * (k : Int) < 64 := by omega
      have b3 : 0 ≤ 4 * (k : Int) := by omega
      have b4 : (4 * (k : Int)).toNat = 4 * k := by omega
      have b5 : 4 * k < 64 := by omega
      go_wp2
      go_region
      go_wp2
      go_roundw
      case rel =>
        refine ⟨k + 1, by omega, by go_num, HRZ.out.other _ _ _ (by omega), ?_, (HBL.out.setCell (p := ⟨w.heap.size + 1, k, none⟩) (by simp) _).trans ⟨rfl, rfl, rfl, Nat.le_refl _, fun _ _ => rfl⟩⟩
        have := HRW.out.set k (.int .u32 (wd B (sch B k) k))
        rw [part_push (by rw [hlk.out]; omega) hlk.out, hn.out] at this
        rw [sch_succ]
        rw [hn.out]
        exact this
      case measure => simp [intOf]; omega
    · have hk16 : k = 16 := by omega
      have hl := HRW.out
      rw [hk16] at hl
      have HRW2 := Lib.hid hl
      clear hk hk16 HRW hl
      have HRW := Lib.hid HRW2.out
      clear HRW2
      go_wp2
      obtain ⟨wa, rfl⟩ : ∃ wa : World, wa = wr := ⟨_, rfl⟩
      go_loopw [6] (fun s wr => ∃ k : Nat, 16 ≤ k ∧ k ≤ 64 ∧ s = .int .i64 k ∧ Row wr w.heap.size 44 (part [] 64) ∧ Row wr (w.heap.size + 1) 44 (part (sch B k) 64) ∧ Below w.heap.size w wr) (fun s _ => 64 - (intOf s).toNat)
      case atStart => exact ⟨16, by omega, by omega, rfl, HRZ.out, HRW.out, HBL.out⟩
      case round =>
        clear HRZ HRW HBL
        obtain ⟨k, hk0, hk, rfl, hrz, hrw, hbl⟩ := hrel
        have HRZ := Lib.hid hrz; clear hrz
        have HRW := Lib.hid hrw; clear hrw
        have HBL := Lib.hid hbl; clear hbl
        by_cases hlt : k < 64
        · have hlk := Lib.hid (sch_len B k)
          have hn : Hid (wd B (sch B k) k = mix ((sch B k).getD (k - 16) 0) ((sch B k).getD (k - 7) 0) (s0w ((sch B k).getD (k - 15) 0)) (s1w ((sch B k).getD (k - 2) 0))) := Lib.hid (by unfold wd; rw [if_neg (by omega)])
          have g0 := HRW.out.cell (k - 15) (part_at (by rw [hlk.out]; omega))
          have g1 := HRW.out.cell (k - 2) (part_at (by rw [hlk.out]; omega))
          have g2 := HRW.out.cell (k - 16) (part_at (by rw [hlk.out]; omega))
          have g3 := HRW.out.cell (k - 7) (part_at (by rw [hlk.out]; omega))
          obtain ⟨x0, hx0⟩ : ∃ x, (sch B k).getD (k - 15) 0 = x := ⟨_, rfl⟩
          obtain ⟨x1, hx1⟩ : ∃ x, (sch B k).getD (k - 2) 0 = x := ⟨_, rfl⟩
          obtain ⟨x2, hx2⟩ : ∃ x, (sch B k).getD (k - 16) 0 = x := ⟨_, rfl⟩
          obtain ⟨x3, hx3⟩ : ∃ x, (sch B k).getD (k - 7) 0 = x := ⟨_, rfl⟩
          rw [hx0] at g0 hn
          rw [hx1] at g1 hn
          rw [hx2] at g2 hn
          rw [hx3] at g3 hn
          clear hx0 hx1 hx2 hx3
          have e0 : wr.cell? ⟨w.heap.size + 1, k, none⟩ = some (.int .u32 0) := HRW.out.cell k (by have := part_next (l := sch B k) (n := 64) (by rw [hlk.out]; omega); rwa [hlk.out] at this)
          have f0 := HRW.out.frozen k
          have c1 : ((k : Int) - 15).toNat = k - 15 := by omega
          have c2 : ((k : Int) - 2).toNat = k - 2 := by omega
          have c3 : ((k : Int) - 16).toNat = k - 16 := by omega
          have c4 : ((k : Int) - 7).toNat = k - 7 := by omega
          have p1 : 0 ≤ (k : Int) - 15 := by omega
          have p2 : 0 ≤ (k : Int) - 2 := by omega
          have p3 : 0 ≤ (k : Int) - 16 := by omega
          have p4 : 0 ≤ (k : Int) - 7 := by omega
          have q1 : (k : Int) - 15 < 64 := by omega
          have q2 : (k : Int) - 2 < 64 := by omega
          have q3 : (k : Int) - 16 < 64 := by omega
          have q4 : (k : Int) - 7 < 64 := by omega
          go_wp2
          go_quiet (fail)
          go_wp2_with fail
          refine (rot_7 _ _).mono ?_
          rintro e w' ⟨rfl, rfl⟩
          go_wp2_with fail
          refine (rot_18 _ _).mono ?_
          rintro e w' ⟨rfl, rfl⟩
          go_wp2_with fail
          refine (rot_17 _ _).mono ?_
          rintro e w' ⟨rfl, rfl⟩
          go_wp2_with fail
          refine (rot_19 _ _).mono ?_
          rintro e w' ⟨rfl, rfl⟩
          go_wp2_with fail
          go_region
          go_wp2
          go_roundw
          case rel =>
            refine ⟨k + 1, by omega, by omega, by go_num, (HRZ.out.drewN _).other _ _ _ (by omega), ?_, HBL.out.trans ((Below.refl w.heap.size wr).trans (show Below w.heap.size wr (wr.drewN _) from ⟨rfl, rfl, rfl, Nat.le_refl _, fun _ _ => rfl⟩) |>.setCell (p := ⟨w.heap.size + 1, k, none⟩) (by simp) _)⟩
            have := (HRW.out.drewN (nq + 1)).set k (.int .u32 (wd B (sch B k) k))
            rw [part_push (by rw [hlk.out]; omega) hlk.out, hn.out] at this
            rw [sch_succ]
            rw [hn.out]
            exact this
          case measure => simp [intOf]; omega
        · have hk64 : k = 64 := by omega
          have hl := HRW.out
          rw [hk64, part_full (sch_len B 64)] at hl
          clear hk64
          have HRW2 := Lib.hid hl; clear hl HRW
          have LEN := Lib.hid (sch_len B 64)
          obtain ⟨W, hW⟩ : ∃ W, sch B 64 = W := ⟨_, rfl⟩
          rw [hW] at HRW2 LEN
          have HW := Lib.hid hW
          clear hW
          have hs64 : Hid ((Try.prog.info? 44).map (·.size) = some (vals .u32 W).toArray.size) := Lib.hid (by rw [info44]; simp [LEN.out])
          have hp64 : Hid ((part [] 64).toArray.size = (vals .u32 W).toArray.size) := Lib.hid (by simp [part, LEN.out])
          have LAST := HBL.out
          clear HBL
          go_upto_region 15 with fail
          go_step
          refine wpList_load_row rfl 44 _ rfl (w.heap.size + 1) rfl 44 (vals .u32 W).toArray (0, 0) _ HRW2.out Try.underlying44 rfl hs64.out ?_
          refine wpList_store_row rfl 44 _ _ rfl w.heap.size (vals .u32 W).toArray rfl rfl 44 _ HRZ.out hs64.out hp64.out vals_one ?_
          go_wp2_with fail
          refine bodyPost_ret (v := .agg (vals .u32 W).toArray) (results_cell_row rfl _ _ w.heap.size 44 _ (0, 0) _ rfl (setRow_heap _ _ _ _ _ _ HRZ.out) Try.underlying44 rfl hs64.out) rfl ⟨by rw [HW.out], ?_⟩
          exact below_setRow LAST (Nat.le_refl _) _

end Go.Proofs.Ytacahgcbkgapdaa
