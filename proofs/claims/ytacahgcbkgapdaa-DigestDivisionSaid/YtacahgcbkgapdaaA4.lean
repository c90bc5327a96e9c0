/- A block is processed. -/
import Derived.Test.YtacahgcbkgapdaaA3
import Derived.Great.BuildSlice
namespace Go.Proofs.Ytacahgcbkgapdaa
open Go.RowKit
set_option linter.unusedVariables false

def S1 (e : Int) : Int := bits .xor .u32 (bits .xor .u32 (rot 6 e) (rot 11 e)) (rot 25 e)
def CH (e f g : Int) : Int := bits .xor .u32 (bits .and .u32 e f) (bits .and .u32 (bits .xor .u32 IntKind.u32.max e) g)
def S0 (a : Int) : Int := bits .xor .u32 (bits .xor .u32 (rot 2 a) (rot 13 a)) (rot 22 a)
def MJ (a b c : Int) : Int := bits .xor .u32 (bits .xor .u32 (bits .and .u32 a b) (bits .and .u32 a c)) (bits .and .u32 b c)
def na (a b c e f g h k w : Int) : Int := (h + S1 e + CH e f g + k + w + (S0 a + MJ a b c)) % 4294967296
def ne (d e f g h k w : Int) : Int := (d + (h + S1 e + CH e f g + k + w)) % 4294967296
/-- a round -/
def rnd (k w : Int) : List Int → List Int
  | [a, b, c, d, e, f, g, p] => [na a b c e f g p k w, a, b, c, ne d e f g p k w, e, f, g]
  | l => l
def rnds (W : List Int) : Nat → List Int → List Int
  | 0, s => s
  | n + 1, s => rnd (kc.getD n 0) (W.getD n 0) (rnds W n s)
theorem rnds_zero (W s : List Int) : rnds W 0 s = s := rfl
theorem rnds_succ (W : List Int) (n : Nat) (s : List Int) : rnds W (n + 1) s = rnd (kc.getD n 0) (W.getD n 0) (rnds W n s) := rfl
attribute [irreducible] rnds
/-- the first k words added -/
def addTo (st s : List Int) (k : Nat) : List Int := st.mapIdx fun i x => if i < k then (x + s.getD i 0) % 4294967296 else x
theorem addTo_len (st s : List Int) (k : Nat) : (addTo st s k).length = st.length := by simp [addTo]
theorem addTo_zero (st s : List Int) : addTo st s 0 = st := by
  apply List.ext_getElem?
  intro i; simp [addTo]
theorem addTo_step (st s : List Int) (k : Nat) (B : List Int) (u t : Int) (h : k < st.length) : (hcells (addTo st s k) B u t).set k (.int .u32 (((addTo st s k).getD k 0 + s.getD k 0) % 4294967296)) = hcells (addTo st s (k + 1)) B u t := by
  unfold hcells
  rw [List.append_assoc, List.append_assoc, List.set_append_left _ _ (by simpa [addTo_len] using h)]
  congr 1
  apply List.ext_getElem?
  intro i
  simp only [vals, List.getElem?_set, List.length_map, addTo_len, List.getElem?_map]
  by_cases e : k = i
  · subst e; simp [h, addTo]
  · rw [if_neg e]
    congr 1
    simp only [addTo, List.getElem?_mapIdx]
    congr 1
    funext x
    by_cases e2 : i < k
    · rw [if_pos e2, if_pos (by omega)]
    · rw [if_neg e2, if_neg (by omega)]
/-- the state behind a block -/
def blk (st B : List Int) : List Int := addTo st (rnds (sch B 64) 64 st) 8
theorem grown_below {w w' : World} (h : Below w.heap.size w w') (r : Option Nat) : w.grownBy w' r := ⟨h.os, h.tape, h.output, h.size, fun k hk _ => h.block k hk⟩
theorem grown_set {w w' : World} {H : Nat} (h : w.grownBy w' (some H)) (i : Nat) (v : Value) : w.grownBy (w'.setCell ⟨H, i, none⟩ v) (some H) :=
  ⟨h.os, h.tape, h.output, by simpa [World.setCell] using h.size, fun k hk hne => by
    rw [heap_setCell_other w' _ k v (fun e => hne (by rw [e]))]; exact h.block k hk hne⟩
theorem grown_drew {w w' : World} {r : Option Nat} (h : w.grownBy w' r) : w.grownBy w'.drew r := ⟨h.os, h.tape, h.output, h.size, h.block⟩
theorem grown_drewN {w w' : World} {r : Option Nat} (h : w.grownBy w' r) (n : Nat) : w.grownBy (w'.drewN n) r := ⟨h.os, h.tape, h.output, h.size, h.block⟩
theorem below_drew {B : Nat} {w0 w : World} (h : Below B w0 w) (n : Nat) : Below B w0 (w.drewN n) := ⟨h.os, h.tape, h.output, h.size, h.block⟩
theorem idx8 (a b c d e f g p : Int) (j : Nat) (hj : j < 8) : ∀ w : World, (Instr.index 37 (.agg #[.int .u32 a, .int .u32 b, .int .u32 c, .int .u32 d, .int .u32 e, .int .u32 f, .int .u32 g, .int .u32 p]) (.int .i64 (j : Int))).run Try.prog w = .ok (.int .u32 ([a, b, c, d, e, f, g, p].getD j 0)) w := by
  intro w
  match j, hj with
  | 0, _ => rfl
  | 1, _ => rfl
  | 2, _ => rfl
  | 3, _ => rfl
  | 4, _ => rfl
  | 5, _ => rfl
  | 6, _ => rfl
  | 7, _ => rfl
theorem Row.other8 {w : World} {g : Nat} {t : TypeId} {cs : List Value} (h : Row w g t cs) {g' : Nat} (hne : g ≠ g') (v0 v1 v2 v3 v4 v5 v6 v7 : Value) :
    Row ((((((((w.setCell ⟨g', 0, none⟩ v0).setCell ⟨g', 1, none⟩ v1).setCell ⟨g', 2, none⟩ v2).setCell ⟨g', 3, none⟩ v3).setCell ⟨g', 4, none⟩ v4).setCell ⟨g', 5, none⟩ v5).setCell ⟨g', 6, none⟩ v6).setCell ⟨g', 7, none⟩ v7) g t cs :=
  (((((((h.other g' 0 v0 hne).other g' 1 v1 hne).other g' 2 v2 hne).other g' 3 v3 hne).other g' 4 v4 hne).other g' 5 v5 hne).other g' 6 v6 hne).other g' 7 v7 hne
theorem Below.set8 {B : Nat} {w0 w : World} (h : Below B w0 w) {g' : Nat} (hB : B ≤ g') (v0 v1 v2 v3 v4 v5 v6 v7 : Value) :
    Below B w0 ((((((((w.setCell ⟨g', 0, none⟩ v0).setCell ⟨g', 1, none⟩ v1).setCell ⟨g', 2, none⟩ v2).setCell ⟨g', 3, none⟩ v3).setCell ⟨g', 4, none⟩ v4).setCell ⟨g', 5, none⟩ v5).setCell ⟨g', 6, none⟩ v6).setCell ⟨g', 7, none⟩ v7) :=
  (((((((h.setCell (p := ⟨g', 0, none⟩) hB v0).setCell (p := ⟨g', 1, none⟩) hB v1).setCell (p := ⟨g', 2, none⟩) hB v2).setCell (p := ⟨g', 3, none⟩) hB v3).setCell (p := ⟨g', 4, none⟩) hB v4).setCell (p := ⟨g', 5, none⟩) hB v5).setCell (p := ⟨g', 6, none⟩) hB v6).setCell (p := ⟨g', 7, none⟩) hB v7
theorem storeRow {P : Program} {w : World} {g : Nat} {t : TypeId} {old l : List Value} (h : Row w g t old) (hl : old.length = l.length) (h1 : ∀ v ∈ l, v.oneCell' = true) :
    Sem.run P (storeCells ⟨g, 0, none⟩ l) w = .ok () (w.setRow g l.toArray) := by
  have := run_storeCells_from (P := P) g t l 0 old.toArray w h (by simp; omega) h1
  simpa using this
theorem vals_one' {k : IntKind} {l : List Int} : ∀ v ∈ vals k l, v.oneCell' = true := fun v hv => by
  simp only [vals, List.mem_map] at hv
  obtain ⟨x, _, rfl⟩ := hv; rfl
theorem Row.setRow {w : World} {g : Nat} {t : TypeId} {old : List Value} (h : Row w g t old) (l : List Value) : Row (w.setRow g l.toArray) g t l := setRow_heap _ _ _ _ _ _ h
theorem Row.otherRow {w : World} {g g' : Nat} {t : TypeId} {cs : List Value} (h : Row w g t cs) (l : Array Value) (hne : g ≠ g') : Row (w.setRow g' l) g t cs := by
  unfold Row; rw [setRow_other _ _ _ _ hne]; exact h
set_option maxHeartbeats 2000000 in
set_option maxRecDepth 100000 in
theorem process_c (H : Nat) (a0 b0 c0 d0 e0 f0 g0 h0 : Int) (B : List Int) (u t : Int) (w : World) (hB : B.length = 64) (hrow : Row w H 41 (hcells [a0, b0, c0, d0, e0, f0, g0, h0] B u t)) :
    Calls Try.prog 17 #[.pointer (some ⟨H, 0, none⟩)] w fun e w' => e = .returned (.tuple #[]) ∧ Row w' H 41 (hcells (blk [a0, b0, c0, d0, e0, f0, g0, h0] B) B u t) ∧ w.grownBy w' (some H) := by
  have HB := Lib.hid hB; clear hB
  have HR := Lib.hid hrow; clear hrow
  have LEN := Lib.hid (sch_len B 64)
  have HSC := schedule_c H [a0, b0, c0, d0, e0, f0, g0, h0] B u t w rfl HB.out HR.out
  obtain ⟨W, hW⟩ : ∃ W, sch B 64 = W := ⟨_, rfl⟩
  rw [hW] at LEN HSC
  have HW := Lib.hid hW
  clear hW
  have hs64 : Hid ((Try.prog.info? 44).map (·.size) = some (vals .u32 W).toArray.size) := Lib.hid (by rw [info44]; simp [LEN.out])
  have hp64 : Hid ((part [] 64).toArray.size = (vals .u32 W).toArray.size) := Lib.hid (by simp [part, LEN.out])
  have hk64' : Hid ((Try.prog.info? 44).map (·.size) = some (vals .u32 kc).toArray.size) := Lib.hid hk64
  obtain ⟨KK, hKK⟩ : ∃ KK, kc = KK := ⟨_, rfl⟩
  have hpk : Hid ((part [] 64).toArray.size = (vals .u32 kc).toArray.size) := Lib.hid hp64k
  have HCC := Lib.hid (fun w => constants_c w)
  have lK := kc_len
  rw [hKK] at hk64' hpk HCC lK
  have HKK := Lib.hid hKK
  clear hKK
  have HSC' := Lib.hid HSC
  clear HSC
  go_enter Try.func17, Try.ntmps17
  go_wp2_with fail
  refine HSC'.out.mono ?_
  rintro e w1 ⟨rfl, hb1⟩
  have B1 := Lib.hid hb1; clear hb1
  go_wp2_with fail
  refine (HCC.out _).mono ?_
  rintro e w2 ⟨rfl, hb2⟩
  have B2 := Lib.hid hb2; clear hb2
  go_wp2_with fail
  obtain ⟨w3, hw3⟩ : ∃ w3 : World, w3 = (w2.alloc (.cells (part [] 64).toArray 44)).alloc (.cells (part [] 64).toArray 44) := ⟨_, rfl⟩
  have r0 : Hid (Row w3 w2.heap.size 44 (part [] 64)) := Lib.hid (by rw [hw3]; exact (Row.new w2 44 _).alloc _)
  have r1 : Hid (Row w3 (w2.heap.size + 1) 44 (part [] 64)) := Lib.hid (by rw [hw3]; have := Row.new (w2.alloc (.cells (part [] 64).toArray 44)) 44 (part [] 64); rwa [World.size_alloc] at this)
  have B3 : Hid (Below w2.heap.size w2 w3) := Lib.hid (by rw [hw3]; exact ((Below.refl _ _).alloc (Nat.le_refl _) _).alloc (by simp) _)
  have Z3 : Hid (w3.heap.size = w2.heap.size + 2) := Lib.hid (by rw [hw3]; simp)
  simp only [part_zero, vals, List.replicate, List.map_cons, List.map_nil] at hw3
  rw [← hw3]
  clear hw3
  rw [storeRow r0.out (by simp [part, LEN.out]) vals_one']
  simp only [Result.andThen_ok]
  rw [Oper.upon_skip]
  have r1' := Lib.hid (r1.out.otherRow (g' := w2.heap.size) (vals .u32 W).toArray (by omega))
  obtain ⟨w4, hw4⟩ : ∃ w4 : World, w4 = w3.setRow w2.heap.size (vals .u32 W).toArray := ⟨_, rfl⟩
  rw [← hw4] at r1' ⊢
  have r0' : Hid (Row w4 w2.heap.size 44 (vals .u32 W)) := Lib.hid (by rw [hw4]; exact r0.out.setRow _)
  have B4 : Hid (Below w2.heap.size w2 w4) := Lib.hid (by rw [hw4]; exact below_setRow B3.out (Nat.le_refl _) _)
  have Z4 : Hid (w4.heap.size = w2.heap.size + 2) := Lib.hid (by rw [hw4]; simp [World.setRow, Z3.out])
  clear hw4 r0 r1 B3 Z3
  go_wp2_with fail
  rw [storeRow r1'.out (by simp [part, lK]) vals_one']
  simp only [Result.andThen_ok]
  rw [Oper.upon_skip]
  obtain ⟨w5, hw5⟩ : ∃ w5 : World, w5 = w4.setRow (w2.heap.size + 1) (vals .u32 KK).toArray := ⟨_, rfl⟩
  rw [← hw5]
  have R0 : Hid (Row w5 w2.heap.size 44 (vals .u32 W)) := Lib.hid (by rw [hw5]; exact r0'.out.otherRow _ (by omega))
  have R1 : Hid (Row w5 (w2.heap.size + 1) 44 (vals .u32 KK)) := Lib.hid (by rw [hw5]; exact r1'.out.setRow _)
  have B5 : Hid (Below w2.heap.size w2 w5) := Lib.hid (by rw [hw5]; exact below_setRow B4.out (by omega) _)
  have Z5 : Hid (w5.heap.size = w2.heap.size + 2) := Lib.hid (by rw [hw5]; simp [World.setRow, Z4.out])
  clear hw5 r0' r1' B4 Z4
  go_upto_region 1 with fail
  have BW : Hid (Below w.heap.size w w5) := Lib.hid (B1.out.trans ((B2.out.trans (B5.out.mono B2.out.size)).mono B1.out.size))
  have hwz : Hid (w.heap.size ≤ w2.heap.size) := Lib.hid (Nat.le_trans B1.out.size B2.out.size)
  clear B1 B2 B5
  have HR5 := Lib.hid (HR.out.below BW.out HR.out.lt)
  have k0 := HR5.out.cell 0 (v := .int .u32 a0) rfl
  have k1 := HR5.out.cell 1 (v := .int .u32 b0) rfl
  have k2 := HR5.out.cell 2 (v := .int .u32 c0) rfl
  have k3 := HR5.out.cell 3 (v := .int .u32 d0) rfl
  have k4 := HR5.out.cell 4 (v := .int .u32 e0) rfl
  have k5 := HR5.out.cell 5 (v := .int .u32 f0) rfl
  have k6 := HR5.out.cell 6 (v := .int .u32 g0) rfl
  have k7 := HR5.out.cell 7 (v := .int .u32 h0) rfl
  go_wp2
  clear k0 k1 k2 k3 k4 k5 k6 k7
  have S0 := Lib.hid (Row.new w5 37 (vals .u32 [a0, b0, c0, d0, e0, f0, g0, h0]))
  have R0' := Lib.hid (R0.out.alloc (.cells (vals .u32 [a0, b0, c0, d0, e0, f0, g0, h0]).toArray 37))
  have R1' := Lib.hid (R1.out.alloc (.cells (vals .u32 [a0, b0, c0, d0, e0, f0, g0, h0]).toArray 37))
  have BW' := Lib.hid (BW.out.alloc (o := .cells (vals .u32 [a0, b0, c0, d0, e0, f0, g0, h0]).toArray 37) (by rw [Z5.out]; have := hwz.out; omega))
  clear R0 R1 BW HR5
  go_loopw [19] (fun s wr => ∃ (k : Nat) (a b c d e f g p : Int), k ≤ 64 ∧ s = .int .i64 k ∧ Hid (rnds W k [a0, b0, c0, d0, e0, f0, g0, h0] = [a, b, c, d, e, f, g, p]) ∧ Row wr w5.heap.size 37 (vals .u32 [a, b, c, d, e, f, g, p]) ∧ Row wr w2.heap.size 44 (vals .u32 W) ∧ Row wr (w2.heap.size + 1) 44 (vals .u32 KK) ∧ Below w.heap.size w wr) (fun s _ => 64 - (intOf s).toNat)
  case atStart => exact ⟨0, a0, b0, c0, d0, e0, f0, g0, h0, by omega, rfl, Lib.hid (rnds_zero _ _), S0.out, R0'.out, R1'.out, BW'.out⟩
  case round =>
    obtain ⟨k, a, b, c, d, e, f, g, p, hk, rfl, HI, hs, hw, hkk, hbl⟩ := hrel
    have HS := Lib.hid hs; clear hs
    have HRW := Lib.hid hw; clear hw
    have HRK := Lib.hid hkk; clear hkk
    have HBL := Lib.hid hbl; clear hbl
    by_cases hlt : k < 64
    · have k0 := HS.out.cell 0 (v := .int .u32 a) rfl
      have k1 := HS.out.cell 1 (v := .int .u32 b) rfl
      have k2 := HS.out.cell 2 (v := .int .u32 c) rfl
      have k3 := HS.out.cell 3 (v := .int .u32 d) rfl
      have k4 := HS.out.cell 4 (v := .int .u32 e) rfl
      have k5 := HS.out.cell 5 (v := .int .u32 f) rfl
      have k6 := HS.out.cell 6 (v := .int .u32 g) rfl
      have k7 := HS.out.cell 7 (v := .int .u32 p) rfl
      have k8 := HRW.out.cell k (vals_at (by rw [LEN.out]; exact hlt))
      have k9 := HRK.out.cell k (vals_at (by omega))
      have z0 := HS.out.frozen 0
      have z1 := HS.out.frozen 1
      have z2 := HS.out.frozen 2
      have z3 := HS.out.frozen 3
      have z4 := HS.out.frozen 4
      have z5 := HS.out.frozen 5
      have z6 := HS.out.frozen 6
      have z7 := HS.out.frozen 7
      obtain ⟨x0, hx0⟩ : ∃ x, W.getD k 0 = x := ⟨_, rfl⟩
      obtain ⟨x1, hx1⟩ : ∃ x, KK.getD k 0 = x := ⟨_, rfl⟩
      rw [hx0] at k8
      rw [hx1] at k9
      have X0 := Lib.hid hx0
      have X1 := Lib.hid hx1
      clear hx0 hx1
      go_wp2
      go_quiet (first | (go_at_call_of 22 (Value.int IntKind.i64 6); exact Calls.quiet_of_same (rotq_6 _ _)) | (go_at_call_of 22 (Value.int IntKind.i64 11); exact Calls.quiet_of_same (rotq_11 _ _)) | (go_at_call_of 22 (Value.int IntKind.i64 25); exact Calls.quiet_of_same (rotq_25 _ _)))
      go_wp2
      go_quiet (fail)
      go_wp2
      go_quiet (first | (go_at_call_of 22 (Value.int IntKind.i64 2); exact qadd_same (rotq_2 _ _)) | (go_at_call_of 22 (Value.int IntKind.i64 13); exact qadd_same (rotq_13 _ _)) | (go_at_call_of 22 (Value.int IntKind.i64 22); exact qadd_same (rotq_22 _ _)))
      go_wp2
      go_roundw
      case rel =>
        refine ⟨k + 1, na a b c e f g p x1 x0, a, b, c, ne d e f g p x1 x0, e, f, g, by omega, by go_num, ?_, ?_, ?_, ?_, ?_⟩
        · exact Lib.hid (by rw [rnds_succ, HI.out, HKK.out, X0.out, X1.out]; rfl)
        · exact ((((((((HS.out.drewN _).set 0 _).set 1 _).set 2 _).set 3 _).set 4 _).set 5 _).set 6 _).set 7 _
        · have z5 := Z5.out
          exact (HRW.out.drewN _).other8 (by omega) _ _ _ _ _ _ _ _
        · have z5 := Z5.out
          exact (HRK.out.drewN _).other8 (by omega) _ _ _ _ _ _ _ _
        · have z5 := Z5.out
          have z6 := hwz.out
          exact Below.set8 (below_drew HBL.out _) (by omega) _ _ _ _ _ _ _ _
      case measure => simp [intOf]; omega
    · have hk64 : k = 64 := by omega
      have hi := HI.out
      rw [hk64] at hi
      have HF : Hid (blk [a0, b0, c0, d0, e0, f0, g0, h0] B = addTo [a0, b0, c0, d0, e0, f0, g0, h0] [a, b, c, d, e, f, g, p] 8) := Lib.hid (by unfold blk; rw [HW.out, hi])
      clear hi hk64 HI
      have HRH := Lib.hid (HR.out.below HBL.out HR.out.lt)
      have HG : Hid (w.grownBy wr (some H)) := Lib.hid (grown_below HBL.out _)
      have hH : Hid (H < w.heap.size) := Lib.hid HR.out.lt
      have k0 := HS.out.cell 0 (v := .int .u32 a) rfl
      have k1 := HS.out.cell 1 (v := .int .u32 b) rfl
      have k2 := HS.out.cell 2 (v := .int .u32 c) rfl
      have k3 := HS.out.cell 3 (v := .int .u32 d) rfl
      have k4 := HS.out.cell 4 (v := .int .u32 e) rfl
      have k5 := HS.out.cell 5 (v := .int .u32 f) rfl
      have k6 := HS.out.cell 6 (v := .int .u32 g) rfl
      have k7 := HS.out.cell 7 (v := .int .u32 p) rfl
      go_wp2
      clear k0 k1 k2 k3 k4 k5 k6 k7
      obtain ⟨wa, rfl⟩ : ∃ wa : World, wa = wr := ⟨_, rfl⟩
      go_loopw [110] (fun s wr => ∃ j : Nat, j ≤ 8 ∧ s = .int .i64 j ∧ Row wr H 41 (hcells (addTo [a0, b0, c0, d0, e0, f0, g0, h0] [a, b, c, d, e, f, g, p] j) B u t) ∧ w.grownBy wr (some H)) (fun s _ => 8 - (intOf s).toNat)
      case atStart => exact ⟨0, by omega, rfl, by rw [addTo_zero]; exact HRH.out, HG.out⟩
      case round =>
        clear HRH HG
        obtain ⟨j, hj, rfl, hrh, hg⟩ := hrel
        have HRH := Lib.hid hrh; clear hrh
        have HG := Lib.hid hg; clear hg
        by_cases hlt : j < 8
        · have hix := idx8 a b c d e f g p j hlt
          have hx := HRH.out.cell j (hcells_state (by rw [addTo_len]; exact hlt))
          have hz := HRH.out.frozen j
          have hst := Lib.hid (addTo_step [a0, b0, c0, d0, e0, f0, g0, h0] [a, b, c, d, e, f, g, p] j B u t hlt)
          obtain ⟨y0, hy0⟩ : ∃ x, (addTo [a0, b0, c0, d0, e0, f0, g0, h0] [a, b, c, d, e, f, g, p] j).getD j 0 = x := ⟨_, rfl⟩
          obtain ⟨y1, hy1⟩ : ∃ x, [a, b, c, d, e, f, g, p].getD j 0 = x := ⟨_, rfl⟩
          rw [hy0] at hx hst
          rw [hy1] at hix hst
          clear hy0 hy1
          go_wp2
          go_region
          go_wp2
          go_roundw
          case rel =>
            refine ⟨j + 1, by omega, by go_num, ?_, grown_drew (grown_set HG.out j _)⟩
            have := HRH.out.set j (.int .u32 ((y0 + y1) % 4294967296))
            rw [hst.out] at this
            exact this
          case measure => simp [intOf]; omega
        · have hj8 : j = 8 := by omega
          have hr := HRH.out
          rw [hj8, ← HF.out] at hr
          have HRH2 := Lib.hid hr
          clear hr hj8 HRH
          go_wp2
          go_end0
          exact ⟨rfl, HRH2.out, HG.out⟩

end Go.Proofs.Ytacahgcbkgapdaa
