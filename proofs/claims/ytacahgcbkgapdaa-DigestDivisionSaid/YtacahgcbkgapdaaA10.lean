/- Sum of bytes; a nil hash; Clone. -/
import Derived.Test.YtacahgcbkgapdaaA9
namespace Go.Proofs.Ytacahgcbkgapdaa
open Go.RowKit
set_option linter.unusedVariables false

/-- a slice of bytes that reads as l -/
def SlB (w : World) (ad : Option Addr) (n cap : Nat) (l : List Int) : Prop :=
  l.length = n ∧ n ≤ cap ∧ cap ≤ 9223372036854775807 ∧ (n = 0 ∨ ∃ b off, ad = some ⟨b, off, none⟩ ∧ b < w.heap.size ∧ ∀ i, i < n → w.cell? ⟨b, off + i, none⟩ = some (.int .u8 (l.getD i 0)))
theorem SlB.below {w w' : World} {ad : Option Addr} {n cap : Nat} {l : List Int} (h : SlB w ad n cap l) (hb : Below w.heap.size w w') : SlB w' ad n cap l := by
  obtain ⟨h1, h2, h3, h4⟩ := h
  refine ⟨h1, h2, h3, ?_⟩
  rcases h4 with h4 | ⟨b, off, e, hlt, hc⟩
  · exact .inl h4
  · exact .inr ⟨b, off, e, Nat.lt_of_lt_of_le hlt hb.size, fun i hi => (hb.cell (p := ⟨b, off + i, none⟩) hlt).trans (hc i hi)⟩
theorem SlB.nil (w : World) (ad : Option Addr) (cap : Nat) (hc : cap ≤ 9223372036854775807) : SlB w ad 0 cap [] := ⟨rfl, Nat.zero_le _, hc, .inl rfl⟩
theorem SlB.grown {w w' : World} {ad : Option Addr} {n cap H : Nat} {l : List Int} (h : SlB w ad n cap l) (hg : w.grownBy w' (some H)) (hne : ∀ b off, ad = some ⟨b, off, none⟩ → b ≠ H) : SlB w' ad n cap l := by
  obtain ⟨h1, h2, h3, h4⟩ := h
  refine ⟨h1, h2, h3, ?_⟩
  rcases h4 with h4 | ⟨b, off, e, hlt, hc⟩
  · exact .inl h4
  · exact .inr ⟨b, off, e, Nat.lt_of_lt_of_le hlt hg.size, fun i hi => hg.cell (hc i hi) (by simpa using hne b off e)⟩
/-- writing a slice -/
theorem write_sl (H n cap : Nat) (ad : Option Addr) (m l : List Int) (w : World) (hs : SlB w ad n cap l) (hm : m.length + n ≤ 1099511627776) (hne : 0 < n → ∀ b off, ad = some ⟨b, off, none⟩ → b ≠ H) (hh : HMsg w H m) :
    Calls Try.prog 13 #[.pointer (some ⟨H, 0, none⟩), .slice ad n cap] w fun e w' => e = .returned (.tuple #[]) ∧ HMsg w' H (m ++ l) ∧ w.grownBy w' (some H) := by
  obtain ⟨h1, h2, h3, h4⟩ := hs
  rcases h4 with rfl | ⟨b, off, e, hlt, hc⟩
  · exact write_msg H (H + 1) 0 0 cap ad m l w h1 h2 h3 (by omega) (by omega) hh (fun h => absurd h (Nat.lt_irrefl 0)) (fun i hi => absurd hi (Nat.not_lt_zero i))
  · by_cases hn : 0 < n
    · exact write_msg H b off n cap ad m l w h1 h2 h3 (by omega) (hne hn b off e) hh (fun _ => e) hc
    · obtain rfl : n = 0 := by omega
      exact write_msg H (H + 1) 0 0 cap ad m l w h1 h2 h3 (by omega) (by omega) hh (fun h => absurd h (Nat.lt_irrefl 0)) (fun i hi => absurd hi (Nat.not_lt_zero i))
set_option maxHeartbeats 1000000 in
set_option maxRecDepth 100000 in
theorem digestSum_c (ad : Option Addr) (n cap : Nat) (l : List Int) (w : World) (hs : SlB w ad n cap l) (hn : n ≤ 1073741824) :
    Calls Try.prog 10 #[.slice ad n cap] w fun e w' => e = .returned (.agg (vals .u8 (dig l)).toArray) ∧ Below w.heap.size w w' := by
  have HS := Lib.hid hs; clear hs
  have lD : (dig l).length = 32 := dig_len l
  have HL := Lib.hid HS.out.1
  obtain ⟨D, hD⟩ : ∃ D, dig l = D := ⟨_, rfl⟩
  rw [hD] at lD
  have HD := Lib.hid hD
  clear hD
  go_enter Try.func10, Try.ntmps10
  go_wp2_with fail
  obtain ⟨w1, hw1⟩ : ∃ w1 : World, w1 = w.alloc (.cells (vals .u8 (List.replicate 32 0)).toArray 24) := ⟨_, rfl⟩
  have R1 : Hid (Row w1 w.heap.size 24 (vals .u8 (List.replicate 32 0))) := Lib.hid (by rw [hw1]; exact Row.new w 24 _)
  have B1 : Hid (Below w.heap.size w w1) := Lib.hid (by rw [hw1]; exact (Below.refl _ _).alloc (Nat.le_refl _) _)
  have Z1 : Hid (w1.heap.size = w.heap.size + 1) := Lib.hid (by rw [hw1]; simp)
  simp only [vals, List.replicate, List.map_cons, List.map_nil] at hw1
  rw [← hw1]
  clear hw1
  refine (new_c w1).mono ?_
  rintro e w2 ⟨rfl, hw2⟩
  have H2 : Hid (HMsg w2 w1.heap.size []) := Lib.hid (by rw [hw2]; exact hcells_new w1)
  have B12 : Hid (Below w1.heap.size w1 w2) := Lib.hid (by rw [hw2]; exact (Below.refl _ _).alloc (Nat.le_refl _) _)
  clear hw2
  have R2 := Lib.hid (R1.out.below B12.out R1.out.lt)
  have B2 := Lib.hid (B1.out.trans (B12.out.mono B1.out.size))
  have S2 := Lib.hid (HS.out.below B2.out)
  go_wp2_with fail
  refine (write_sl w1.heap.size n cap ad [] l w2 S2.out (by simp; omega) (by
    intro hn b off e
    rcases HS.out.2.2.2 with h | ⟨b', off', e', hlt, _⟩
    · omega
    · rw [e] at e'; cases e'; have := Z1.out; omega) H2.out).mono ?_
  rintro e w3 ⟨rfl, h3, g3⟩
  rw [List.nil_append] at h3
  have R3 := Lib.hid (R2.out.grown g3 (by have := Z1.out; omega))
  have B3 := Lib.hid (below_grown B2.out g3 (by have := R2.out.lt; omega) (by have := Z1.out; omega))
  go_wp2_with fail
  refine (sum_c w1.heap.size l w3 (by rw [HL.out]; exact hn) h3).mono ?_
  rintro e w4 ⟨rfl, hb4⟩
  have R4 := Lib.hid (R3.out.below hb4 R3.out.lt)
  have B4 := Lib.hid (B3.out.trans (hb4.mono B3.out.size))
  clear hb4 h3 g3 R1 B1 R2 B2 S2 R3 B3 H2 B12
  rw [HD.out]
  go_wp2_with fail
  rw [storeRow R4.out (by simp [lD]) vals_one']
  simp only [Result.andThen_ok]
  rw [Oper.upon_skip]
  obtain ⟨w5, hw5⟩ : ∃ w5, w4.setRow w.heap.size (vals .u8 D).toArray = w5 := ⟨_, rfl⟩
  rw [hw5]
  have R5 : Hid (Row w5 w.heap.size 24 (vals .u8 D)) := Lib.hid (by rw [← hw5]; exact R4.out.setRow _)
  have B5 : Hid (Below w.heap.size w w5) := Lib.hid (by rw [← hw5]; exact below_setRow B4.out (Nat.le_refl _) _)
  clear hw5
  have hs32 : Hid ((Try.prog.info? 24).map (·.size) = some (vals .u8 D).toArray.size) := Lib.hid (by rw [info24]; simp [lD])
  go_wp2_with fail
  refine bodyPost_ret (v := .agg (vals .u8 D).toArray) (results_cell_row rfl _ _ w.heap.size 24 _ (0, 0) _ rfl R5.out Try.underlying24 rfl hs32.out) rfl ?_
  exact ⟨by rw [HD.out], B5.out⟩

set_option maxHeartbeats 1000000 in
set_option maxRecDepth 100000 in
theorem sumNil_c (w : World) : Calls Try.prog 14 #[.pointer none] w fun e w' => e = .returned (.agg (vals .u8 (dig [])).toArray) ∧ Below w.heap.size w w' := by
  have lD : (dig []).length = 32 := dig_len []
  have HDS := Lib.hid (fun w => digestSum_c none 0 0 [] w (SlB.nil w none 0 (by omega)) (by omega))
  obtain ⟨D, hD⟩ : ∃ D, dig [] = D := ⟨_, rfl⟩
  rw [hD] at lD HDS
  rw [hD]
  clear hD
  go_enter Try.func14, Try.ntmps14
  go_wp2_with fail
  obtain ⟨w1, hw1⟩ : ∃ w1 : World, w1 = w.alloc (.cells (vals .u8 (List.replicate 32 0)).toArray 24) := ⟨_, rfl⟩
  have R1 : Hid (Row w1 w.heap.size 24 (vals .u8 (List.replicate 32 0))) := Lib.hid (by rw [hw1]; exact Row.new w 24 _)
  have B1 : Hid (Below w.heap.size w w1) := Lib.hid (by rw [hw1]; exact (Below.refl _ _).alloc (Nat.le_refl _) _)
  simp only [vals, List.replicate, List.map_cons, List.map_nil] at hw1
  rw [← hw1]
  clear hw1
  refine (HDS.out w1).mono ?_
  rintro e w4 ⟨rfl, hb4⟩
  have R4 := Lib.hid (R1.out.below hb4 R1.out.lt)
  have B4 := Lib.hid (B1.out.trans (hb4.mono B1.out.size))
  clear hb4 R1 B1
  go_wp2_with fail
  rw [storeRow R4.out (by simp [lD]) vals_one']
  simp only [Result.andThen_ok]
  rw [Oper.upon_skip]
  obtain ⟨w5, hw5⟩ : ∃ w5, w4.setRow w.heap.size (vals .u8 D).toArray = w5 := ⟨_, rfl⟩
  rw [hw5]
  have R5 : Hid (Row w5 w.heap.size 24 (vals .u8 D)) := Lib.hid (by rw [← hw5]; exact R4.out.setRow _)
  have B5 : Hid (Below w.heap.size w w5) := Lib.hid (by rw [← hw5]; exact below_setRow B4.out (Nat.le_refl _) _)
  clear hw5
  have hs32 : Hid ((Try.prog.info? 24).map (·.size) = some (vals .u8 D).toArray.size) := Lib.hid (by rw [info24]; simp [lD])
  go_wp2_with fail
  refine bodyPost_ret (v := .agg (vals .u8 D).toArray) (results_cell_row rfl _ _ w.heap.size 24 _ (0, 0) _ rfl R5.out Try.underlying24 rfl hs32.out) rfl ?_
  exact ⟨rfl, B5.out⟩

/-- a copy of a hash -/
theorem clone_c (H : Nat) (m : List Int) (w : World) (hh : HMsg w H m) :
    Calls Try.prog 15 #[.pointer (some ⟨H, 0, none⟩)] w fun e w' => e = .returned (.pointer (some ⟨w.heap.size, 0, none⟩)) ∧ HMsg w' w.heap.size m ∧ Below w.heap.size w w' := by
  obtain ⟨hst, hbl, B, hB, hT, hrow⟩ := id hh
  have HST := Lib.hid hst; clear hst
  have HB := Lib.hid hB; clear hB
  have HT := Lib.hid hT; clear hT
  clear hh
  obtain ⟨st, hsx⟩ : ∃ x, (runB init m).1 = x := ⟨_, rfl⟩
  obtain ⟨buf, hbx⟩ : ∃ x, (runB init m).2 = x := ⟨_, rfl⟩
  have HR := Lib.hid hrow; clear hrow
  rw [hsx] at HST HR
  rw [hbx] at HT HR hbl
  have HSX := Lib.hid hsx
  have HBX := Lib.hid hbx
  clear hsx hbx
  have hsz : Hid ((Try.prog.info? 41).map (·.size) = some (hcells st B buf.length m.length).toArray.size) := Lib.hid (by rw [info41, List.size_toArray, hcells_len HST.out HB.out])
  have hz41 := (zero_of_info zero41).1
  have LZ : Hid ((hcells (List.replicate 8 0) (List.replicate 64 0) 0 0).length = 74) := Lib.hid rfl
  obtain ⟨Z, hZ⟩ : ∃ Z, hcells (List.replicate 8 0) (List.replicate 64 0) 0 0 = Z := ⟨_, rfl⟩
  rw [hZ] at hz41 LZ
  clear hZ
  go_enter Try.func15, Try.ntmps15
  go_upto_region 3 with fail
  go_step
  iterate 6 (first | go_step | go_back)
  refine wpList_load_row rfl 41 _ rfl H rfl 41 (hcells st B buf.length m.length).toArray (0, 0) _ HR.out Try.underlying41 rfl hsz.out ?_
  iterate 3 (first | go_step | go_back)
  have rc := Lib.hid (Row.new w 41 Z)
  have hszc : Hid (Z.toArray.size = (hcells st B buf.length m.length).toArray.size) := Lib.hid (by rw [List.size_toArray, List.size_toArray, hcells_len HST.out HB.out, LZ.out])
  refine wpList_store_row rfl 41 _ _ rfl w.heap.size (hcells st B buf.length m.length).toArray rfl rfl 41 _ rc.out hsz.out hszc.out (all_oneCell_toArray hcells_one) ?_
  obtain ⟨w2, hw2⟩ : ∃ w2, (w.alloc (.cells Z.toArray 41)).setRow w.heap.size (hcells st B buf.length m.length).toArray = w2 := ⟨_, rfl⟩
  have HC : Hid (HMsg w2 w.heap.size m) := Lib.hid (by
    unfold HMsg
    rw [HSX.out, HBX.out, ← hw2]
    exact ⟨HST.out, hbl, B, HB.out, HT.out, rc.out.setRow _⟩)
  have BB : Hid (Below w.heap.size w w2) := Lib.hid (by rw [← hw2]; exact below_setRow ((Below.refl _ _).alloc (Nat.le_refl _) _) (Nat.le_refl _) _)
  rw [hw2]
  clear hw2 rc hszc hsz hz41
  go_wp2
  go_ret
  exact ⟨rfl, HC.out, BB.out⟩
theorem cloneNil_c (w : World) : Calls Try.prog 15 #[.pointer none] w fun e w' => e = .returned (.pointer none) ∧ w = w' := by
  go_enter Try.func15, Try.ntmps15
  go_wp2
  go_ret
  exact ⟨rfl, rfl⟩
theorem writeNil_c (w : World) (ad : Option Addr) (n cap : Nat) : Calls Try.prog 13 #[.pointer none, .slice ad n cap] w fun e w' => e = .returned (.tuple #[]) ∧ w = w' := by
  go_enter Try.func13, Try.ntmps13
  go_wp2
  refine bodyPost_ret (results_none rfl _ _ _) rfl ?_
  exact ⟨rfl, rfl⟩

end Go.Proofs.Ytacahgcbkgapdaa
