/- The law of the prefixes. -/
import Derived.Test.YtacahgcbkgapdaaA14
import Derived.Laws.AppendOwnNone
import Derived.Deep.RegionWith
namespace Go.Proofs.Ytacahgcbkgapdaa
open Go.RowKit
set_option linter.unusedVariables false

theorem HMsg.grownB {w w' : World} {H : Nat} {m : List Int} {B : Nat} (h : HMsg w H m) (hb : Below B w w') (hlt : H < B) : HMsg w' H m := h.below hb hlt
theorem SlB.take {w : World} {b off n cap i : Nat} {l : List Int} (h : SlB w (some ⟨b, off, none⟩) n cap l) (hi : i ≤ n) : SlB w (some ⟨b, off, none⟩) i cap (l.take i) := by
  obtain ⟨h1, h2, h3, h4⟩ := h
  refine ⟨by rw [List.length_take]; omega, by omega, h3, ?_⟩
  rcases h4 with h4 | ⟨b', off', e, hl, hc⟩
  · exact .inl (by omega)
  · cases e
    exact .inr ⟨b, off, rfl, hl, fun j hj => by rw [hc j (by omega)]; simp [List.getD, hj]⟩
theorem SlB.one {w : World} {b off n cap i : Nat} {l : List Int} (h : SlB w (some ⟨b, off, none⟩) n cap l) (hi : i < n) : SlB w (some ⟨b, off + i, none⟩) 1 (cap - i) [l.getD i 0] := by
  obtain ⟨h1, h2, h3, h4⟩ := h
  refine ⟨rfl, by omega, by omega, ?_⟩
  rcases h4 with h4 | ⟨b', off', e, hl, hc⟩
  · omega
  · cases e
    refine .inr ⟨b, off + i, rfl, hl, fun j hj => ?_⟩
    obtain rfl : j = 0 := by omega
    exact hc i hi
theorem take_one {l : List Int} {i : Nat} (h : i < l.length) : l.take i ++ [l.getD i 0] = l.take (i + 1) := by
  rw [List.take_add_one, List.getElem?_eq_getElem h]
  simp [List.getD, List.getElem?_eq_getElem h]
set_option maxHeartbeats 1000000 in
set_option maxRecDepth 100000 in
theorem law_prefixes (ad : Option Addr) (n cap : Nat) (l : List Int) (w : World) (hs : SlB w ad n cap l) (hz : ad = none → n = 0 ∧ cap = 0) :
    Calls Try.prog 8 #[.slice ad n cap] w fun e w' => e = .returned (.bool true) ∧ Below w.heap.size w w' := by
  have HS := Lib.hid hs; clear hs
  have HL := Lib.hid HS.out.1
  by_cases hn : 140 < n
  · go_enter Try.func8, Try.ntmps8
    go_wp2_with fail
    refine (awake_c w).mono ?_
    rintro e w1 ⟨rfl, hb1⟩
    have B1 := Lib.hid hb1
    clear hb1
    go_wp2_with fail
    refine (awake_c w1).mono ?_
    rintro e w2 ⟨rfl, hb2⟩
    have B2 := Lib.hid (B1.out.trans (hb2.mono B1.out.size))
    go_wp2
    refine bodyPost_ret (results_tmp rfl _ _ _) rfl ?_
    exact ⟨rfl, B2.out⟩
  · have HZ := Lib.hid hz
    clear hz
    go_enter Try.func8, Try.ntmps8
    go_wp2_with fail
    refine (awake_c w).mono ?_
    rintro e w1 ⟨rfl, hb1⟩
    have B1 := Lib.hid hb1
    have S1 := Lib.hid (HS.out.below hb1)
    clear hb1
    go_wp2_with fail
    refine (new_c w1).mono ?_
    rintro e w2 ⟨rfl, hw2⟩
    have H2 : Hid (HMsg w2 w1.heap.size []) := Lib.hid (by rw [hw2]; exact hcells_new w1)
    have B12 : Hid (Below w1.heap.size w1 w2) := Lib.hid (by rw [hw2]; exact (Below.refl _ _).alloc (Nat.le_refl _) _)
    have B2 := Lib.hid (B1.out.trans (B12.out.mono B1.out.size))
    have S2 := Lib.hid (S1.out.below B12.out)
    have nb : Hid (∀ b off, ad = some ⟨b, off, none⟩ → 0 < n → b < w1.heap.size) := Lib.hid S1.out.block
    have HB : Hid (w.heap.size ≤ w1.heap.size) := Lib.hid B1.out.size
    clear hw2 S1 B12
    go_wp2
    go_loopw [4] (fun s wr => ∃ i : Nat, i ≤ n ∧ s = .int .i64 i ∧ HMsg wr w1.heap.size (l.take i) ∧ SlB wr ad n cap l ∧ Below w.heap.size w wr) (fun s _ => n - (intOf s).toNat)
    case atStart => exact ⟨0, by omega, rfl, by simpa using H2.out, S2.out, B2.out⟩
    case round =>
      clear H2 S2 B2
      obtain ⟨i, hi, rfl, hh, hs, hb⟩ := hrel
      have HH := Lib.hid hh; clear hh
      have SS := Lib.hid hs; clear hs
      have BB := Lib.hid hb; clear hb
      by_cases hlt : i < n
      · obtain ⟨b, off, e, hbl⟩ : ∃ b off, ad = some ⟨b, off, none⟩ ∧ b < wr.heap.size := by
          rcases SS.out.2.2.2 with h | ⟨b, off, e, hl, _⟩
          · omega
          · exact ⟨b, off, e, hl⟩
        subst e
        have hbH : Hid (b < w1.heap.size) := Lib.hid (nb.out b off rfl (by omega))
        have p0 : i ≤ cap := by have := SS.out.2.1; omega
        have p1 : (0 : Int) ≤ (i : Int) := by omega
        have p2 : (i : Int) ≤ (i : Int) + 1 := by omega
        have p3 : (i : Int) + 1 ≤ (n : Int) := by omega
        have p3' : (i : Int) + 1 ≤ (cap : Int) := by have := SS.out.2.1; omega
        have p3'' : (i : Int) ≤ (cap : Int) := by omega
        have p4 : (i : Int).toNat = i := by omega
        have p5 : ((i : Int) + 1).toNat = i + 1 := by omega
        have p6 : ¬ cap = i := by have := SS.out.2.1; omega
        have p7 : i + 1 - i = 1 := by omega
        have p8 : ¬ cap = 0 := by omega
        have pw : IntKind.i64.wrap ((i : Int) + 1) = (i : Int) + 1 := IntWalk.i64_in _ (by omega)
        have HLt := Lib.hid (show (l.take i).length = i by rw [List.length_take, HL.out]; omega)
        have HD1 := Lib.hid (fun (W : World) (h : HMsg W w1.heap.size (l.take i)) => sum_c w1.heap.size (l.take i) W (by rw [HLt.out]; omega) h)
        have HD2 := Lib.hid (fun (W : World) (h : SlB W (some ⟨b, off, none⟩) n cap l) => refSum_c (some ⟨b, off, none⟩) i cap (l.take i) W (h.take (by omega)) (by omega) (fun h => by cases h))
        have HW := Lib.hid (fun (W : World) (h : SlB W (some ⟨b, off, none⟩) n cap l) (hh : HMsg W w1.heap.size (l.take i)) => write_sl w1.heap.size 1 (cap - i) (some ⟨b, off + i, none⟩) (l.take i) [l.getD i 0] W (h.one hlt) (by rw [HLt.out]; omega) (fun _ b' off' e => by cases e; have := hbH.out; omega) hh)
        rw [take_one (by rw [HL.out]; exact hlt)] at HW
        have lD : Hid ((dig (l.take i)).length = 32) := Lib.hid (dig_len _)
        obtain ⟨D, hD⟩ : ∃ D, dig (l.take i) = D := ⟨_, rfl⟩
        rw [hD] at lD HD1 HD2
        clear hD
        go_wp2
        have HHd : Hid (HMsg wr.drew w1.heap.size (l.take i)) := Lib.hid (by exact HH.out)
        have SSd : Hid (SlB wr.drew (some ⟨b, off, none⟩) n cap l) := Lib.hid (by exact SS.out)
        have BBd : Hid (Below w.heap.size w wr.drew) := Lib.hid (below_drew1 BB.out)
        clear SS BB
        go_region_with (first
          | (go_at_call 14; refine (HD1.out _ HHd.out).mono ?_; rintro e w3 ⟨rfl, hb3⟩
             have S3 := Lib.hid (SSd.out.below hb3); have H3 := Lib.hid (HHd.out.grownB hb3 HHd.out.lt); have B3 := Lib.hid (BBd.out.trans (hb3.mono BBd.out.size)); clear hb3)
          | (go_at_call 11; refine (HD2.out _ S3.out).mono ?_; rintro e w4 ⟨rfl, hb4⟩
             have S4 := Lib.hid (S3.out.below hb4); have H4 := Lib.hid (H3.out.grownB hb4 H3.out.lt); have B4 := Lib.hid (B3.out.trans (hb4.mono B3.out.size)); clear hb4
             have q1 := eqIn_same w4 D lD.out; have q2 := fun x y => grd w4 .neq x y (vals .u8 D).toArray (vals .u8 D).toArray))
        all_goals
          clear q1 q2
          go_wp2_with fail
          refine (HW.out w4 S4.out H4.out).mono ?_
          rintro e w5 ⟨rfl, h5, g5⟩
          have H5 := Lib.hid h5
          have S5 := Lib.hid (S4.out.grown g5 (fun b' off' e => by cases e; have := hbH.out; omega))
          have B5 := Lib.hid (below_grown B4.out g5 (by have := BBd.out.size; have := H4.out.lt; have := B4.out.size; omega) HB.out)
          clear h5 g5
          go_wp2
          go_roundw
          case rel => exact ⟨i + 1, by omega, by go_num, H5.out, S5.out, B5.out⟩
          case measure => simp [intOf]; omega
      · have hin : i = n := by omega
        have hh := HH.out
        rw [hin, List.take_of_length_le (by rw [HL.out]; exact Nat.le_refl _)] at hh
        have HH2 := Lib.hid hh
        clear hh HH hin
        have HD1 := Lib.hid (fun (W : World) (h : HMsg W w1.heap.size l) => sum_c w1.heap.size l W (by rw [HL.out]; omega) h)
        have HD2 := Lib.hid (fun (W : World) (h : SlB W ad n cap l) => digestSum_c ad n cap l W h (by omega))
        have lD : Hid ((dig l).length = 32) := Lib.hid (dig_len _)
        obtain ⟨D, hD⟩ : ∃ D, dig l = D := ⟨_, rfl⟩
        rw [hD] at lD HD1 HD2
        clear hD
        go_wp2_with fail
        refine (HD1.out wr HH2.out).mono ?_
        rintro e w3 ⟨rfl, hb3⟩
        have S3 := Lib.hid (SS.out.below hb3)
        have B3 := Lib.hid (BB.out.trans (hb3.mono BB.out.size))
        clear hb3 SS BB
        go_wp2_with fail
        refine (HD2.out w3 S3.out).mono ?_
        rintro e w4 ⟨rfl, hb4⟩
        have B4 := Lib.hid (B3.out.trans (hb4.mono B3.out.size))
        clear hb4 S3 B3
        have q1 := eqIn_same w4 D lD.out
        have q2 := fun x y => grd w4 .eql x y (vals .u8 D).toArray (vals .u8 D).toArray
        go_wp2
        refine bodyPost_ret (results_tmp rfl _ _ _) rfl ?_
        exact ⟨rfl, B4.out⟩

end Go.Proofs.Ytacahgcbkgapdaa
