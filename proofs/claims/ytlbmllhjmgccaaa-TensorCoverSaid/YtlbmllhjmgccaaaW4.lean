/- Walks of layer 11: At, the reference's At and Index. -/
import Derived.Test.YtlbmllhjmgccaaaW3
import Derived.Deep.OwnRows
namespace Go.Proofs.Ytlbmllhjmgccaaa
open Go.RowKit
theorem Try.info3 : (Try.prog.info? 3).map (fun i => (i.zero, i.size, i.bytes)) = some (some (.int .i64 0), 1, 8) := by kernel_rfl

/-- what At leaves -/
def AtPost (l : List Int) (i : Int) (w : World) (e : Ending) (w' : World) : Prop :=
  ∃ a len cap, e = .returned (.tuple #[.slice a len cap, .int .i64 (atv l i).2]) ∧ Sl w' a len (atv l i).1 ∧ Below w.heap.size w w'

theorem Sl.nil (w : World) : Sl w none 0 [] := ⟨rfl, by omega, by simp, .inl rfl⟩
theorem Sl.below {w w' : World} {a : Option Addr} {len : Nat} {l : List Int} (h : Sl w a len l) (hb : Below w.heap.size w w') : Sl w' a len l := by
  obtain ⟨h1, h2, h3, h4⟩ := h
  refine ⟨h1, h2, h3, ?_⟩
  rcases h4 with h4 | ⟨b, off, e, h4⟩
  · exact .inl h4
  · exact .inr ⟨b, off, e, fun i hi => (hb.cell (World.block_lt_of_cell? w _ (h4 i hi))).trans (h4 i hi)⟩
theorem Sl.owns {w : World} {base g len cap : Nat} {xs : List Int} (h : w.ownsRow base 3 1 (.slice (some ⟨g, 0, none⟩) len cap) len (xs.map (Value.int .i64))) (hm : len ≤ 9223372036854775807)
    (hb : ∀ n ∈ xs, -9223372036854775808 ≤ n ∧ n ≤ 9223372036854775807) : Sl w (some ⟨g, 0, none⟩) len xs := by
  have hl : xs.length = len := by have := h.1; simpa using this
  refine ⟨hl, hm, hb, .inr ⟨g, 0, rfl, fun i hi => ?_⟩⟩
  rw [Nat.zero_add, h.cellAt i (by omega)]
  simp [List.getD_eq_getElem?_getD, show i < xs.length by omega]

set_option maxHeartbeats 800000 in
theorem at_c (a : Option Addr) (len cap : Nat) (l : List Int) (i : Int) (w : World) (h : Sl w a len l) :
    Calls Try.prog 18 #[.slice a len cap, .int .i64 i] w (AtPost l i w) := by
  have h0 := h
  obtain ⟨hl, hm, hb, hc⟩ := h
  have HL := Lib.hid hl; clear hl
  have H0 := Lib.hid h0; clear h0
  by_cases hok : okB l = true
  · have HO := Lib.hid hok
    have hlen := ok_len hok
    rw [HL.out] at hlen
    obtain ⟨hlen1, hlen2⟩ := hlen
    have hsz : 0 < szv l := by simpa [okB] using hok
    have hsz2 := (szv_bd l).2
    have hne : ((szv l) == 0) = false := by simp; omega
    by_cases hr : i < 0 ∨ szv l ≤ i
    · have hz : Hid (atv l i = ([], 2)) := Lib.hid (by unfold atv; rw [if_neg (by omega), if_pos hr])
      have fin : ∀ e w', e = .returned (.tuple #[.slice none 0 0, .int .i64 2]) ∧ w = w' → AtPost l i w e w' := by
        rintro e w' ⟨rfl, rfl⟩; exact ⟨none, 0, 0, by rw [hz.out], by rw [hz.out]; exact Sl.nil _, Below.refl _ _⟩
      refine Calls.mono ?_ fin
      clear hc fin
      rcases hr with hr | hr
      · go_enter Try.func18, Try.ntmps18
        go_wp2_with (go_at_call 14; refine (size_c _ _ _ l _ H0.out).mono ?_; rintro e w' ⟨rfl, rfl⟩)
        go_ret2
        exact ⟨rfl, rfl⟩
      · have hr0 : 0 ≤ i := by omega
        go_enter Try.func18, Try.ntmps18
        go_wp2_with (go_at_call 14; refine (size_c _ _ _ l _ H0.out).mono ?_; rintro e w' ⟨rfl, rfl⟩)
        go_ret2
        exact ⟨rfl, rfl⟩
    · have hr0 : 0 ≤ i := by omega
      have hr1 : i < szv l := by omega
      clear hr
      have hz : Hid (atv l i = ((atl l i).1, 0)) := Lib.hid (by unfold atv; rw [if_neg (by omega), if_neg (by omega)])
      have hbd := atl_bd l i (fun d hd => (ok_pos hok d hd).1) hr0 (by omega)
      have fin : ∀ e w', (e = .returned (.tuple #[.slice (some ⟨w.heap.size, 0, none⟩) len len, .int .i64 0]) ∧ w'.ownsRow w.heap.size 3 1 (.slice (some ⟨w.heap.size, 0, none⟩) len len) len ((atl l i).1.map (Value.int .i64)) ∧ Below w.heap.size w w') → AtPost l i w e w' := by
        rintro e w' ⟨rfl, ho, hbl⟩
        exact ⟨_, _, _, by rw [hz.out], by rw [hz.out]; exact Sl.owns ho hm (fun n hn => by have := hbd.2 n hn; omega), hbl⟩
      refine Calls.mono ?_ fin
      rcases hc with hc | ⟨b, off, rfl, hc⟩
      · omega
      have HC := Lib.hid hc; clear hc
      have hblt : b < w.heap.size := World.block_lt_of_cell? w _ (HC.out 0 (by omega))
      have hmk := run_make_row' (P := Try.prog) 22 3 (.int .i64 0) 8 Try.underlying22 Try.info3 rfl .i64 .i64 len (by omega) (by omega)
      have hstart : Hid (AtInv l i len (List.replicate len 0) i) := Lib.hid (by rw [← HL.out]; exact atInv_start l i)
      clear fin hbd
      go_enter Try.func18, Try.ntmps18
      go_wp2_with (go_at_call 14; refine (size_c _ _ _ l _ H0.out).mono ?_; rintro e w' ⟨rfl, rfl⟩)
      clear hmk
      go_loopw [8, 1] (fun c q wr => ∃ (k : Nat) (qn : Int) (xs : List Int), k ≤ len ∧ c = .int .i64 ((k : Int) - 1) ∧ q = .int .i64 qn ∧ AtInv l i k xs qn ∧ wr.ownsRow w.heap.size 3 1 (.slice (some ⟨w.heap.size, 0, none⟩) len len) len (xs.map (Value.int .i64)) ∧ Below w.heap.size w wr) (fun c _ _ => (intOf c + 1).toNat)
      case atStart =>
        refine ⟨len, i, List.replicate len 0, Nat.le_refl _, by go_num, rfl, hstart.out, ?_, (Below.refl _ _).alloc (Nat.le_refl _) _⟩
        have := World.ownsRow_lit (base := w.heap.size) (e := 3) (size := 1) w (madeCells #[.int .i64 0] len) len (Nat.le_refl _) (by unfold maxLen; omega) (by simp [size_madeCells])
        rw [toList_madeCells_one] at this
        simpa using this
      case round =>
        obtain ⟨k, qn, xs, hk, rfl, rfl, hinv, hown, hbel⟩ := hrel
        have hq := atInv_bd hinv HO.out hr0 (by omega)
        by_cases hk0 : k = 0
        · subst hk0
          have hfin := Lib.hid (atInv_end hinv)
          go_wp2
          go_ret2
          exact ⟨rfl, by rw [← hfin.out]; exact hown, hbel⟩
        · obtain ⟨j, rfl⟩ : ∃ j, k = j + 1 := ⟨k - 1, by omega⟩
          obtain ⟨d, hd⟩ : ∃ d, l.getD j 0 = d := ⟨_, rfl⟩
          have hcell : wr.cell? ⟨b, off + j, none⟩ = some (.int .i64 d) := by rw [hbel.cell hblt, HC.out j (by omega), hd]
          have hd2 := ok_at HO.out (by rw [HL.out]; omega) hd
          have hxl : xs.length = len := by rw [hinv.1, HL.out]
          have hold : wr.cell? ⟨w.heap.size, j, none⟩ = some (.int .i64 (xs.getD j 0)) := by
            rw [hown.cellAt j (by omega)]; simp [List.getD_eq_getElem?_getD, show j < xs.length by omega]
          have hfr := hown.frozenAt j
          have hst := atInv_step hinv (by rw [HL.out]; omega) hd
          have hown2 := (hown.stored j (.int .i64 (qn % d))).1
          have hbel2 := hbel.setCell (p := ⟨w.heap.size, j, none⟩) (Nat.le_refl _) (.int .i64 (qn % d))
          have e1 : Hid ((xs.map (Value.int .i64)).set j (.int .i64 (qn % d)) = (xs.set j (qn % d)).map (Value.int .i64)) := Lib.hid (by rw [List.map_set])
          rw [e1.out] at hown2
          clear hd hxl hown hbel
          go_wp2
          go_roundw
          case rel => exact ⟨j, qn / d, xs.set j (qn % d), by omega, by go_num, rfl, hst, hown2, hbel2⟩
          case measure => simp [intOf]
  · have hok : okB l = false := by simpa using hok
    have hz0 : Hid (szv l = 0) := Lib.hid (by have := szv_bd l; simp [okB] at hok; omega)
    have hz : Hid (atv l i = ([], 1)) := Lib.hid (by unfold atv; rw [if_pos hz0.out])
    have fin : ∀ e w', e = .returned (.tuple #[.slice none 0 0, .int .i64 1]) ∧ w = w' → AtPost l i w e w' := by
      rintro e w' ⟨rfl, rfl⟩; exact ⟨none, 0, 0, by rw [hz.out], by rw [hz.out]; exact Sl.nil _, Below.refl _ _⟩
    refine Calls.mono ?_ fin
    clear hc fin
    have hzb : (szv l == 0) = true := by rw [hz0.out]; rfl
    go_enter Try.func18, Try.ntmps18
    go_wp2_with (go_at_call 14; refine (size_c _ _ _ l _ H0.out).mono ?_; rintro e w' ⟨rfl, rfl⟩)
    go_ret2
    exact ⟨rfl, rfl⟩
set_option maxHeartbeats 800000 in
theorem rat_c (a : Option Addr) (len cap : Nat) (l : List Int) (i : Int) (w : World) (h : Sl w a len l) :
    Calls Try.prog 19 #[.slice a len cap, .int .i64 i] w (AtPost l i w) := by
  have h0 := h
  obtain ⟨hl, hm, hb, hc⟩ := h
  have HL := Lib.hid hl; clear hl
  have H0 := Lib.hid h0; clear h0
  by_cases hok : okB l = true
  · have HO := Lib.hid hok
    have hlen := ok_len hok
    rw [HL.out] at hlen
    obtain ⟨hlen1, hlen2⟩ := hlen
    have hsz : 0 < szv l := by simpa [okB] using hok
    have hsz2 := (szv_bd l).2
    by_cases hr : i < 0 ∨ szv l ≤ i
    · have hz : Hid (atv l i = ([], 2)) := Lib.hid (by unfold atv; rw [if_neg (by omega), if_pos hr])
      have fin : ∀ e w', e = .returned (.tuple #[.slice none 0 0, .int .i64 2]) ∧ w = w' → AtPost l i w e w' := by
        rintro e w' ⟨rfl, rfl⟩; exact ⟨none, 0, 0, by rw [hz.out], by rw [hz.out]; exact Sl.nil _, Below.refl _ _⟩
      refine Calls.mono ?_ fin
      clear hc fin
      rcases hr with hr | hr
      · go_enter Try.func19, Try.ntmps19
        go_wp2_with (first | (go_at_call 13; refine (rvalid_c _ _ _ l _ H0.out).mono ?_; rintro e w' ⟨rfl, rfl⟩) | (go_at_call 15; refine (rsize_c _ _ _ l _ H0.out).mono ?_; rintro e w' ⟨rfl, rfl⟩))
        go_ret2
        exact ⟨rfl, rfl⟩
      · have hr0 : 0 ≤ i := by omega
        go_enter Try.func19, Try.ntmps19
        go_wp2_with (first | (go_at_call 13; refine (rvalid_c _ _ _ l _ H0.out).mono ?_; rintro e w' ⟨rfl, rfl⟩) | (go_at_call 15; refine (rsize_c _ _ _ l _ H0.out).mono ?_; rintro e w' ⟨rfl, rfl⟩))
        go_ret2
        exact ⟨rfl, rfl⟩
    · have hr0 : 0 ≤ i := by omega
      have hr1 : i < szv l := by omega
      clear hr
      have hz : Hid (atv l i = ((atl l i).1, 0)) := Lib.hid (by unfold atv; rw [if_neg (by omega), if_neg (by omega)])
      have hbd := atl_bd l i (fun d hd => (ok_pos hok d hd).1) hr0 (by omega)
      have fin : ∀ e w', (e = .returned (.tuple #[.slice (some ⟨w.heap.size, 0, none⟩) len len, .int .i64 0]) ∧ w'.ownsRow w.heap.size 3 1 (.slice (some ⟨w.heap.size, 0, none⟩) len len) len ((atl l i).1.map (Value.int .i64)) ∧ Below w.heap.size w w') → AtPost l i w e w' := by
        rintro e w' ⟨rfl, ho, hbl⟩
        exact ⟨_, _, _, by rw [hz.out], by rw [hz.out]; exact Sl.owns ho hm (fun n hn => by have := hbd.2 n hn; omega), hbl⟩
      refine Calls.mono ?_ fin
      rcases hc with hc | ⟨b, off, rfl, hc⟩
      · omega
      have HC := Lib.hid hc; clear hc
      have hblt : b < w.heap.size := World.block_lt_of_cell? w _ (HC.out 0 (by omega))
      have hmk := run_make_row' (P := Try.prog) 22 3 (.int .i64 0) 8 Try.underlying22 Try.info3 rfl .i64 .i64 len (by omega) (by omega)
      have hstart : Hid (AtInv l i len (List.replicate len 0) i) := Lib.hid (by rw [← HL.out]; exact atInv_start l i)
      clear fin hbd
      go_enter Try.func19, Try.ntmps19
      go_wp2_with (first | (go_at_call 13; refine (rvalid_c _ _ _ l _ H0.out).mono ?_; rintro e w' ⟨rfl, rfl⟩) | (go_at_call 15; refine (rsize_c _ _ _ l _ H0.out).mono ?_; rintro e w' ⟨rfl, rfl⟩))
      clear hmk
      go_loopw [7, 1] (fun c q wr => ∃ (k : Nat) (qn : Int) (xs : List Int), k ≤ len ∧ c = .int .i64 ((k : Int) - 1) ∧ q = .int .i64 qn ∧ AtInv l i k xs qn ∧ wr.ownsRow w.heap.size 3 1 (.slice (some ⟨w.heap.size, 0, none⟩) len len) len (xs.map (Value.int .i64)) ∧ Below w.heap.size w wr) (fun c _ _ => (intOf c + 1).toNat)
      case atStart =>
        refine ⟨len, i, List.replicate len 0, Nat.le_refl _, by go_num, rfl, hstart.out, ?_, (Below.refl _ _).alloc (Nat.le_refl _) _⟩
        have := World.ownsRow_lit (base := w.heap.size) (e := 3) (size := 1) w (madeCells #[.int .i64 0] len) len (Nat.le_refl _) (by unfold maxLen; omega) (by simp [size_madeCells])
        rw [toList_madeCells_one] at this
        simpa using this
      case round =>
        obtain ⟨k, qn, xs, hk, rfl, rfl, hinv, hown, hbel⟩ := hrel
        have hq := atInv_bd hinv HO.out hr0 (by omega)
        by_cases hk0 : k = 0
        · subst hk0
          have hfin := Lib.hid (atInv_end hinv)
          go_wp2
          go_ret2
          exact ⟨rfl, by rw [← hfin.out]; exact hown, hbel⟩
        · obtain ⟨j, rfl⟩ : ∃ j, k = j + 1 := ⟨k - 1, by omega⟩
          obtain ⟨d, hd⟩ : ∃ d, l.getD j 0 = d := ⟨_, rfl⟩
          have hcell : wr.cell? ⟨b, off + j, none⟩ = some (.int .i64 d) := by rw [hbel.cell hblt, HC.out j (by omega), hd]
          have hd2 := ok_at HO.out (by rw [HL.out]; omega) hd
          have hxl : xs.length = len := by rw [hinv.1, HL.out]
          have hold : wr.cell? ⟨w.heap.size, j, none⟩ = some (.int .i64 (xs.getD j 0)) := by
            rw [hown.cellAt j (by omega)]; simp [List.getD_eq_getElem?_getD, show j < xs.length by omega]
          have hfr := hown.frozenAt j
          have hst := atInv_step hinv (by rw [HL.out]; omega) hd
          have hown2 := (hown.stored j (.int .i64 (qn % d))).1
          have hbel2 := hbel.setCell (p := ⟨w.heap.size, j, none⟩) (Nat.le_refl _) (.int .i64 (qn % d))
          have e1 : Hid ((xs.map (Value.int .i64)).set j (.int .i64 (qn % d)) = (xs.set j (qn % d)).map (Value.int .i64)) := Lib.hid (by rw [List.map_set])
          rw [e1.out] at hown2
          clear hd hxl hown hbel
          go_wp2
          go_roundw
          case rel => exact ⟨j, qn / d, xs.set j (qn % d), by omega, by go_num, rfl, hst, hown2, hbel2⟩
          case measure => simp [intOf]
  · have hok : okB l = false := by simpa using hok
    have hz0 : Hid (szv l = 0) := Lib.hid (by have := szv_bd l; simp [okB] at hok; omega)
    have hz : Hid (atv l i = ([], 1)) := Lib.hid (by unfold atv; rw [if_pos hz0.out])
    have fin : ∀ e w', e = .returned (.tuple #[.slice none 0 0, .int .i64 1]) ∧ w = w' → AtPost l i w e w' := by
      rintro e w' ⟨rfl, rfl⟩; exact ⟨none, 0, 0, by rw [hz.out], by rw [hz.out]; exact Sl.nil _, Below.refl _ _⟩
    refine Calls.mono ?_ fin
    clear hc fin
    go_enter Try.func19, Try.ntmps19
    go_wp2_with (first | (go_at_call 13; refine (rvalid_c _ _ _ l _ H0.out).mono ?_; rintro e w' ⟨rfl, rfl⟩) | (go_at_call 15; refine (rsize_c _ _ _ l _ H0.out).mono ?_; rintro e w' ⟨rfl, rfl⟩))
    go_ret2
    exact ⟨rfl, rfl⟩
end Go.Proofs.Ytlbmllhjmgccaaa
