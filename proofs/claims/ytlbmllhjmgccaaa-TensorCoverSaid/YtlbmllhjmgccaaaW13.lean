/- Walks of layer 11: the statements TensorValid, TensorIndex, TensorAt, TensorInverse. -/
import Derived.Test.YtlbmllhjmgccaaaW12
import Derived.OpenShut
namespace Go.Proofs.Ytlbmllhjmgccaaa
open Go.RowKit
set_option linter.unusedVariables false
theorem Below.drewN {B : Nat} {w w' : World} (h : Below B w w') (n : Nat) : Below B w (w'.drewN n) := h.trans ⟨rfl, rfl, rfl, Nat.le_refl _, fun _ _ => rfl⟩

theorem law_valid (a : Option Addr) (len cap : Nat) (l : List Int) (w : World) (h : Sl w a len l) :
    Calls Try.prog 3 #[.slice a len cap] w fun e w' => e = .returned (.bool true) ∧ Below w.heap.size w w' := by
  have H := Lib.hid h; clear h
  go_enter Try.func3, Try.ntmps3
  go_wp2_with fail
  refine (awake_c _).mono ?_
  rintro e w1 ⟨rfl, hb⟩
  have H1 := Lib.hid (H.out.below hb)
  go_wp2_with (first | (go_at_call 12; refine (valid_c _ _ _ l _ H1.out).mono ?_; rintro e w' ⟨rfl, rfl⟩) | (go_at_call 13; refine (rvalid_c _ _ _ l _ H1.out).mono ?_; rintro e w' ⟨rfl, rfl⟩) | (go_at_call 14; refine (size_c _ _ _ l _ H1.out).mono ?_; rintro e w' ⟨rfl, rfl⟩) | (go_at_call 15; refine (rsize_c _ _ _ l _ H1.out).mono ?_; rintro e w' ⟨rfl, rfl⟩))
  go_ret
  exact ⟨ret_bool (by simp), hb⟩

set_option maxHeartbeats 400000 in
theorem law_index (a a' : Option Addr) (len cap len' cap' : Nat) (l t : List Int) (w : World) (h : Sl w a len l) (h' : Sl w a' len' t) :
    Calls Try.prog 4 #[.slice a len cap, .slice a' len' cap'] w fun e w' => e = .returned (.bool true) ∧ Below w.heap.size w w' := by
  have H := Lib.hid h; clear h
  have H' := Lib.hid h'; clear h'
  go_enter Try.func4, Try.ntmps4
  go_wp2_with fail
  refine (awake_c _).mono ?_
  rintro e w1 ⟨rfl, hb⟩
  have H1 := Lib.hid (H.out.below hb)
  have H1' := Lib.hid (H'.out.below hb)
  go_wp2_with (first | (go_at_call 16; refine (index_c _ _ _ _ _ _ l t _ H1.out H1'.out).mono ?_; rintro e w' ⟨rfl, rfl⟩) | (go_at_call 17; refine (rindex_c _ _ _ _ _ _ l t _ H1.out H1'.out).mono ?_; rintro e w' ⟨rfl, n, rfl⟩))
  go_ret
  exact ⟨ret_bool (by simp), Below.drewN hb _⟩

set_option maxHeartbeats 400000 in
theorem law_at (a : Option Addr) (len cap : Nat) (l : List Int) (i : Int) (w : World) (h : Sl w a len l) :
    Calls Try.prog 5 #[.slice a len cap, .int .i64 i] w fun e w' => e = .returned (.bool true) ∧ Below w.heap.size w w' := by
  have H := Lib.hid h; clear h
  have he : eqB (atv l i).1 (atv l i).1 = true := by simp [eqB]
  go_enter Try.func5, Try.ntmps5
  go_wp2_with fail
  refine (awake_c _).mono ?_
  rintro e w1 ⟨rfl, hb⟩
  have H1 := Lib.hid (H.out.below hb)
  go_wp2_with fail
  refine (at_c _ _ _ l _ _ H1.out).mono ?_
  rintro e w2 ⟨a2, n2, c2, rfl, hs2, hb2⟩
  have H2 := Lib.hid (H1.out.below hb2)
  have HS2 := Lib.hid hs2; clear hs2
  go_wp2_with fail
  refine (rat_c _ _ _ l _ _ H2.out).mono ?_
  rintro e w3 ⟨a3, n3, c3, rfl, hs3, hb3⟩
  have HS2' := Lib.hid (HS2.out.below hb3)
  have HS3 := Lib.hid hs3; clear hs3
  have hball := (hb.trans (hb2.mono hb.size)).trans (hb3.mono (Nat.le_trans hb.size hb2.size))
  clear hb hb2 hb3
  go_wp2_with (go_at_call 20; refine (ints_c _ _ _ _ _ _ _ _ _ HS2'.out HS3.out).mono ?_; rintro e w' ⟨rfl, n, rfl⟩)
  go_ret
  exact ⟨ret_bool (by simp), Below.drewN hball _⟩

set_option maxHeartbeats 400000 in
theorem law_inverse (a : Option Addr) (len cap : Nat) (l : List Int) (w : World) (h : Sl w a len l) :
    Calls Try.prog 6 #[.slice a len cap] w fun e w' => e = .returned (.bool true) ∧ Below w.heap.size w w' := by
  have H := Lib.hid h; clear h
  have hbd := szv_bd l
  go_enter Try.func6, Try.ntmps6
  go_wp2_with fail
  refine (awake_c _).mono ?_
  rintro e w1 ⟨rfl, hb⟩
  have H1 := Lib.hid (H.out.below hb)
  by_cases hbig : 200 < szv l
  · go_wp2_with (go_at_call 15; refine (rsize_c _ _ _ l _ H1.out).mono ?_; rintro e w' ⟨rfl, rfl⟩)
    refine (awake_c _).mono ?_
    rintro e w2 ⟨rfl, hb2⟩
    go_wp2_with fail
    go_ret
    exact ⟨ret_bool (by simp), hb.trans (hb2.mono hb.size)⟩
  · go_wp2_with (go_at_call 15; refine (rsize_c _ _ _ l _ H1.out).mono ?_; rintro e w' ⟨rfl, rfl⟩)
    clear H
    go_loopw [3] (fun s wr => ∃ (k : Nat), (k : Int) ≤ szv l ∧ s = .int .i64 k ∧ Below w1.heap.size w1 wr) (fun s _ => (szv l - intOf s).toNat)
    case atStart => exact ⟨0, by omega, rfl, Below.refl _ _⟩
    case round =>
      obtain ⟨k, hk, rfl, hbel⟩ := hrel
      have H2 := Lib.hid (H1.out.below hbel)
      by_cases hlt : (k : Int) < szv l
      · obtain ⟨hi1, hi2⟩ := index_at (l := l) (i := k) (by omega) hlt
        have HI := Lib.hid hi1; clear hi1
        go_wp2_with (go_at_call 15; refine (rsize_c _ _ _ l _ H2.out).mono ?_; rintro e w' ⟨rfl, rfl⟩)
        refine (at_c _ _ _ l _ _ H2.out).mono ?_
        rintro e w2 ⟨a2, n2, c2, rfl, hs2, hb2⟩
        have H3 := Lib.hid (H2.out.below hb2)
        have HS2 := Lib.hid hs2; clear hs2
        have hbel2 := hbel.trans (hb2.mono hbel.size)
        clear hb2 hbel
        go_wp2_with fail
        refine (index_c _ _ _ _ _ _ l _ _ H3.out HS2.out).mono ?_
        rintro e w3 ⟨rfl, rfl⟩
        rw [HI.out]
        go_wp2_with fail
        go_roundw
        case rel => exact ⟨k + 1, by omega, by go_num, hbel2⟩
        case measure => simp [intOf]; omega
      · go_wp2_with (go_at_call 15; refine (rsize_c _ _ _ l _ H2.out).mono ?_; rintro e w' ⟨rfl, rfl⟩)
        go_ret
        exact ⟨ret_bool rfl, hb.trans (hbel.mono hb.size)⟩

/-- a slice of ints that came in reads as the list of its elements -/
theorem isRow_sl {w : World} {a : Option Addr} {len cap : Nat} {zs : List Int} (h : (a = none ∧ len = 0 ∧ cap = 0 ∧ zs = []) ∨
    ∃ x, a = some x ∧ len ≤ cap ∧ cap ≤ maxLen ∧ zs.length = cap ∧ (∀ i, i < zs.length → w.cell? (x.add i) = some (.int .i64 (zs.getD i 0))) ∧ ∀ n ∈ zs, (Lit.int .i64 n).wf = true) : Sl w a len (zs.take len) := by
  rcases h with ⟨rfl, rfl, rfl, rfl⟩ | ⟨x, rfl, hl, hm, hz, hc, hw⟩
  · exact Sl.nil w
  · refine ⟨by rw [List.length_take]; omega, by unfold maxLen at hm; omega, ?_, ?_⟩
    · intro n hn
      have := hw n (List.mem_of_mem_take hn)
      exact bounds_i64 this
    · by_cases h0 : len = 0
      · exact .inl h0
      · right
        obtain ⟨b, off, spot⟩ := x
        have hc0 := hc 0 (by omega)
        have hspot : spot = none := by simpa [Addr.add] using World.cell?_spot hc0
        subst hspot
        refine ⟨b, off, rfl, fun i hi => ?_⟩
        have := hc i (by omega)
        rw [show (⟨b, off, none⟩ : Addr).add i = ⟨b, off + i, none⟩ from by unfold Addr.add; split <;> simp_all] at this
        rw [this]
        simp [List.getD_eq_getElem?_getD, hi]
end Go.Proofs.Ytlbmllhjmgccaaa
