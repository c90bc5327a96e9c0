/- Merged by program from: W13 W14 W15. -/
import Derived.Test.YtcdkehghdhcokaaDoorX1
import Derived.Test.YtcdkehghdhcokaaDoorW6
namespace Go.Proofs.YtcdkehghdhcokaaDoor.wr
open Go.RowKit
set_option linter.unusedVariables false
theorem lead_c (a : Option Addr) (n c : Nat) (m : Nat) (T : List Int) (w : World) (h : SlB w a n c (grp m ++ T)) (hb : Bytes (grp m ++ T)) (hm64 : m < 18446744073709551616) :
    Calls Tryd.prog 39 #[.slice a n c] w fun e w' => e = .returned (.tuple #[.int .u64 (m : Nat), .int .i64 ((grp m).length : Nat)]) ∧ w' = w := by
  have H := leading_c a n c (grp m ++ T) w h hb
  rw [dec_of T hm64] at H
  have e : n - T.length = (grp m).length := by
    have := h.1
    rw [List.length_append] at this
    omega
  simp only [leadR, e] at H
  exact H
theorem SlB.grown {w w' : World} {ad : Option Addr} {n cap H : Nat} {l : List Int} (h : SlB w ad n cap l) (hg : w.grownBy w' (some H)) (hne : ∀ b off, ad = some ⟨b, off, none⟩ → b ≠ H) : SlB w' ad n cap l := by
  obtain ⟨h1, h2, h3, h0, h4⟩ := h
  refine ⟨h1, h2, h3, h0, ?_⟩
  rcases h4 with h4 | ⟨b, off, e, hlt, hc⟩
  · exact .inl h4
  · exact .inr ⟨b, off, e, Nat.lt_of_lt_of_le hlt hg.size, fun i hi => hg.cell (hc i hi) (by simpa using hne b off e)⟩
/-- what lies behind -/
theorem SlB.drop {w : World} {b off n c k : Nat} {A B : List Int} (h : SlB w (some ⟨b, off, none⟩) n c (A ++ B)) (hk : A.length = k) : SlB w (some ⟨b, off + k, none⟩) (n - k) (c - k) B := by
  have hl := h.1
  rw [List.length_append, hk] at hl
  refine ⟨by omega, by have := h.2.1; omega, by have := h.2.2.1; omega, fun h => (by cases h), ?_⟩
  by_cases h0 : n - k = 0
  · exact .inl h0
  · obtain ⟨b', off', e, hb, hc⟩ := h.at (by omega)
    injection e with e; injection e with e1 e2
    subst e1; subst e2
    refine .inr ⟨_, _, rfl, hb, fun i hi => ?_⟩
    have h1 := hc (k + i) (by omega)
    rw [← Nat.add_assoc] at h1
    rw [h1, List.getD_eq_getElem?_getD, List.getD_eq_getElem?_getD, List.getElem?_append_right (by omega), hk, Nat.add_sub_cancel_left]
/-- what lies before -/
theorem SlB.take {w : World} {b off n c k : Nat} {A B : List Int} (h : SlB w (some ⟨b, off, none⟩) n c (A ++ B)) (hk : A.length = k) : SlB w (some ⟨b, off, none⟩) k c A := by
  have hl := h.1
  rw [List.length_append, hk] at hl
  refine ⟨hk, by have := h.2.1; omega, h.2.2.1, fun h => (by cases h), ?_⟩
  by_cases h0 : k = 0
  · exact .inl h0
  · obtain ⟨b', off', e, hb, hc⟩ := h.at (by omega)
    injection e with e; injection e with e1 e2
    subst e1; subst e2
    refine .inr ⟨_, _, rfl, hb, fun i hi => ?_⟩
    rw [hc i (by omega), List.getD_eq_getElem?_getD, List.getD_eq_getElem?_getD, List.getElem?_append_left (by omega)]
theorem grown_set (w : World) (R k : Nat) (v : Value) : w.grownBy (w.setCell ⟨R, k, none⟩ v) (some R) := ⟨rfl, rfl, rfl, by simp, fun j hj hne => heap_setCell_other _ _ j _ (fun e => hne (by rw [e]))⟩
theorem grp_pos (m : Nat) : 0 < (grp m).length := by
  by_cases h0 : m < 128
  · rw [grp_small h0]; simp
  · rw [grp_big h0]; simp
set_option maxHeartbeats 4000000 in
set_option maxRecDepth 100000 in
theorem uint_c (R : Nat) (m : Nat) (T : List Int) (w : World) (h : Rr w R (grp m ++ T)) (hby : Bytes (grp m ++ T)) (hm : m < 18446744073709551616) :
    Calls Tryd.prog 20 #[.pointer (some ⟨R, 0, none⟩)] w fun e w' => e = .returned (.tuple #[.int .u64 (m : Nat), .int .i64 0]) ∧ Rr w' R T ∧ w.grownBy w' (some R) := by
  obtain ⟨a, c, h1, h2, h3⟩ := h
  have hp := grp_pos m
  obtain ⟨b, off, rfl, hb, _⟩ := h2.at (by rw [List.length_append]; omega)
  have HL := Lib.hid (lead_c (some ⟨b, off, none⟩) _ c m T w h2 hby hm)
  have hne := h3 b off rfl (by rw [List.length_append]; omega)
  have HD := Lib.hid (SlB.drop h2 rfl)
  have hn := h2.1
  have hnc := h2.2.1
  have hc63 := h2.2.2.1
  have hl := Lib.hid (show (grp m ++ T).length = (grp m).length + T.length from List.length_append)
  obtain ⟨n, hnn⟩ : ∃ n, (grp m ++ T).length = n := ⟨_, rfl⟩
  obtain ⟨g, hgg⟩ : ∃ g, (grp m).length = g := ⟨_, rfl⟩
  rw [hgg] at HL HD hl hp
  rw [hnn] at HL HD hl h1 hnc
  have hTl : Hid (T.length = n - g) := Lib.hid (by have := hl.out; omega)
  have hgn : (g : Int) ≤ (n : Int) := by have := hl.out; omega
  have hgp : (0 : Int) < (g : Int) := by omega
  have H1 := Lib.hid h1
  have k0 := cell_of_row w R 0 _ 63 (0, 0) h1
  have k1 := cell_of_row w R 1 _ 63 (0, 0) h1
  change w.cell? ⟨R, 0, none⟩ = some (.slice (some ⟨b, off, none⟩) n c) at k0
  change w.cell? ⟨R, 1, none⟩ = some (.bool false) at k1
  have f0 := frozen_of_row w R 0 _ 63 h1
  clear h1 h2 h3 hn hgg hnn hby
  go_enter Tryd.func20, Tryd.ntmps20
  go_wp2_with fail
  refine HL.out.mono ?_
  rintro e w1 ⟨rfl, rfl⟩
  go_wp2
  · have h0 : Hid (n - g = 0) := Lib.hid (by omega)
    refine bodyPost_ret (results_tmp2 rfl _ _ _) rfl ?_
    refine ⟨rfl, ⟨some ⟨b, off, none⟩, 0, ?_, ?_, ?_⟩, ?_⟩
    · rw [hTl.out, heap_setCell_same w1 R 0 _ 63 _ H1.out]; rfl
    · exact ⟨rfl, by rw [hTl.out, h0.out]; exact Nat.le_refl _, by omega, fun h => (by cases h), .inl (by rw [hTl.out, h0.out])⟩
    · intro b' off' e _
      injection e with e; injection e with e1 e2; subst e1; exact hne
    · exact grown_set w1 R 0 _
  · refine bodyPost_ret (results_tmp2 rfl _ _ _) rfl ?_
    refine ⟨rfl, ⟨some ⟨b, off + g, none⟩, c - g, ?_, ?_, ?_⟩, ?_⟩
    · rw [hTl.out, heap_setCell_same w1 R 0 _ 63 _ H1.out]; rfl
    · rw [hTl.out]; exact HD.out.grown (grown_set w1 R 0 _) (fun b' off' e => by injection e with e; injection e with e1 e2; subst e1; exact hne)
    · intro b' off' e _
      injection e with e; injection e with e1 e2; subst e1; exact hne
    · exact grown_set w1 R 0 _
set_option maxHeartbeats 4000000 in
set_option maxRecDepth 100000 in
theorem left_c (R : Nat) (L : List Int) (w : World) (h : Rr w R L) :
    Calls Tryd.prog 11 #[.pointer (some ⟨R, 0, none⟩)] w fun e w' => e = .returned (.int .i64 (L.length : Nat)) ∧ w' = w := by
  obtain ⟨a, c, h1, h2, h3⟩ := h
  have k0 := cell_of_row w R 0 _ 63 (0, 0) h1
  obtain ⟨n, hn⟩ : ∃ n, L.length = n := ⟨_, rfl⟩
  rw [hn] at k0 ⊢
  change w.cell? ⟨R, 0, none⟩ = some (.slice a n c) at k0
  clear h1 h2 h3
  go_enter Tryd.func11, Tryd.ntmps11
  go_wp2
  refine bodyPost_ret (results_tmp rfl _ _ _) rfl ?_
  exact ⟨rfl, rfl⟩
theorem grown_trans {w w1 w2 : World} {R : Nat} (h1 : w.grownBy w1 (some R)) (h2 : w1.grownBy w2 (some R)) : w.grownBy w2 (some R) :=
  ⟨h2.os.trans h1.os, h2.tape.trans h1.tape, h2.output.trans h1.output, Nat.le_trans h1.size h2.size, fun k hk hne => (h2.block k (Nat.lt_of_lt_of_le hk h1.size) hne).trans (h1.block k hk hne)⟩
theorem take_ok {w : World} {y : Addr} {n c m R : Nat} {B T : List Int} {v : Value} (h : SlB w (some y) n c (B ++ T)) (hm : B.length = m) (hmn : m ≤ n) (hne : ∀ b off, some y = some ⟨b, off, none⟩ → 0 < n → b ≠ R) : SlB (w.setCell ⟨R, 0, none⟩ v) (some y) m c B := by
  by_cases h0 : m = 0
  · exact ⟨hm, by omega, h.2.2.1, fun h => (by cases h), .inl h0⟩
  · obtain ⟨b, off, e, hb, hc⟩ := h.at (by omega)
    obtain rfl := Option.some.inj e
    exact (SlB.take h hm).grown (grown_set w R 0 v) (fun b' off' e => by have := hne b off rfl (by omega); injection e with e; injection e with e1 e2; subst e1; exact this)
theorem drop_ok {w : World} {y : Addr} {n c m R : Nat} {B T : List Int} {v : Value} (h : SlB w (some y) n c (B ++ T)) (hm : B.length = m) (hmn : m ≤ n) (hne : ∀ b off, some y = some ⟨b, off, none⟩ → 0 < n → b ≠ R) : SlB (w.setCell ⟨R, 0, none⟩ v) (some (y.add m)) (n - m) (c - m) T ∧ ∀ b off, some (y.add m) = some ⟨b, off, none⟩ → 0 < n - m → b ≠ R := by
  have hl := h.1
  rw [List.length_append, hm] at hl
  by_cases h0 : n = 0
  · exact ⟨⟨by omega, by omega, by have := h.2.2.1; omega, fun h => (by cases h), .inl (by omega)⟩, fun _ _ _ h => by omega⟩
  · obtain ⟨b, off, e, hb, hc⟩ := h.at (by omega)
    obtain rfl := Option.some.inj e
    rw [Addr.add_mid]
    have h1 := hne b off rfl (by omega)
    exact ⟨(SlB.drop h hm).grown (grown_set w R 0 v) (fun b' off' e => by injection e with e; injection e with e1 e2; subst e1; exact h1), fun b' off' e _ => by injection e with e; injection e with e1 e2; subst e1; exact h1⟩
theorem Rr.grown {w w' : World} {R : Nat} {L : List Int} (h : Rr w R L) (hb : Below w.heap.size w w') : Rr w' R L := by
  obtain ⟨a, c, h1, h2, h3⟩ := h
  exact ⟨a, c, by rw [hb.block R (Array.getElem?_eq_some_iff.1 h1).1]; exact h1, h2.below hb, h3⟩
theorem grown_below {w w1 w2 : World} {R : Nat} (h1 : w.grownBy w1 (some R)) (h2 : Below w1.heap.size w1 w2) : w.grownBy w2 (some R) :=
  ⟨h2.os.trans h1.os, h2.tape.trans h1.tape, h2.output.trans h1.output, Nat.le_trans h1.size h2.size, fun k hk hne => (h2.block k (Nat.lt_of_lt_of_le hk h1.size)).trans (h1.block k hk hne)⟩
end Go.Proofs.YtcdkehghdhcokaaDoor.wr
