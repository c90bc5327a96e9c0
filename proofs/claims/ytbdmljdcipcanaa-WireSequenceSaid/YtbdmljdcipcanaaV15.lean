/- take, Bytes, Text. -/
import Derived.Test.YtbdmljdcipcanaaV14
namespace Go.Proofs.Ytbdmljdcipcanaa
open Go.RowKit
set_option linter.unusedVariables false

theorem grown_trans {w w1 w2 : World} {R : Nat} (h1 : w.grownBy w1 (some R)) (h2 : w1.grownBy w2 (some R)) : w.grownBy w2 (some R) :=
  ⟨h2.os.trans h1.os, h2.tape.trans h1.tape, h2.output.trans h1.output, Nat.le_trans h1.size h2.size, fun k hk hne => (h2.block k (Nat.lt_of_lt_of_le hk h1.size) hne).trans (h1.block k hk hne)⟩
theorem take_ok {w : World} {y : Addr} {n c m R : Nat} {B T : List Int} {v : Value} (h : SlB w (some y) n c (B ++ T)) (hm : B.length = m) (hmn : m ≤ n) (hne : ∀ b off, some y = some ⟨b, off, none⟩ → 0 < n → b ≠ R) : SlB (w.setCell ⟨R, 0, none⟩ v) (some y) m c B := by
  by_cases h0 : m = 0
  · exact ⟨hm, by omega, h.2.2.1, fun h => (by cases h), .inl h0⟩
  · obtain ⟨b, off, e, hb, hc⟩ := h.at (by omega)
    obtain rfl := Option.some.inj e
    exact (SlB.take h hm).grown (grown_set w R 0 v) (fun b' off' e => by have := hne b off rfl (by omega); injection e with e; injection e with e1 e2; subst e1; exact this)
theorem drop_ok {w : World} {y : Addr} {n c m R : Nat} {B T : List Int} {v : Value} (h : SlB w (some y) n c (B ++ T)) (hm : B.length = m) (hmn : m ≤ n) (hne : ∀ b off, some y = some ⟨b, off, none⟩ → 0 < n → b ≠ R) : SlB (w.setCell ⟨R, 0, none⟩ v) (some (y.add m)) (n - m) (c - m) T ∧ ∀ b off, some (y.add m) = some ⟨b, off, none⟩ → 0 < n - m → b ≠ R := by
  have hl := h.1
  rw [List.length_append, hm] at hl
  by_cases h0 : n = 0
  · exact ⟨⟨by omega, by omega, by have := h.2.2.1; omega, fun h => (by cases h), .inl (by omega)⟩, fun _ _ _ h => by omega⟩
  · obtain ⟨b, off, e, hb, hc⟩ := h.at (by omega)
    obtain rfl := Option.some.inj e
    rw [Addr.add_mid]
    have h1 := hne b off rfl (by omega)
    exact ⟨(SlB.drop h hm).grown (grown_set w R 0 v) (fun b' off' e => by injection e with e; injection e with e1 e2; subst e1; exact h1), fun b' off' e _ => by injection e with e; injection e with e1 e2; subst e1; exact h1⟩
/-- what take answers -/
def Took (w : World) (R : Nat) (B T : List Int) (e : Ending) (w' : World) : Prop := ∃ a c, e = .returned (.tuple #[.slice a B.length c, .int .i64 0]) ∧ SlB w' a B.length c B ∧ Rd w' R T ∧ w.grownBy w' (some R)
set_option maxHeartbeats 4000000 in
set_option maxRecDepth 100000 in
theorem take_c (R : Nat) (B T : List Int) (w : World) (h : Rd w R (grp B.length ++ (B ++ T))) (hB : B.length ≤ 4000) (hT : T.length ≤ 100000) :
    Calls Try.prog 31 #[.pointer (some ⟨R, 0, none⟩), .int .i64 1] w fun e w' => Took w R B T e w' := by
  have HU := Lib.hid (uint_c R B.length (B ++ T) w h (by omega))
  clear h
  go_enter Try.func31, Try.ntmps31
  go_wp2_with fail
  refine HU.out.mono ?_
  rintro e w1 ⟨rfl, ⟨a, c, h1, h2, h3⟩, hg⟩
  have GG := Lib.hid hg
  have hl := Lib.hid (show (B ++ T).length = B.length + T.length from List.length_append)
  have hnc := h2.2.1
  have hc63 := h2.2.2.1
  have H1 := Lib.hid h1
  have H2 := Lib.hid h2
  have H3 := Lib.hid h3
  obtain ⟨n, hn⟩ : ∃ n, (B ++ T).length = n := ⟨_, rfl⟩
  obtain ⟨m, hm⟩ : ∃ m, B.length = m := ⟨_, rfl⟩
  have HM := Lib.hid hm
  rw [hn] at H1 hl hnc H2 H3
  rw [hm] at hl hB ⊢
  have hTl : Hid (T.length = n - m) := Lib.hid (by have := hl.out; omega)
  have k0 := cell_of_row w1 R 0 _ 58 (0, 0) H1.out
  change w1.cell? ⟨R, 0, none⟩ = some (.slice a n c) at k0
  have f0 := frozen_of_row w1 R 0 _ 58 H1.out
  have hmn : (m : Int) ≤ (n : Int) := by have := hl.out; omega
  have hm0 : (0 : Int) ≤ (m : Int) := by omega
  have hn64 : (n : Int) ≤ 200000 := by have := hl.out; omega
  have hmn2 : m ≤ n := by omega
  have hmc : m ≤ c := by omega
  have hmc2 : (m : Int) ≤ (c : Int) := by omega
  have hdiv : (n : Int).tdiv 1 = n := by simp
  clear h1 h2 h3 hg HU
  cases a with
  | none =>
    obtain ⟨hn0, hc0⟩ := H2.out.2.2.2.1 rfl
    subst hn0
    subst hc0
    obtain rfl : m = 0 := by omega
    obtain rfl : B = [] := List.eq_nil_of_length_eq_zero HM.out
    obtain rfl : T = [] := List.eq_nil_of_length_eq_zero (by have := hTl.out; omega)
    go_wp2
    refine bodyPost_ret (results_tmp2 rfl _ _ _) rfl ?_
    refine ⟨none, 0, rfl, SlB.nil _, ⟨none, 0, ?_, SlB.nil _, fun _ _ e => by cases e⟩, grown_trans GG.out (grown_set w1 R 0 _)⟩
    rw [heap_setCell_same w1 R 0 _ 58 _ H1.out]; rfl
  | some y =>
    have hne : ∀ b off, some y = some ⟨b, off, none⟩ → 0 < n → b ≠ R := H3.out
    go_wp2
    · have h0 : Hid (n - m = 0) := Lib.hid (by omega)
      refine bodyPost_ret (results_tmp2 rfl _ _ _) rfl ?_
      refine ⟨some y, m, by rw [HM.out]; rfl, by rw [HM.out]; have := take_ok (v := .slice (some y) (n - m) 0) H2.out HM.out hmn2 H3.out; rw [h] at this; exact this, ⟨some y, 0, ?_, ?_, ?_⟩, grown_trans GG.out (grown_set w1 R 0 _)⟩
      · rw [hTl.out, heap_setCell_same w1 R 0 _ 58 _ H1.out]; rfl
      · exact ⟨rfl, by rw [hTl.out, h0.out]; exact Nat.le_refl _, by omega, fun h => (by cases h), .inl (by rw [hTl.out, h0.out])⟩
      · intro b' off' e hp
        rw [hTl.out, h0.out] at hp
        exact absurd hp (by omega)
    · have HD := drop_ok (v := .slice (some (y.add m)) (n - m) (c - m)) H2.out HM.out hmn2 H3.out
      refine bodyPost_ret (results_tmp2 rfl _ _ _) rfl ?_
      refine ⟨some y, c, by rw [HM.out]; rfl, by rw [HM.out]; exact take_ok H2.out HM.out hmn2 H3.out, ⟨some (y.add m), c - m, ?_, ?_, ?_⟩, grown_trans GG.out (grown_set w1 R 0 _)⟩
      · rw [hTl.out, heap_setCell_same w1 R 0 _ 58 _ H1.out]; rfl
      · rw [hTl.out]; exact HD.1
      · rw [hTl.out]; exact HD.2
theorem Rd.grown {w w' : World} {R : Nat} {L : List Int} (h : Rd w R L) (hb : Below w.heap.size w w') : Rd w' R L := by
  obtain ⟨a, c, h1, h2, h3⟩ := h
  exact ⟨a, c, by rw [hb.block R (Array.getElem?_eq_some_iff.1 h1).1]; exact h1, h2.below hb, h3⟩
theorem grown_below {w w1 w2 : World} {R : Nat} (h1 : w.grownBy w1 (some R)) (h2 : Below w1.heap.size w1 w2) : w.grownBy w2 (some R) :=
  ⟨h2.os.trans h1.os, h2.tape.trans h1.tape, h2.output.trans h1.output, Nat.le_trans h1.size h2.size, fun k hk hne => (h2.block k (Nat.lt_of_lt_of_le hk h1.size)).trans (h1.block k hk hne)⟩
set_option maxHeartbeats 4000000 in
set_option maxRecDepth 100000 in
theorem text_c (R : Nat) (B T : List Int) (w : World) (h : Rd w R (grp B.length ++ (B ++ T))) (hB : B.length ≤ 4000) (hT : T.length ≤ 100000) :
    Calls Try.prog 20 #[.pointer (some ⟨R, 0, none⟩)] w fun e w' => e = .returned (.tuple #[.string (strOfNums B), .int .i64 0]) ∧ Rd w' R T ∧ w.grownBy w' (some R) := by
  have HT := Lib.hid (take_c R B T w h hB hT)
  clear h
  obtain ⟨s, hst⟩ : ∃ s, strOfNums B = s := ⟨_, rfl⟩
  rw [hst]
  go_enter Try.func20, Try.ntmps20
  go_wp2_with fail
  refine HT.out.mono ?_
  rintro e w1 ⟨a, c, rfl, hs, hr, hg⟩
  have RR := Lib.hid hr
  have GG := Lib.hid hg
  have cv := conv_sl hs
  clear hs hr hg HT
  obtain ⟨m, hm⟩ : ∃ m, B.length = m := ⟨_, rfl⟩
  rw [hst, hm] at cv
  rw [hm]
  go_wp2
  refine bodyPost_ret (results_tmp2 rfl _ _ _) rfl ?_
  exact ⟨rfl, RR.out, GG.out⟩
set_option maxHeartbeats 4000000 in
set_option maxRecDepth 100000 in
theorem bytes_c (R : Nat) (B T : List Int) (w : World) (h : Rd w R (grp B.length ++ (B ++ T))) (hB : B.length ≤ 4000) (hT : T.length ≤ 100000) :
    Calls Try.prog 19 #[.pointer (some ⟨R, 0, none⟩)] w fun e w' => ∃ a c, e = .returned (.tuple #[.slice a B.length c, .int .i64 0]) ∧ SlB w' a B.length c B ∧ Rd w' R T ∧ w.grownBy w' (some R) := by
  have HT := Lib.hid (take_c R B T w h hB hT)
  clear h
  go_enter Try.func19, Try.ntmps19
  go_wp2_with fail
  refine HT.out.mono ?_
  rintro e w1 ⟨a, c, rfl, hs, hr, hg⟩
  have RR := Lib.hid hr
  have GG := Lib.hid hg
  have CC := Lib.hid (clone_c a _ c B w1 hs (by omega))
  clear hs hr hg HT
  obtain ⟨m, hm⟩ : ∃ m, B.length = m := ⟨_, rfl⟩
  rw [hm] at CC ⊢
  go_wp2_with fail
  refine CC.out.mono ?_
  rintro e w2 ⟨v, rfl, hO, hb⟩
  obtain ⟨a2, c2, rfl⟩ := hO.slice
  rw [hm]
  have SS := Lib.hid (hO.sl rfl)
  have R2 := Lib.hid (RR.out.grown hb)
  have G2 := Lib.hid (grown_below GG.out hb)
  clear hO hb CC
  go_wp2
  refine bodyPost_ret (results_tmp2 rfl _ _ _) rfl ?_
  exact ⟨a2, c2, by rw [hm]; rfl, SS.out, R2.out, G2.out⟩

end Go.Proofs.Ytbdmljdcipcanaa
