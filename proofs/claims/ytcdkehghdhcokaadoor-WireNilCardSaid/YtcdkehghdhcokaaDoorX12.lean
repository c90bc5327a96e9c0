/- Bytes and Text of the reference. -/
import Derived.Test.YtcdkehghdhcokaaDoorX11
namespace Go.Proofs.YtcdkehghdhcokaaDoor.wr
open Go.RowKit
set_option linter.unusedVariables false

set_option linter.unusedSimpArgs false
theorem take_sl {w : World} {y : Addr} {n c m : Nat} {B T : List Int} (h : SlB w (some y) n c (B ++ T)) (hm : B.length = m) (hmn : m ≤ n) : SlB w (some y) m c B := by
  by_cases h0 : m = 0
  · exact ⟨hm, by omega, h.2.2.1, fun h => (by cases h), .inl h0⟩
  · obtain ⟨b, off, e, hb, hc⟩ := h.at (by omega)
    obtain rfl := Option.some.inj e
    exact SlB.take h hm
theorem NoInt.below {w w' : World} {X : Nat} (h : NoInt w X) (hX : X < w.heap.size) (hb : Below w.heap.size w w') : NoInt w' X := fun i k x e => h i k x (by rw [← hb.cell (p := ⟨X, i, none⟩) hX]; exact e)
/-- nothing is read -/
def NoBytes (w : World) (R : Nat) (e : Ending) (w' : World) : Prop := e = .returned (.tuple #[.slice none 0 0, .int .i64 5]) ∧ St 65 w' R none ∧ w.grownBy w' (some R)
set_option maxHeartbeats 4000000 in
set_option maxRecDepth 100000 in
theorem rbytes_bad (R : Nat) (s : Option (List Int)) (w : World) (h : St 65 w R s) (hby : ∀ L, s = some L → Bytes L) (hlen : ∀ L, s = some L → L.length ≤ 100000) (hs : uR s = (0, 5, none)) :
    Calls Tryd.prog 33 #[.pointer (some ⟨R, 0, none⟩)] w (NoBytes w R) := by
  have HU := Lib.hid (ruint_g R s w h hby hlen)
  rw [hs] at HU
  clear h hby hlen hs
  go_enter Tryd.func33, Tryd.ntmps33
  go_wp2_with fail
  refine HU.out.mono ?_
  rintro e w1 ⟨rfl, hr, hg⟩
  have RR := Lib.hid hr
  have GG := Lib.hid hg
  clear hr hg HU
  go_wp2
  refine bodyPost_ret (results_tmp2 rfl _ _ _) rfl ?_
  exact ⟨rfl, RR.out, GG.out⟩
set_option maxHeartbeats 4000000 in
set_option maxRecDepth 100000 in
theorem rbytes_short (R : Nat) (m : Nat) (T : List Int) (w : World) (h : St 65 w R (some (grp m ++ T))) (hby : Bytes (grp m ++ T)) (hm : m < 18446744073709551616) (hT : (grp m ++ T).length ≤ 100000) (hs : T.length < m) :
    Calls Tryd.prog 33 #[.pointer (some ⟨R, 0, none⟩)] w (NoBytes w R) := by
  have HU := Lib.hid (ruint_s R _ w h hby hT)
  rw [uR_some (dec_of T hm)] at HU
  rw [List.length_append] at hT
  clear h hby
  go_enter Tryd.func33, Tryd.ntmps33
  go_wp2_with fail
  refine HU.out.mono ?_
  rintro e w1 ⟨rfl, hr, hg⟩
  have FL := Lib.hid (rfail_g R T w1 hr)
  obtain ⟨a, c, h1, h2, h3⟩ := hr
  have GG := Lib.hid hg
  have H1 := Lib.hid h1
  obtain ⟨n, hn⟩ : ∃ n, T.length = n := ⟨_, rfl⟩
  rw [hn] at H1 hs hT
  have k0 := cell_of_row w1 R 0 _ 65 (0, 0) H1.out
  change w1.cell? ⟨R, 0, none⟩ = some (.slice a n c) at k0
  have hmq : (n : Int) < (m : Int) := by omega
  have hq1 : (n : Int) ≤ 200000 := by omega
  clear h1 h2 h3 hg HU hn
  dsimp only
  go_wp2_with fail
  refine FL.out.mono ?_
  rintro e w2 ⟨rfl, hr2, hg2⟩
  have R2 := Lib.hid hr2
  have G2 := Lib.hid (grown_trans GG.out hg2)
  clear hr2 hg2 FL
  go_wp2
  refine bodyPost_ret (results_tmp2 rfl _ _ _) rfl ?_
  exact ⟨rfl, R2.out, G2.out⟩
set_option maxHeartbeats 4000000 in
set_option maxRecDepth 100000 in
theorem rbytes_ok (R : Nat) (k : Nat) (B T : List Int) (w : World) (h : St 65 w R (some (grp k ++ (B ++ T)))) (hby : Bytes (grp k ++ (B ++ T))) (hB : B.length = k) (hT : (grp k ++ (B ++ T)).length ≤ 100000) :
    Calls Tryd.prog 33 #[.pointer (some ⟨R, 0, none⟩)] w (BPost8 65 w R (B, 0, some T)) := by
  have hT2 := hT
  rw [List.length_append, List.length_append] at hT2
  have HU := Lib.hid (ruint_s R _ w h hby hT)
  rw [uR_some (dec_of (B ++ T) (m := k) (by omega))] at HU
  have hl0 : (B ++ T).length = B.length + T.length := List.length_append
  clear h hby hT
  go_enter Tryd.func33, Tryd.ntmps33
  go_wp2_with fail
  refine HU.out.mono ?_
  rintro e w1 ⟨rfl, hst, hg⟩
  have NI1 := Lib.hid hst.noInt
  obtain ⟨a, c, h1, h2, h3⟩ := hst
  have GG := Lib.hid hg
  have hl := Lib.hid hl0
  have hnc := h2.2.1
  have hc63 := h2.2.2.1
  have HM := Lib.hid hB
  have H1 := Lib.hid h1
  have H2 := Lib.hid h2
  have H3 := Lib.hid h3
  obtain ⟨n, hn⟩ : ∃ n, (B ++ T).length = n := ⟨_, rfl⟩
  rw [hn] at H1 hl hnc H2 H3
  have hTl : Hid (T.length = n - k) := Lib.hid (by have := hl.out; omega)
  have k0 := cell_of_row w1 R 0 _ 65 (0, 0) H1.out
  change w1.cell? ⟨R, 0, none⟩ = some (.slice a n c) at k0
  have hmn : (k : Int) ≤ (n : Int) := by have := hl.out; omega
  have hk0 : (0 : Int) ≤ (k : Int) := by omega
  have hn64 : (n : Int) ≤ 200000 := by have := hl.out; omega
  have hmn2 : k ≤ n := by omega
  have hmc : k ≤ c := by omega
  have hmc2 : (k : Int) ≤ (c : Int) := by omega
  have hk9 : k ≤ 100000 := by omega
  have B0 : Hid (Below w1.heap.size w1 (w1.alloc (.cells #[] 5))) := Lib.hid (Below.newBlock _)
  have OH := Lib.hid (OwnB.made (w := w1) (Nat.le_refl _) [] (by simp))
  have kz : (w1.alloc (.cells #[] 5)).cell? ⟨R, 0, none⟩ = some (.slice a n c) := by rw [B0.out.cell (p := ⟨R, 0, none⟩) (Array.getElem?_eq_some_iff.1 H1.out).1]; exact k0
  clear h1 h2 h3 hg HU hn hl0 hB hT2
  dsimp only
  cases a with
  | none =>
    obtain ⟨hn0, hc0⟩ := H2.out.2.2.2.1 rfl
    subst hn0
    subst hc0
    obtain rfl : k = 0 := by omega
    obtain rfl : B = [] := List.eq_nil_of_length_eq_zero HM.out
    obtain rfl : T = [] := List.eq_nil_of_length_eq_zero (by have := hTl.out; omega)
    go_wp2_with (at_builtin; refine wpList_append_bs rfl (.tmp 25) (.tmp 31) 22 22 rfl Tryd.underlying22 w1.heap.size _ [] rfl OH.out _ 0 [] rfl ((SlB.nil _).asSrc Tryd.underlying22) rfl (by simp) (by simp) ?_; intro v2 w2 hO2 hB2; obtain ⟨a2, c2, rfl⟩ := hO2.slice; have S2 := Lib.hid (hO2.sl rfl); have B2 := Lib.hid (B0.out.trans hB2); have R2 := Lib.hid ((B2.out.block R (Array.getElem?_eq_some_iff.1 H1.out).1).trans H1.out); have G2 := Lib.hid (grown_below GG.out B2.out); have k2 := cell_of_row w2 R 0 _ 65 (0, 0) R2.out; change w2.cell? ⟨R, 0, none⟩ = some (.slice none 0 0) at k2; have f2 := frozen_of_row w2 R 0 _ 65 R2.out; clear hO2 hB2 OH B0 kz k0)
    refine bodyPost_ret (results_tmp2 rfl _ _ _) rfl ?_
    refine ⟨a2, _, c2, rfl, ?_, ⟨none, 0, ?_, SlB.nil _, fun _ _ e => by cases e⟩, ?_⟩
    · have S := S2.out
      exact ⟨rfl, S.2.1, S.2.2.1, S.2.2.2.1, .inl rfl⟩
    · first
        | (rw [heap_setCell_same w2 R 0 _ 65 _ R2.out]; rfl)
        | exact R2.out
    · first
        | exact grown_trans G2.out (grown_set w2 R 0 _)
        | exact G2.out
  | some y =>
    have SA := Lib.hid ((take_sl H2.out HM.out hmn2).below B0.out)
    have hne : ∀ b off, some y = some ⟨b, off, none⟩ → 0 < n → b ≠ R := H3.out
    go_wp2_with (at_builtin; refine wpList_append_bs rfl (.tmp 25) (.tmp 31) 22 22 rfl Tryd.underlying22 w1.heap.size _ [] rfl OH.out _ k B rfl (SA.out.asSrc Tryd.underlying22) HM.out (by simp; omega) (by simp) ?_; intro v2 w2 hO2 hB2; rw [List.nil_append] at hO2; obtain ⟨a2, c2, rfl⟩ := hO2.slice; have S2 := Lib.hid (hO2.sl rfl); have B2 := Lib.hid (B0.out.trans hB2); have R2 := Lib.hid ((B2.out.block R (Array.getElem?_eq_some_iff.1 H1.out).1).trans H1.out); have G2 := Lib.hid (grown_below GG.out B2.out); have D2 := Lib.hid (H2.out.below B2.out); have k2 := cell_of_row w2 R 0 _ 65 (0, 0) R2.out; change w2.cell? ⟨R, 0, none⟩ = some (.slice (some y) n c) at k2; have f2 := frozen_of_row w2 R 0 _ 65 R2.out; have NI := Lib.hid (NI1.out.below (Array.getElem?_eq_some_iff.1 H1.out).1 B2.out); clear hO2 hB2 OH B0 kz k0 SA)
    · have h0 : Hid (n - k = 0) := Lib.hid (by omega)
      refine bodyPost_ret (results_tmp2 rfl _ _ _) rfl ?_
      refine ⟨a2, _, c2, rfl, S2.out.pastN NI.out (grown_set w2 R 0 _), ⟨some y, 0, ?_, ?_, ?_⟩, grown_trans G2.out (grown_set w2 R 0 _)⟩
      · rw [hTl.out, heap_setCell_same w2 R 0 _ 65 _ R2.out]; rfl
      · exact ⟨rfl, by rw [hTl.out, h0.out]; exact Nat.le_refl _, by omega, fun h => (by cases h), .inl (by rw [hTl.out, h0.out])⟩
      · intro b' off' e hp
        rw [hTl.out, h0.out] at hp
        exact absurd hp (by omega)
    · have HD := drop_ok (v := .slice (some (y.add k)) (n - k) (c - k)) D2.out HM.out hmn2 H3.out
      refine bodyPost_ret (results_tmp2 rfl _ _ _) rfl ?_
      refine ⟨a2, _, c2, rfl, S2.out.pastN NI.out (grown_set w2 R 0 _), ⟨some (y.add k), c - k, ?_, ?_, ?_⟩, grown_trans G2.out (grown_set w2 R 0 _)⟩
      · rw [hTl.out, heap_setCell_same w2 R 0 _ 65 _ R2.out]; rfl
      · rw [hTl.out]; exact HD.1
      · rw [hTl.out]; exact HD.2
theorem rbytes_g (R : Nat) (s : Option (List Int)) (w : World) (h : St 65 w R s) (hby : ∀ L, s = some L → Bytes L) (hlen : ∀ L, s = some L → L.length ≤ 100000) :
    Calls Tryd.prog 33 #[.pointer (some ⟨R, 0, none⟩)] w (BPost8 65 w R (tk s)) := by
  have no : ∀ e w', NoBytes w R e w' → BPost8 65 w R ([], 5, none) e w' := fun e w' ⟨h1, h2, h3⟩ => ⟨none, 0, 0, h1, SlB.nil _, h2, h3⟩
  cases s with
  | none => exact (rbytes_bad R none w h hby hlen rfl).mono no
  | some L =>
    cases hd : dec L with
    | none =>
      rw [tk_none hd]
      exact (rbytes_bad R (some L) w h hby hlen (uR_none hd)).mono no
    | some p =>
      obtain ⟨m, T⟩ := p
      rw [tk_some hd]
      have hb := hby L rfl
      have hl := hlen L rfl
      obtain ⟨e1, e2⟩ := dec_grp hb hd
      clear hby hlen hd
      subst e1
      by_cases h1 : T.length < m
      · rw [if_pos h1]
        exact (rbytes_short R m T w h hb e2 hl h1).mono no
      · rw [if_neg h1]
        have e3 : T = T.take m ++ T.drop m := (List.take_append_drop _ _).symm
        exact rbytes_ok R m (T.take m) (T.drop m) w (by rw [← e3]; exact h) (by rw [← e3]; exact hb) (by rw [List.length_take]; omega) (by rw [← e3]; exact hl)
set_option maxHeartbeats 4000000 in
set_option maxRecDepth 100000 in
theorem rtext_g (R : Nat) (s : Option (List Int)) (w : World) (h : St 65 w R s) (hby : ∀ L, s = some L → Bytes L) (hlen : ∀ L, s = some L → L.length ≤ 100000) :
    Calls Tryd.prog 34 #[.pointer (some ⟨R, 0, none⟩)] w (TPost 65 w R (tk s)) := by
  have HT := Lib.hid (rbytes_g R s w h hby hlen)
  clear h hby hlen
  obtain ⟨r, hr⟩ : ∃ r, tk s = r := ⟨_, rfl⟩
  rw [hr] at HT ⊢
  obtain ⟨B, er, s'⟩ := r
  obtain ⟨st, hst⟩ : ∃ st, strOfNums B = st := ⟨_, rfl⟩
  unfold TPost
  dsimp only
  rw [hst]
  clear hr
  go_enter Tryd.func34, Tryd.ntmps34
  go_wp2_with fail
  refine HT.out.mono ?_
  rintro e w1 ⟨a, n, c, rfl, hs, hr, hg⟩
  have RR := Lib.hid hr
  have GG := Lib.hid hg
  have cv := conv_sl hs
  clear hs hr hg HT
  dsimp only at cv
  rw [hst] at cv
  dsimp only
  go_wp2
  refine bodyPost_ret (results_tmp2 rfl _ _ _) rfl ?_
  exact ⟨rfl, RR.out, GG.out⟩

end Go.Proofs.YtcdkehghdhcokaaDoor.wr
