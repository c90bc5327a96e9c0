/- Rat of the program at any bytes. -/
import Derived.Test.YtcdkehghdhcokaaDoorX7
namespace Go.Proofs.YtcdkehghdhcokaaDoor.wr
open Go.RowKit
set_option linter.unusedVariables false

set_option linter.unusedSimpArgs false
theorem Stp.news {t : Nat} {w : World} {R P : Nat} {s : Option (List Int)} {b : Bool} {a a' : Option Addr} {n c n' c' : Nat} (h : St t w R s) (q : Q3 w P (.bool b) (.slice a n c) (.slice a' n' c')) (hne : R ≠ P) (v0 v1 v2 : Value) :
    St t (((w.setCell ⟨P, 0, none⟩ v0).setCell ⟨P, 1, none⟩ v1).setCell ⟨P, 2, none⟩ v2) R s :=
  h.pastN q.noInt hne (grown_trans (grown_trans (grown_set w P 0 v0) (grown_set _ P 1 v1)) (grown_set _ P 2 v2))
theorem Slw.news {w : World} {P : Nat} {b : Bool} {a a' x : Option Addr} {n c n' c' m g : Nat} {l : List Int} (h : SlW w x m g l) (q : Q3 w P (.bool b) (.slice a n c) (.slice a' n' c')) (v0 v1 v2 : Value) :
    SlW (((w.setCell ⟨P, 0, none⟩ v0).setCell ⟨P, 1, none⟩ v1).setCell ⟨P, 2, none⟩ v2) x m g l :=
  h.pastN q.noInt (grown_trans (grown_trans (grown_set w P 0 v0) (grown_set _ P 1 v1)) (grown_set _ P 2 v2))
theorem st_tail1 {t : Nat} {w : World} {R b off n c : Nat} {x : Int} {T : List Int} (h1 : w.heap[R]? = some (.cells #[.slice (some ⟨b, off, none⟩) n c, .bool false] t (0, 0))) (h2 : SlB w (some ⟨b, off, none⟩) n c (x :: T)) (hn : T.length + 1 = n) (hne : b ≠ R) (hc : c = 1) :
    St t (w.setCell ⟨R, 0, none⟩ (.slice (some ⟨b, off, none⟩) (n - 1) 0)) R (some T) := by
  have hnc := h2.2.1
  refine ⟨some ⟨b, off, none⟩, 0, ?_, ?_, ?_⟩
  · rw [heap_setCell_same w R 0 _ t _ h1, show T.length = n - 1 by omega]; rfl
  · exact ⟨rfl, by omega, by omega, fun h => (by cases h), .inl (by omega)⟩
  · intro b' off' e _
    injection e with e; injection e with e1 e2; subst e1; exact hne
theorem st_tail2 {t : Nat} {w : World} {R b off n c : Nat} {x : Int} {T : List Int} (h1 : w.heap[R]? = some (.cells #[.slice (some ⟨b, off, none⟩) n c, .bool false] t (0, 0))) (h2 : SlB w (some ⟨b, off, none⟩) n c (x :: T)) (hn : T.length + 1 = n) (hne : b ≠ R) :
    St t (w.setCell ⟨R, 0, none⟩ (.slice (some ⟨b, off + 1, none⟩) (n - 1) (c - 1))) R (some T) := by
  have hnc := h2.2.1
  have hd := SlB.drop (A := [x]) (B := T) h2 rfl
  refine ⟨some ⟨b, off + 1, none⟩, c - 1, ?_, ?_, ?_⟩
  · rw [heap_setCell_same w R 0 _ t _ h1, show T.length = n - 1 by omega]; rfl
  · rw [show T.length = n - 1 by omega]
    exact hd.grown (grown_set w R 0 _) (fun b' off' e => by injection e with e; injection e with e1 e2; subst e1; exact hne)
  · intro b' off' e _
    injection e with e; injection e with e1 e2; subst e1; exact hne
set_option maxHeartbeats 8000000 in
set_option maxRecDepth 100000 in
theorem rat_none (R : Nat) (w : World) (h : St 63 w R none) : Calls Tryd.prog 23 #[.pointer (some ⟨R, 0, none⟩)] w (RPost8 63 w R ((false, [], []), 5, none)) := by
  have hRlt := Lib.hid h.lt
  obtain ⟨A1, hA1⟩ : ∃ q, w.alloc (.cells #[.bool false, .slice none 0 0, .slice none 0 0] 37) = q := ⟨_, rfl⟩
  have B1 : Below w.heap.size w A1 := by rw [← hA1]; exact Below.newBlock _
  have QP1 : Hid (Q3 A1 w.heap.size (.bool false) (.slice none 0 0) (.slice none 0 0)) := Lib.hid (by rw [← hA1]; exact Q3.new w _ _ _)
  have ST1 := Lib.hid (h.below B1)
  have k1 := cell_of_row A1 R 1 _ 63 (0, 0) ST1.out
  change A1.cell? ⟨R, 1, none⟩ = some (.bool true) at k1
  have G1 := Lib.hid (grown_below (grown_refl w R) B1)
  have hA1' := Lib.hid hA1
  clear h B1 hA1
  go_enter Tryd.func23, Tryd.ntmps23
  go_upto_region 1 with (fail)
  rw [hA1'.out]
  obtain ⟨p0, p1, p2, pf0, pf1, pf2⟩ := QP1.out.facts
  obtain ⟨s0, s1, s2⟩ := Q3.said QP1.out (.bool false) (.slice none 0 0) (.slice none 0 0)
  have FIN := Lib.hid (RPost8.bad (Stp.news ST1.out QP1.out (Nat.ne_of_lt (Nat.lt_of_lt_of_le hRlt.out (Nat.le_refl _))) (.bool false) (.slice none 0 0) (.slice none 0 0)) (grown_news G1.out (Nat.le_refl _) (.bool false) (.slice none 0 0) (.slice none 0 0)))
  go_wp2
  refine bodyPost_ret (v := .tuple #[.agg #[.bool false, .slice none 0 0, .slice none 0 0], .int .i64 5]) (by simp [results, Tryd.results23, go_sem, s0, s1, s2]) rfl ?_
  exact FIN.out

set_option maxHeartbeats 8000000 in
set_option maxRecDepth 100000 in
theorem rat_nil (R : Nat) (w : World) (h : St 63 w R (some [])) : Calls Tryd.prog 23 #[.pointer (some ⟨R, 0, none⟩)] w (RPost8 63 w R ((false, [], []), 5, none)) := by
  have hRlt := Lib.hid h.lt
  obtain ⟨A1, hA1⟩ : ∃ q, w.alloc (.cells #[.bool false, .slice none 0 0, .slice none 0 0] 37) = q := ⟨_, rfl⟩
  have B1 : Below w.heap.size w A1 := by rw [← hA1]; exact Below.newBlock _
  have QP1 : Hid (Q3 A1 w.heap.size (.bool false) (.slice none 0 0) (.slice none 0 0)) := Lib.hid (by rw [← hA1]; exact Q3.new w _ _ _)
  have ST1 := Lib.hid (h.below B1)
  have FL := Lib.hid (fail_g R [] A1 ST1.out)
  obtain ⟨a, c, h1, -, -⟩ := id ST1.out
  have k0 := cell_of_row A1 R 0 _ 63 (0, 0) h1
  have k1 := cell_of_row A1 R 1 _ 63 (0, 0) h1
  change A1.cell? ⟨R, 0, none⟩ = some (.slice a 0 c) at k0
  change A1.cell? ⟨R, 1, none⟩ = some (.bool false) at k1
  have G1 := Lib.hid (grown_below (grown_refl w R) B1)
  have hA1' := Lib.hid hA1
  clear h B1 hA1 h1
  go_enter Tryd.func23, Tryd.ntmps23
  go_upto_region 1 with (fail)
  rw [hA1'.out]
  go_wp2_with fail
  refine FL.out.mono ?_
  rintro e w9 ⟨rfl, st9, g9⟩
  have QP9 := Lib.hid (QP1.out.past (Nat.ne_of_gt hRlt.out) g9)
  have G9 := Lib.hid (grown_trans G1.out g9)
  have ST9 := Lib.hid st9
  clear st9 g9 FL
  obtain ⟨p0, p1, p2, pf0, pf1, pf2⟩ := QP9.out.facts
  obtain ⟨s0, s1, s2⟩ := Q3.said QP9.out (.bool false) (.slice none 0 0) (.slice none 0 0)
  have FIN := Lib.hid (RPost8.bad (Stp.news ST9.out QP9.out (Nat.ne_of_lt (Nat.lt_of_lt_of_le hRlt.out (Nat.le_refl _))) (.bool false) (.slice none 0 0) (.slice none 0 0)) (grown_news G9.out (Nat.le_refl _) (.bool false) (.slice none 0 0) (.slice none 0 0)))
  go_wp2
  refine bodyPost_ret (v := .tuple #[.agg #[.bool false, .slice none 0 0, .slice none 0 0], .int .i64 5]) (by simp [results, Tryd.results23, go_sem, s0, s1, s2]) rfl ?_
  exact FIN.out

set_option maxHeartbeats 8000000 in
set_option maxRecDepth 100000 in
theorem rat_sign (R : Nat) (x : Int) (T : List Int) (w : World) (h : St 63 w R (some (x :: T))) (hx : 1 < x) : Calls Tryd.prog 23 #[.pointer (some ⟨R, 0, none⟩)] w (RPost8 63 w R ((false, [], []), 5, none)) := by
  have hRlt := Lib.hid h.lt
  obtain ⟨A1, hA1⟩ : ∃ q, w.alloc (.cells #[.bool false, .slice none 0 0, .slice none 0 0] 37) = q := ⟨_, rfl⟩
  have B1 : Below w.heap.size w A1 := by rw [← hA1]; exact Below.newBlock _
  have QP1 : Hid (Q3 A1 w.heap.size (.bool false) (.slice none 0 0) (.slice none 0 0)) := Lib.hid (by rw [← hA1]; exact Q3.new w _ _ _)
  have ST1 := Lib.hid (h.below B1)
  have FL := Lib.hid (fail_g R (x :: T) A1 ST1.out)
  obtain ⟨a, c, h1, h2, -⟩ := id ST1.out
  rw [List.length_cons] at h1 h2
  obtain ⟨b, off, ea, hb, hcs⟩ := h2.at (by omega)
  subst ea
  have kx := hcs 0 (by omega)
  obtain ⟨n, hn⟩ : ∃ n, T.length + 1 = n := ⟨_, rfl⟩
  rw [hn] at h1
  have k0 := cell_of_row A1 R 0 _ 63 (0, 0) h1
  have k1 := cell_of_row A1 R 1 _ 63 (0, 0) h1
  change A1.cell? ⟨R, 0, none⟩ = some (.slice (some ⟨b, off, none⟩) n c) at k0
  change A1.cell? ⟨R, 1, none⟩ = some (.bool false) at k1
  change A1.cell? ⟨b, off, none⟩ = some (.int .u8 x) at kx
  have n1 : (0 : Int) < (n : Int) := by omega
  have n3 : ¬ ((n : Int) = 0) := by omega
  have G1 := Lib.hid (grown_below (grown_refl w R) B1)
  have hA1' := Lib.hid hA1
  clear h B1 hA1 h1 h2 hcs hb hn
  go_enter Tryd.func23, Tryd.ntmps23
  go_upto_region 1 with (fail)
  rw [hA1'.out]
  go_wp2_with fail
  refine FL.out.mono ?_
  rintro e w9 ⟨rfl, st9, g9⟩
  have QP9 := Lib.hid (QP1.out.past (Nat.ne_of_gt hRlt.out) g9)
  have G9 := Lib.hid (grown_trans G1.out g9)
  have ST9 := Lib.hid st9
  clear st9 g9 FL
  obtain ⟨p0, p1, p2, pf0, pf1, pf2⟩ := QP9.out.facts
  obtain ⟨s0, s1, s2⟩ := Q3.said QP9.out (.bool false) (.slice none 0 0) (.slice none 0 0)
  have FIN := Lib.hid (RPost8.bad (Stp.news ST9.out QP9.out (Nat.ne_of_lt (Nat.lt_of_lt_of_le hRlt.out (Nat.le_refl _))) (.bool false) (.slice none 0 0) (.slice none 0 0)) (grown_news G9.out (Nat.le_refl _) (.bool false) (.slice none 0 0) (.slice none 0 0)))
  go_wp2
  refine bodyPost_ret (v := .tuple #[.agg #[.bool false, .slice none 0 0, .slice none 0 0], .int .i64 5]) (by simp [results, Tryd.results23, go_sem, s0, s1, s2]) rfl ?_
  exact FIN.out

set_option maxHeartbeats 8000000 in
set_option maxRecDepth 100000 in
theorem rat_r2_0 (R : Nat) (T : List Int) (w : World) (h : St 63 w R (some (0 :: T))) (hby : Bytes (0 :: T)) (hlen : T.length + 1 ≤ 100000) (hT : Tab w) :
    Calls Tryd.prog 23 #[.pointer (some ⟨R, 0, none⟩)] w (RPost8 63 w R (r2 false T)) := by
  obtain ⟨r, hr⟩ : ∃ r, r2 false T = r := ⟨_, rfl⟩
  rw [hr]
  have HR := Lib.hid hr
  clear hr
  have hRlt := Lib.hid h.lt
  have hbT := Lib.hid hby.tail
  have NOR := Lib.hid h.noInt
  have TB := Lib.hid hT
  obtain ⟨a, c, h1, h2, h3⟩ := h
  have hTl : T.length ≤ 100000 := by omega
  have HTL := Lib.hid hTl
  rw [List.length_cons] at h1 h2 h3
  obtain ⟨n, hn⟩ : ∃ n, T.length + 1 = n := ⟨_, rfl⟩
  rw [hn] at h1 h2 h3
  obtain ⟨b, off, ea, hb, hcs⟩ := h2.at (by omega)
  subst ea
  have HNE := Lib.hid (h3 b off rfl (by omega))
  have H1 := Lib.hid h1
  have H2 := Lib.hid h2
  have hnc := h2.2.1
  have hc63 := h2.2.2.1
  have n1 : (0 : Int) < (n : Int) := by omega
  have n2 : (1 : Int) ≤ (n : Int) := by omega
  have n3 : ¬ ((n : Int) = 0) := by omega
  have n4 : (1 : Int) ≤ (c : Int) := by omega
  have HN := Lib.hid hn
  obtain ⟨A1, hA1⟩ : ∃ q, w.alloc (.cells #[.bool false, .slice none 0 0, .slice none 0 0] 37) = q := ⟨_, rfl⟩
  have B1 : Hid (Below w.heap.size w A1) := Lib.hid (by rw [← hA1]; exact Below.newBlock _)
  have z1 : A1.heap.size = w.heap.size + 1 := by rw [← hA1]; simp
  have QP1 : Hid (Q3 A1 w.heap.size (.bool false) (.slice none 0 0) (.slice none 0 0)) := Lib.hid (by rw [← hA1]; exact Q3.new w _ _ _)
  obtain ⟨A2, hA2⟩ : ∃ q, A1.alloc (.cells #[.bool false, .slice none 0 0, .slice none 0 0] 37) = q := ⟨_, rfl⟩
  have QX2 : Hid (Q3 A2 (w.heap.size + 1) (.bool false) (.slice none 0 0) (.slice none 0 0)) := Lib.hid (by
    rw [← hA2, ← z1]; exact Q3.new A1 _ _ _)
  have B2 : Hid (Below (w.heap.size + 1) A1 A2) := Lib.hid (by
    rw [← hA2, ← z1]
    exact Below.newBlock (w := A1) _)
  have B2w : Hid (Below w.heap.size w A2) := Lib.hid (B1.out.trans (B2.out.mono (by omega)))
  have QP2 : Hid (Q3 A2 w.heap.size (.bool false) (.slice none 0 0) (.slice none 0 0)) := Lib.hid (QP1.out.below (by rw [z1]; exact B2.out))
  have kq : A1.cell? ⟨R, 0, none⟩ = some (.slice (some ⟨b, off, none⟩) n c) := by rw [B1.out.cell (p := ⟨R, 0, none⟩) hRlt.out]; exact cell_of_row w R 0 _ 63 (0, 0) h1
  have kf : A1.cell? ⟨R, 1, none⟩ = some (.bool false) := by rw [B1.out.cell (p := ⟨R, 1, none⟩) hRlt.out]; exact cell_of_row w R 1 _ 63 (0, 0) h1
  have kx : A1.cell? ⟨b, off, none⟩ = some (.int .u8 0) := by rw [B1.out.cell (p := ⟨b, off, none⟩) hb]; exact hcs 0 (by omega)
  have G2 : Hid (w.grownBy A2 (some R)) := Lib.hid (grown_below (grown_refl w R) B2w.out)
  have H1b : Hid (A2.heap[R]? = some (.cells #[.slice (some ⟨b, off, none⟩) n c, .bool false] 63 (0, 0))) := Lib.hid ((B2w.out.block R hRlt.out).trans h1)
  have H2b := Lib.hid (H2.out.below B2w.out)
  have TB2 := Lib.hid (hT.below B2w.out)
  have kr := cell_of_row A2 R 0 _ 63 (0, 0) H1b.out
  change A2.cell? ⟨R, 0, none⟩ = some (.slice (some ⟨b, off, none⟩) n c) at kr
  have fr := frozen_of_row A2 R 0 _ 63 H1b.out
  have hA1' := Lib.hid hA1
  have hA2' := Lib.hid hA2
  have z1' := Lib.hid z1
  clear h1 h2 h3 hcs hb hn hA1 hA2 hby hT hTl hlen z1
  go_enter Tryd.func23, Tryd.ntmps23
  go_upto_region 1 with (fail)
  rw [hA1'.out]
  have z1 := z1'.out
  go_upto_region 6 with (fail)
  rw [hA2'.out]
  clear kq kf kx z1
  have key : ∀ A3, St 63 A3 R (some T) → A2.grownBy A3 (some R) → Hid (Q3 A3 w.heap.size (.bool false) (.slice none 0 0) (.slice none 0 0) ∧ Q3 A3 (w.heap.size + 1) (.bool false) (.slice none 0 0) (.slice none 0 0) ∧ w.grownBy A3 (some R) ∧ Tab A3 ∧ Calls Tryd.prog 22 #[.pointer (some ⟨R, 0, none⟩)] A3 (NPost 63 A3 R (nR (some T)))) := fun A3 hs hg =>
    Lib.hid ⟨QP2.out.past (Nat.ne_of_gt hRlt.out) hg, QX2.out.past (Nat.ne_of_gt (Nat.lt_succ_of_lt hRlt.out)) hg, grown_trans G2.out hg, Tab.past TB2.out (by have h : St 63 A2 R (some (0 :: T)) := ⟨some ⟨b, off, none⟩, c, by rw [List.length_cons, HN.out]; exact H1b.out, by rw [List.length_cons, HN.out]; exact H2b.out, fun b' off' e _ => by injection e with e; injection e with e1 e2; subst e1; exact HNE.out⟩; exact h.noInt) hg, nat_g R (some T) A3 hs (fun L e => by injection e with e; subst e; exact hbT.out) (fun L e => by injection e with e; subst e; exact HTL.out)⟩
  have KEY := Lib.hid key
  clear key
  by_cases hc1 : c = 1
  · have hc1i : (c : Int) = 1 := by omega
    have ST3 := Lib.hid (st_tail1 H1b.out H2b.out HN.out HNE.out hc1)
    go_wp2_with fail
    have KK := KEY.out _ ST3.out (grown_set _ _ _ _)
    have S3 := ST3
    clear KEY ST3
    refine KK.out.2.2.2.2.mono ?_
    rintro e w4 ⟨a1, n1', c1, rfl, sw1, nc1, st4, g4⟩
    have QP4 := Lib.hid (KK.out.1.past (Nat.ne_of_gt hRlt.out) g4)
    have QX4 := Lib.hid (KK.out.2.1.past (Nat.ne_of_gt (Nat.lt_succ_of_lt hRlt.out)) g4)
    have G4 := Lib.hid (grown_trans KK.out.2.2.1 g4)
    have T4 := Lib.hid (Tab.past KK.out.2.2.2.1 S3.out.noInt g4)
    have SW4 := Lib.hid sw1
    have NC4 := Lib.hid nc1
    have ST4 := Lib.hid st4
    clear sw1 nc1 st4 g4 KK S3 kr fr
    obtain ⟨A5, hA5⟩ : ∃ q, w4.setCell ⟨w.heap.size + 1, 1, none⟩ (.slice a1 n1' c1) = q := ⟨_, rfl⟩
    have QX5 : Hid (Q3 A5 (w.heap.size + 1) (.bool false) (.slice a1 n1' c1) (.slice none 0 0)) := Lib.hid (by rw [← hA5]; exact QX4.out.set1 _)
    have g5 : w4.grownBy A5 (some (w.heap.size + 1)) := by rw [← hA5]; exact grown_set _ _ _ _
    have QP5 : Hid (Q3 A5 w.heap.size (.bool false) (.slice none 0 0) (.slice none 0 0)) := Lib.hid (QP4.out.past (by omega) g5)
    have ST5 := Lib.hid (ST4.out.pastN QX4.out.noInt (Nat.ne_of_lt (Nat.lt_succ_of_lt hRlt.out)) g5)
    have SW5 := Lib.hid (SW4.out.pastN QX4.out.noInt g5)
    have T5 := Lib.hid (Tab.past T4.out QX4.out.noInt g5)
    have G5 : Hid (w.grownBy A5 (some R)) := Lib.hid (by rw [← hA5]; exact grown_new G4.out (Nat.le_succ _) _)
    obtain ⟨x0, x1, x2, xf0, xf1, xf2⟩ := QX4.out.facts
    have hA5' := Lib.hid hA5
    clear g5 hA5 T4 SW4 ST4 QP4 QX4 G4
    go_upto_region 9 with (fail)
    rw [hA5'.out]
    clear x0 x1 x2 xf0 xf1 xf2
    rcases nR_cases (some T) with e1 | ⟨l1, T1, e1⟩
    · rw [e1] at SW5 ST5 ⊢
      obtain rfl : r = ((false, [], []), 5, none) := by rw [← HR.out, r2_bad1 e1]
      dsimp only
      obtain ⟨p0, p1, p2, pf0, pf1, pf2⟩ := QP5.out.facts
      obtain ⟨s0, s1, s2⟩ := Q3.said QP5.out (.bool false) (.slice none 0 0) (.slice none 0 0)
      have FIN := Lib.hid (RPost8.bad (Stp.news ST5.out QP5.out (Nat.ne_of_lt (Nat.lt_of_lt_of_le hRlt.out (Nat.le_refl _))) (.bool false) (.slice none 0 0) (.slice none 0 0)) (grown_news G5.out (Nat.le_refl _) (.bool false) (.slice none 0 0) (.slice none 0 0)))
      go_wp2
      refine bodyPost_ret (v := .tuple #[.agg #[.bool false, .slice none 0 0, .slice none 0 0], .int .i64 5]) (by simp [results, Tryd.results23, go_sem, s0, s1, s2]) rfl ?_
      exact FIN.out
    · have E1 := Lib.hid e1
      rw [e1] at SW5 ST5 ⊢
      clear e1
      dsimp only at ST5 SW5 ⊢
      have hb1 := (nR_ok hbT.out E1.out)
      have BT1 := Lib.hid (show Bytes T1 from by have := hbT.out; rw [hb1.1] at this; exact this.right)
      have LT1 := Lib.hid (show T1.length ≤ 100000 ∧ l1.length ≤ 100000 from by have h1 := HTL.out; have h2 := congrArg List.length hb1.1; rw [List.length_append] at h2; unfold nb at h2; rw [List.length_append, by4_len] at h2; omega)
      have N2 := Lib.hid (nat_g R (some T1) A5 ST5.out (fun L e => by injection e with e; subst e; exact BT1.out) (fun L e => by injection e with e; subst e; exact LT1.out.1))
      clear hb1
      go_wp2_with fail
      refine N2.out.mono ?_
      rintro e w6 ⟨a2, n2', c2, rfl, sw2, nc2, st6, g6⟩
      have QP6 := Lib.hid (QP5.out.past (Nat.ne_of_gt hRlt.out) g6)
      have QX6 := Lib.hid (QX5.out.past (Nat.ne_of_gt (Nat.lt_succ_of_lt hRlt.out)) g6)
      have G6 := Lib.hid (grown_trans G5.out g6)
      have T6 := Lib.hid (Tab.past T5.out ST5.out.noInt g6)
      have SU6 := Lib.hid (SW5.out.pastN ST5.out.noInt g6)
      have SW6 := Lib.hid sw2
      have NC6 := Lib.hid nc2
      have ST6 := Lib.hid st6
      clear sw2 nc2 st6 g6 N2 QP5 QX5 G5 T5 SW5 ST5
      obtain ⟨A7, hA7⟩ : ∃ q, w6.setCell ⟨w.heap.size + 1, 2, none⟩ (.slice a2 n2' c2) = q := ⟨_, rfl⟩
      have QX7 : Hid (Q3 A7 (w.heap.size + 1) (.bool false) (.slice a1 n1' c1) (.slice a2 n2' c2)) := Lib.hid (by rw [← hA7]; exact QX6.out.set2 _)
      have g7 : w6.grownBy A7 (some (w.heap.size + 1)) := by rw [← hA7]; exact grown_set _ _ _ _
      have QP7 : Hid (Q3 A7 w.heap.size (.bool false) (.slice none 0 0) (.slice none 0 0)) := Lib.hid (QP6.out.past (by omega) g7)
      have ST7 := Lib.hid (ST6.out.pastN QX6.out.noInt (Nat.ne_of_lt (Nat.lt_succ_of_lt hRlt.out)) g7)
      have SU7 := Lib.hid (SU6.out.pastN QX6.out.noInt g7)
      have SW7 := Lib.hid (SW6.out.pastN QX6.out.noInt g7)
      have T7 := Lib.hid (Tab.past T6.out QX6.out.noInt g7)
      have G7 : Hid (w.grownBy A7 (some R)) := Lib.hid (by rw [← hA7]; exact grown_new G6.out (Nat.le_succ _) _)
      obtain ⟨x0, x1, x2, xf0, xf1, xf2⟩ := QX6.out.facts
      have hA7' := Lib.hid hA7
      clear g7 hA7 T6 SW6 SU6 ST6 QP6 QX6 G6
      go_upto_region 12 with (fail)
      rw [hA7'.out]
      clear x0 x1 x2 xf0 xf1 xf2
      rcases nR_cases (some T1) with e2 | ⟨l2, T2, e2⟩
      · rw [e2] at SW7 ST7 ⊢
        obtain rfl : r = ((false, [], []), 5, none) := by rw [← HR.out, r2_bad2 E1.out e2]
        dsimp only
        obtain ⟨p0, p1, p2, pf0, pf1, pf2⟩ := QP7.out.facts
        obtain ⟨s0, s1, s2⟩ := Q3.said QP7.out (.bool false) (.slice none 0 0) (.slice none 0 0)
        have FIN := Lib.hid (RPost8.bad (Stp.news ST7.out QP7.out (Nat.ne_of_lt (Nat.lt_of_lt_of_le hRlt.out (Nat.le_refl _))) (.bool false) (.slice none 0 0) (.slice none 0 0)) (grown_news G7.out (Nat.le_refl _) (.bool false) (.slice none 0 0) (.slice none 0 0)))
        go_wp2
        refine bodyPost_ret (v := .tuple #[.agg #[.bool false, .slice none 0 0, .slice none 0 0], .int .i64 5]) (by simp [results, Tryd.results23, go_sem, s0, s1, s2]) rfl ?_
        exact FIN.out
      · have E2 := Lib.hid e2
        rw [e2] at SW7 ST7 ⊢
        clear e2
        dsimp only at ST7 SW7 ⊢
        have er := HR.out
        rw [r2_ok E1.out E2.out] at er
        have hb2 := nR_ok BT1.out E2.out
        have LT2 := Lib.hid (show l2.length ≤ 100000 from by have h1 := LT1.out.1; have h2 := congrArg List.length hb2.1; rw [List.length_append] at h2; unfold nb at h2; rw [List.length_append, by4_len] at h2; omega)
        have VV := qvalid_c (s := false) (k := 1000000) (SU7.out.rd NC4.out) (SW7.out.rd NC6.out) (by unfold nats; rw [List.length_map]; have := LT1.out.2; omega) (by unfold nats; rw [List.length_map]; have := LT2.out; omega) (by omega) T7.out
        obtain ⟨ok, hok⟩ : ∃ q, okQ false (nats l1) (nats l2) = q := ⟨_, rfl⟩
        rw [hok] at VV er
        have V := Lib.hid VV
        obtain ⟨x0, x1, x2, -, -, -⟩ := QX7.out.facts
        clear VV hok hb2
        cases ok with
        | true =>
          rw [if_pos rfl] at er
          subst er
          go_wp2_with fail
          refine V.out.mono ?_
          rintro e w8 ⟨rfl, k8⟩
          have QP8 := Lib.hid (QP7.out.below k8)
          have QX8 := Lib.hid (QX7.out.below k8)
          have g8 := grown_below G7.out k8
          have st8 := ST7.out.below k8
          have su8 := SU7.out.below k8
          have sw8 := SW7.out.below k8
          obtain ⟨x0, x1, x2, -, -, -⟩ := QX8.out.facts
          obtain ⟨p0, p1, p2, pf0, pf1, pf2⟩ := QP8.out.facts
          obtain ⟨s0, s1, s2⟩ := Q3.said QP8.out (.bool false) (.slice a1 n1' c1) (.slice a2 n2' c2)
          have FIN := Lib.hid (show RPost8 63 w R ((false, l1, l2), 0, some T2) (.returned (.tuple #[.agg #[.bool false, .slice a1 n1' c1, .slice a2 n2' c2], .int .i64 0])) _ from ⟨a1, n1', c1, a2, n2', c2, rfl, Slw.news su8 QP8.out (.bool false) (.slice a1 n1' c1) (.slice a2 n2' c2), NC4.out, Slw.news sw8 QP8.out (.bool false) (.slice a1 n1' c1) (.slice a2 n2' c2), NC6.out, Stp.news st8 QP8.out (Nat.ne_of_lt hRlt.out) (.bool false) (.slice a1 n1' c1) (.slice a2 n2' c2), grown_news g8 (Nat.le_refl _) (.bool false) (.slice a1 n1' c1) (.slice a2 n2' c2)⟩)
          clear k8 g8 st8 su8 sw8
          go_wp2
          refine bodyPost_ret (v := .tuple #[.agg #[.bool false, .slice a1 n1' c1, .slice a2 n2' c2], .int .i64 0]) (by simp [results, Tryd.results23, go_sem, s0, s1, s2]) rfl ?_
          exact FIN.out
        | false =>
          rw [if_neg (by decide)] at er
          subst er
          go_wp2_with fail
          refine V.out.mono ?_
          rintro e w8 ⟨rfl, k8⟩
          have QP8 := Lib.hid (QP7.out.below k8)
          have G8 := Lib.hid (grown_below G7.out k8)
          have ST8 := Lib.hid (ST7.out.below k8)
          have FL := Lib.hid (fail_g R T2 w8 ST8.out)
          clear k8
          go_wp2_with fail
          refine FL.out.mono ?_
          rintro e w9 ⟨rfl, st9, g9⟩
          have QP9 := Lib.hid (QP8.out.past (Nat.ne_of_gt hRlt.out) g9)
          have G9 := Lib.hid (grown_trans G8.out g9)
          have ST9 := Lib.hid st9
          clear st9 g9 FL
          obtain ⟨p0, p1, p2, pf0, pf1, pf2⟩ := QP9.out.facts
          obtain ⟨s0, s1, s2⟩ := Q3.said QP9.out (.bool false) (.slice none 0 0) (.slice none 0 0)
          have FIN := Lib.hid (RPost8.bad (Stp.news ST9.out QP9.out (Nat.ne_of_lt (Nat.lt_of_lt_of_le hRlt.out (Nat.le_refl _))) (.bool false) (.slice none 0 0) (.slice none 0 0)) (grown_news G9.out (Nat.le_refl _) (.bool false) (.slice none 0 0) (.slice none 0 0)))
          go_wp2
          refine bodyPost_ret (v := .tuple #[.agg #[.bool false, .slice none 0 0, .slice none 0 0], .int .i64 5]) (by simp [results, Tryd.results23, go_sem, s0, s1, s2]) rfl ?_
          exact FIN.out
  · have hc1i : ¬ ((c : Int) = 1) := by omega
    have ST3 := Lib.hid (st_tail2 H1b.out H2b.out HN.out HNE.out)
    go_wp2_with fail
    have KK := KEY.out _ ST3.out (grown_set _ _ _ _)
    have S3 := ST3
    clear KEY ST3
    refine KK.out.2.2.2.2.mono ?_
    rintro e w4 ⟨a1, n1', c1, rfl, sw1, nc1, st4, g4⟩
    have QP4 := Lib.hid (KK.out.1.past (Nat.ne_of_gt hRlt.out) g4)
    have QX4 := Lib.hid (KK.out.2.1.past (Nat.ne_of_gt (Nat.lt_succ_of_lt hRlt.out)) g4)
    have G4 := Lib.hid (grown_trans KK.out.2.2.1 g4)
    have T4 := Lib.hid (Tab.past KK.out.2.2.2.1 S3.out.noInt g4)
    have SW4 := Lib.hid sw1
    have NC4 := Lib.hid nc1
    have ST4 := Lib.hid st4
    clear sw1 nc1 st4 g4 KK S3 kr fr
    obtain ⟨A5, hA5⟩ : ∃ q, w4.setCell ⟨w.heap.size + 1, 1, none⟩ (.slice a1 n1' c1) = q := ⟨_, rfl⟩
    have QX5 : Hid (Q3 A5 (w.heap.size + 1) (.bool false) (.slice a1 n1' c1) (.slice none 0 0)) := Lib.hid (by rw [← hA5]; exact QX4.out.set1 _)
    have g5 : w4.grownBy A5 (some (w.heap.size + 1)) := by rw [← hA5]; exact grown_set _ _ _ _
    have QP5 : Hid (Q3 A5 w.heap.size (.bool false) (.slice none 0 0) (.slice none 0 0)) := Lib.hid (QP4.out.past (by omega) g5)
    have ST5 := Lib.hid (ST4.out.pastN QX4.out.noInt (Nat.ne_of_lt (Nat.lt_succ_of_lt hRlt.out)) g5)
    have SW5 := Lib.hid (SW4.out.pastN QX4.out.noInt g5)
    have T5 := Lib.hid (Tab.past T4.out QX4.out.noInt g5)
    have G5 : Hid (w.grownBy A5 (some R)) := Lib.hid (by rw [← hA5]; exact grown_new G4.out (Nat.le_succ _) _)
    obtain ⟨x0, x1, x2, xf0, xf1, xf2⟩ := QX4.out.facts
    have hA5' := Lib.hid hA5
    clear g5 hA5 T4 SW4 ST4 QP4 QX4 G4
    go_upto_region 9 with (fail)
    rw [hA5'.out]
    clear x0 x1 x2 xf0 xf1 xf2
    rcases nR_cases (some T) with e1 | ⟨l1, T1, e1⟩
    · rw [e1] at SW5 ST5 ⊢
      obtain rfl : r = ((false, [], []), 5, none) := by rw [← HR.out, r2_bad1 e1]
      dsimp only
      obtain ⟨p0, p1, p2, pf0, pf1, pf2⟩ := QP5.out.facts
      obtain ⟨s0, s1, s2⟩ := Q3.said QP5.out (.bool false) (.slice none 0 0) (.slice none 0 0)
      have FIN := Lib.hid (RPost8.bad (Stp.news ST5.out QP5.out (Nat.ne_of_lt (Nat.lt_of_lt_of_le hRlt.out (Nat.le_refl _))) (.bool false) (.slice none 0 0) (.slice none 0 0)) (grown_news G5.out (Nat.le_refl _) (.bool false) (.slice none 0 0) (.slice none 0 0)))
      go_wp2
      refine bodyPost_ret (v := .tuple #[.agg #[.bool false, .slice none 0 0, .slice none 0 0], .int .i64 5]) (by simp [results, Tryd.results23, go_sem, s0, s1, s2]) rfl ?_
      exact FIN.out
    · have E1 := Lib.hid e1
      rw [e1] at SW5 ST5 ⊢
      clear e1
      dsimp only at ST5 SW5 ⊢
      have hb1 := (nR_ok hbT.out E1.out)
      have BT1 := Lib.hid (show Bytes T1 from by have := hbT.out; rw [hb1.1] at this; exact this.right)
      have LT1 := Lib.hid (show T1.length ≤ 100000 ∧ l1.length ≤ 100000 from by have h1 := HTL.out; have h2 := congrArg List.length hb1.1; rw [List.length_append] at h2; unfold nb at h2; rw [List.length_append, by4_len] at h2; omega)
      have N2 := Lib.hid (nat_g R (some T1) A5 ST5.out (fun L e => by injection e with e; subst e; exact BT1.out) (fun L e => by injection e with e; subst e; exact LT1.out.1))
      clear hb1
      go_wp2_with fail
      refine N2.out.mono ?_
      rintro e w6 ⟨a2, n2', c2, rfl, sw2, nc2, st6, g6⟩
      have QP6 := Lib.hid (QP5.out.past (Nat.ne_of_gt hRlt.out) g6)
      have QX6 := Lib.hid (QX5.out.past (Nat.ne_of_gt (Nat.lt_succ_of_lt hRlt.out)) g6)
      have G6 := Lib.hid (grown_trans G5.out g6)
      have T6 := Lib.hid (Tab.past T5.out ST5.out.noInt g6)
      have SU6 := Lib.hid (SW5.out.pastN ST5.out.noInt g6)
      have SW6 := Lib.hid sw2
      have NC6 := Lib.hid nc2
      have ST6 := Lib.hid st6
      clear sw2 nc2 st6 g6 N2 QP5 QX5 G5 T5 SW5 ST5
      obtain ⟨A7, hA7⟩ : ∃ q, w6.setCell ⟨w.heap.size + 1, 2, none⟩ (.slice a2 n2' c2) = q := ⟨_, rfl⟩
      have QX7 : Hid (Q3 A7 (w.heap.size + 1) (.bool false) (.slice a1 n1' c1) (.slice a2 n2' c2)) := Lib.hid (by rw [← hA7]; exact QX6.out.set2 _)
      have g7 : w6.grownBy A7 (some (w.heap.size + 1)) := by rw [← hA7]; exact grown_set _ _ _ _
      have QP7 : Hid (Q3 A7 w.heap.size (.bool false) (.slice none 0 0) (.slice none 0 0)) := Lib.hid (QP6.out.past (by omega) g7)
      have ST7 := Lib.hid (ST6.out.pastN QX6.out.noInt (Nat.ne_of_lt (Nat.lt_succ_of_lt hRlt.out)) g7)
      have SU7 := Lib.hid (SU6.out.pastN QX6.out.noInt g7)
      have SW7 := Lib.hid (SW6.out.pastN QX6.out.noInt g7)
      have T7 := Lib.hid (Tab.past T6.out QX6.out.noInt g7)
      have G7 : Hid (w.grownBy A7 (some R)) := Lib.hid (by rw [← hA7]; exact grown_new G6.out (Nat.le_succ _) _)
      obtain ⟨x0, x1, x2, xf0, xf1, xf2⟩ := QX6.out.facts
      have hA7' := Lib.hid hA7
      clear g7 hA7 T6 SW6 SU6 ST6 QP6 QX6 G6
      go_upto_region 12 with (fail)
      rw [hA7'.out]
      clear x0 x1 x2 xf0 xf1 xf2
      rcases nR_cases (some T1) with e2 | ⟨l2, T2, e2⟩
      · rw [e2] at SW7 ST7 ⊢
        obtain rfl : r = ((false, [], []), 5, none) := by rw [← HR.out, r2_bad2 E1.out e2]
        dsimp only
        obtain ⟨p0, p1, p2, pf0, pf1, pf2⟩ := QP7.out.facts
        obtain ⟨s0, s1, s2⟩ := Q3.said QP7.out (.bool false) (.slice none 0 0) (.slice none 0 0)
        have FIN := Lib.hid (RPost8.bad (Stp.news ST7.out QP7.out (Nat.ne_of_lt (Nat.lt_of_lt_of_le hRlt.out (Nat.le_refl _))) (.bool false) (.slice none 0 0) (.slice none 0 0)) (grown_news G7.out (Nat.le_refl _) (.bool false) (.slice none 0 0) (.slice none 0 0)))
        go_wp2
        refine bodyPost_ret (v := .tuple #[.agg #[.bool false, .slice none 0 0, .slice none 0 0], .int .i64 5]) (by simp [results, Tryd.results23, go_sem, s0, s1, s2]) rfl ?_
        exact FIN.out
      · have E2 := Lib.hid e2
        rw [e2] at SW7 ST7 ⊢
        clear e2
        dsimp only at ST7 SW7 ⊢
        have er := HR.out
        rw [r2_ok E1.out E2.out] at er
        have hb2 := nR_ok BT1.out E2.out
        have LT2 := Lib.hid (show l2.length ≤ 100000 from by have h1 := LT1.out.1; have h2 := congrArg List.length hb2.1; rw [List.length_append] at h2; unfold nb at h2; rw [List.length_append, by4_len] at h2; omega)
        have VV := qvalid_c (s := false) (k := 1000000) (SU7.out.rd NC4.out) (SW7.out.rd NC6.out) (by unfold nats; rw [List.length_map]; have := LT1.out.2; omega) (by unfold nats; rw [List.length_map]; have := LT2.out; omega) (by omega) T7.out
        obtain ⟨ok, hok⟩ : ∃ q, okQ false (nats l1) (nats l2) = q := ⟨_, rfl⟩
        rw [hok] at VV er
        have V := Lib.hid VV
        obtain ⟨x0, x1, x2, -, -, -⟩ := QX7.out.facts
        clear VV hok hb2
        cases ok with
        | true =>
          rw [if_pos rfl] at er
          subst er
          go_wp2_with fail
          refine V.out.mono ?_
          rintro e w8 ⟨rfl, k8⟩
          have QP8 := Lib.hid (QP7.out.below k8)
          have QX8 := Lib.hid (QX7.out.below k8)
          have g8 := grown_below G7.out k8
          have st8 := ST7.out.below k8
          have su8 := SU7.out.below k8
          have sw8 := SW7.out.below k8
          obtain ⟨x0, x1, x2, -, -, -⟩ := QX8.out.facts
          obtain ⟨p0, p1, p2, pf0, pf1, pf2⟩ := QP8.out.facts
          obtain ⟨s0, s1, s2⟩ := Q3.said QP8.out (.bool false) (.slice a1 n1' c1) (.slice a2 n2' c2)
          have FIN := Lib.hid (show RPost8 63 w R ((false, l1, l2), 0, some T2) (.returned (.tuple #[.agg #[.bool false, .slice a1 n1' c1, .slice a2 n2' c2], .int .i64 0])) _ from ⟨a1, n1', c1, a2, n2', c2, rfl, Slw.news su8 QP8.out (.bool false) (.slice a1 n1' c1) (.slice a2 n2' c2), NC4.out, Slw.news sw8 QP8.out (.bool false) (.slice a1 n1' c1) (.slice a2 n2' c2), NC6.out, Stp.news st8 QP8.out (Nat.ne_of_lt hRlt.out) (.bool false) (.slice a1 n1' c1) (.slice a2 n2' c2), grown_news g8 (Nat.le_refl _) (.bool false) (.slice a1 n1' c1) (.slice a2 n2' c2)⟩)
          clear k8 g8 st8 su8 sw8
          go_wp2
          refine bodyPost_ret (v := .tuple #[.agg #[.bool false, .slice a1 n1' c1, .slice a2 n2' c2], .int .i64 0]) (by simp [results, Tryd.results23, go_sem, s0, s1, s2]) rfl ?_
          exact FIN.out
        | false =>
          rw [if_neg (by decide)] at er
          subst er
          go_wp2_with fail
          refine V.out.mono ?_
          rintro e w8 ⟨rfl, k8⟩
          have QP8 := Lib.hid (QP7.out.below k8)
          have G8 := Lib.hid (grown_below G7.out k8)
          have ST8 := Lib.hid (ST7.out.below k8)
          have FL := Lib.hid (fail_g R T2 w8 ST8.out)
          clear k8
          go_wp2_with fail
          refine FL.out.mono ?_
          rintro e w9 ⟨rfl, st9, g9⟩
          have QP9 := Lib.hid (QP8.out.past (Nat.ne_of_gt hRlt.out) g9)
          have G9 := Lib.hid (grown_trans G8.out g9)
          have ST9 := Lib.hid st9
          clear st9 g9 FL
          obtain ⟨p0, p1, p2, pf0, pf1, pf2⟩ := QP9.out.facts
          obtain ⟨s0, s1, s2⟩ := Q3.said QP9.out (.bool false) (.slice none 0 0) (.slice none 0 0)
          have FIN := Lib.hid (RPost8.bad (Stp.news ST9.out QP9.out (Nat.ne_of_lt (Nat.lt_of_lt_of_le hRlt.out (Nat.le_refl _))) (.bool false) (.slice none 0 0) (.slice none 0 0)) (grown_news G9.out (Nat.le_refl _) (.bool false) (.slice none 0 0) (.slice none 0 0)))
          go_wp2
          refine bodyPost_ret (v := .tuple #[.agg #[.bool false, .slice none 0 0, .slice none 0 0], .int .i64 5]) (by simp [results, Tryd.results23, go_sem, s0, s1, s2]) rfl ?_
          exact FIN.out

set_option maxHeartbeats 8000000 in
set_option maxRecDepth 100000 in
theorem rat_r2_1 (R : Nat) (T : List Int) (w : World) (h : St 63 w R (some (1 :: T))) (hby : Bytes (1 :: T)) (hlen : T.length + 1 ≤ 100000) (hT : Tab w) :
    Calls Tryd.prog 23 #[.pointer (some ⟨R, 0, none⟩)] w (RPost8 63 w R (r2 true T)) := by
  obtain ⟨r, hr⟩ : ∃ r, r2 true T = r := ⟨_, rfl⟩
  rw [hr]
  have HR := Lib.hid hr
  clear hr
  have hRlt := Lib.hid h.lt
  have hbT := Lib.hid hby.tail
  have NOR := Lib.hid h.noInt
  have TB := Lib.hid hT
  obtain ⟨a, c, h1, h2, h3⟩ := h
  have hTl : T.length ≤ 100000 := by omega
  have HTL := Lib.hid hTl
  rw [List.length_cons] at h1 h2 h3
  obtain ⟨n, hn⟩ : ∃ n, T.length + 1 = n := ⟨_, rfl⟩
  rw [hn] at h1 h2 h3
  obtain ⟨b, off, ea, hb, hcs⟩ := h2.at (by omega)
  subst ea
  have HNE := Lib.hid (h3 b off rfl (by omega))
  have H1 := Lib.hid h1
  have H2 := Lib.hid h2
  have hnc := h2.2.1
  have hc63 := h2.2.2.1
  have n1 : (0 : Int) < (n : Int) := by omega
  have n2 : (1 : Int) ≤ (n : Int) := by omega
  have n3 : ¬ ((n : Int) = 0) := by omega
  have n4 : (1 : Int) ≤ (c : Int) := by omega
  have HN := Lib.hid hn
  obtain ⟨A1, hA1⟩ : ∃ q, w.alloc (.cells #[.bool false, .slice none 0 0, .slice none 0 0] 37) = q := ⟨_, rfl⟩
  have B1 : Hid (Below w.heap.size w A1) := Lib.hid (by rw [← hA1]; exact Below.newBlock _)
  have z1 : A1.heap.size = w.heap.size + 1 := by rw [← hA1]; simp
  have QP1 : Hid (Q3 A1 w.heap.size (.bool false) (.slice none 0 0) (.slice none 0 0)) := Lib.hid (by rw [← hA1]; exact Q3.new w _ _ _)
  obtain ⟨A2, hA2⟩ : ∃ q, A1.alloc (.cells #[.bool true, .slice none 0 0, .slice none 0 0] 37) = q := ⟨_, rfl⟩
  have QX2 : Hid (Q3 A2 (w.heap.size + 1) (.bool true) (.slice none 0 0) (.slice none 0 0)) := Lib.hid (by
    rw [← hA2, ← z1]; exact Q3.new A1 _ _ _)
  have B2 : Hid (Below (w.heap.size + 1) A1 A2) := Lib.hid (by
    rw [← hA2, ← z1]
    exact Below.newBlock (w := A1) _)
  have B2w : Hid (Below w.heap.size w A2) := Lib.hid (B1.out.trans (B2.out.mono (by omega)))
  have QP2 : Hid (Q3 A2 w.heap.size (.bool false) (.slice none 0 0) (.slice none 0 0)) := Lib.hid (QP1.out.below (by rw [z1]; exact B2.out))
  have kq : A1.cell? ⟨R, 0, none⟩ = some (.slice (some ⟨b, off, none⟩) n c) := by rw [B1.out.cell (p := ⟨R, 0, none⟩) hRlt.out]; exact cell_of_row w R 0 _ 63 (0, 0) h1
  have kf : A1.cell? ⟨R, 1, none⟩ = some (.bool false) := by rw [B1.out.cell (p := ⟨R, 1, none⟩) hRlt.out]; exact cell_of_row w R 1 _ 63 (0, 0) h1
  have kx : A1.cell? ⟨b, off, none⟩ = some (.int .u8 1) := by rw [B1.out.cell (p := ⟨b, off, none⟩) hb]; exact hcs 0 (by omega)
  have G2 : Hid (w.grownBy A2 (some R)) := Lib.hid (grown_below (grown_refl w R) B2w.out)
  have H1b : Hid (A2.heap[R]? = some (.cells #[.slice (some ⟨b, off, none⟩) n c, .bool false] 63 (0, 0))) := Lib.hid ((B2w.out.block R hRlt.out).trans h1)
  have H2b := Lib.hid (H2.out.below B2w.out)
  have TB2 := Lib.hid (hT.below B2w.out)
  have kr := cell_of_row A2 R 0 _ 63 (0, 0) H1b.out
  change A2.cell? ⟨R, 0, none⟩ = some (.slice (some ⟨b, off, none⟩) n c) at kr
  have fr := frozen_of_row A2 R 0 _ 63 H1b.out
  have hA1' := Lib.hid hA1
  have hA2' := Lib.hid hA2
  have z1' := Lib.hid z1
  clear h1 h2 h3 hcs hb hn hA1 hA2 hby hT hTl hlen z1
  go_enter Tryd.func23, Tryd.ntmps23
  go_upto_region 1 with (fail)
  rw [hA1'.out]
  have z1 := z1'.out
  go_upto_region 6 with (fail)
  rw [hA2'.out]
  clear kq kf kx z1
  have key : ∀ A3, St 63 A3 R (some T) → A2.grownBy A3 (some R) → Hid (Q3 A3 w.heap.size (.bool false) (.slice none 0 0) (.slice none 0 0) ∧ Q3 A3 (w.heap.size + 1) (.bool true) (.slice none 0 0) (.slice none 0 0) ∧ w.grownBy A3 (some R) ∧ Tab A3 ∧ Calls Tryd.prog 22 #[.pointer (some ⟨R, 0, none⟩)] A3 (NPost 63 A3 R (nR (some T)))) := fun A3 hs hg =>
    Lib.hid ⟨QP2.out.past (Nat.ne_of_gt hRlt.out) hg, QX2.out.past (Nat.ne_of_gt (Nat.lt_succ_of_lt hRlt.out)) hg, grown_trans G2.out hg, Tab.past TB2.out (by have h : St 63 A2 R (some (1 :: T)) := ⟨some ⟨b, off, none⟩, c, by rw [List.length_cons, HN.out]; exact H1b.out, by rw [List.length_cons, HN.out]; exact H2b.out, fun b' off' e _ => by injection e with e; injection e with e1 e2; subst e1; exact HNE.out⟩; exact h.noInt) hg, nat_g R (some T) A3 hs (fun L e => by injection e with e; subst e; exact hbT.out) (fun L e => by injection e with e; subst e; exact HTL.out)⟩
  have KEY := Lib.hid key
  clear key
  by_cases hc1 : c = 1
  · have hc1i : (c : Int) = 1 := by omega
    have ST3 := Lib.hid (st_tail1 H1b.out H2b.out HN.out HNE.out hc1)
    go_wp2_with fail
    have KK := KEY.out _ ST3.out (grown_set _ _ _ _)
    have S3 := ST3
    clear KEY ST3
    refine KK.out.2.2.2.2.mono ?_
    rintro e w4 ⟨a1, n1', c1, rfl, sw1, nc1, st4, g4⟩
    have QP4 := Lib.hid (KK.out.1.past (Nat.ne_of_gt hRlt.out) g4)
    have QX4 := Lib.hid (KK.out.2.1.past (Nat.ne_of_gt (Nat.lt_succ_of_lt hRlt.out)) g4)
    have G4 := Lib.hid (grown_trans KK.out.2.2.1 g4)
    have T4 := Lib.hid (Tab.past KK.out.2.2.2.1 S3.out.noInt g4)
    have SW4 := Lib.hid sw1
    have NC4 := Lib.hid nc1
    have ST4 := Lib.hid st4
    clear sw1 nc1 st4 g4 KK S3 kr fr
    obtain ⟨A5, hA5⟩ : ∃ q, w4.setCell ⟨w.heap.size + 1, 1, none⟩ (.slice a1 n1' c1) = q := ⟨_, rfl⟩
    have QX5 : Hid (Q3 A5 (w.heap.size + 1) (.bool true) (.slice a1 n1' c1) (.slice none 0 0)) := Lib.hid (by rw [← hA5]; exact QX4.out.set1 _)
    have g5 : w4.grownBy A5 (some (w.heap.size + 1)) := by rw [← hA5]; exact grown_set _ _ _ _
    have QP5 : Hid (Q3 A5 w.heap.size (.bool false) (.slice none 0 0) (.slice none 0 0)) := Lib.hid (QP4.out.past (by omega) g5)
    have ST5 := Lib.hid (ST4.out.pastN QX4.out.noInt (Nat.ne_of_lt (Nat.lt_succ_of_lt hRlt.out)) g5)
    have SW5 := Lib.hid (SW4.out.pastN QX4.out.noInt g5)
    have T5 := Lib.hid (Tab.past T4.out QX4.out.noInt g5)
    have G5 : Hid (w.grownBy A5 (some R)) := Lib.hid (by rw [← hA5]; exact grown_new G4.out (Nat.le_succ _) _)
    obtain ⟨x0, x1, x2, xf0, xf1, xf2⟩ := QX4.out.facts
    have hA5' := Lib.hid hA5
    clear g5 hA5 T4 SW4 ST4 QP4 QX4 G4
    go_upto_region 9 with (fail)
    rw [hA5'.out]
    clear x0 x1 x2 xf0 xf1 xf2
    rcases nR_cases (some T) with e1 | ⟨l1, T1, e1⟩
    · rw [e1] at SW5 ST5 ⊢
      obtain rfl : r = ((false, [], []), 5, none) := by rw [← HR.out, r2_bad1 e1]
      dsimp only
      obtain ⟨p0, p1, p2, pf0, pf1, pf2⟩ := QP5.out.facts
      obtain ⟨s0, s1, s2⟩ := Q3.said QP5.out (.bool false) (.slice none 0 0) (.slice none 0 0)
      have FIN := Lib.hid (RPost8.bad (Stp.news ST5.out QP5.out (Nat.ne_of_lt (Nat.lt_of_lt_of_le hRlt.out (Nat.le_refl _))) (.bool false) (.slice none 0 0) (.slice none 0 0)) (grown_news G5.out (Nat.le_refl _) (.bool false) (.slice none 0 0) (.slice none 0 0)))
      go_wp2
      refine bodyPost_ret (v := .tuple #[.agg #[.bool false, .slice none 0 0, .slice none 0 0], .int .i64 5]) (by simp [results, Tryd.results23, go_sem, s0, s1, s2]) rfl ?_
      exact FIN.out
    · have E1 := Lib.hid e1
      rw [e1] at SW5 ST5 ⊢
      clear e1
      dsimp only at ST5 SW5 ⊢
      have hb1 := (nR_ok hbT.out E1.out)
      have BT1 := Lib.hid (show Bytes T1 from by have := hbT.out; rw [hb1.1] at this; exact this.right)
      have LT1 := Lib.hid (show T1.length ≤ 100000 ∧ l1.length ≤ 100000 from by have h1 := HTL.out; have h2 := congrArg List.length hb1.1; rw [List.length_append] at h2; unfold nb at h2; rw [List.length_append, by4_len] at h2; omega)
      have N2 := Lib.hid (nat_g R (some T1) A5 ST5.out (fun L e => by injection e with e; subst e; exact BT1.out) (fun L e => by injection e with e; subst e; exact LT1.out.1))
      clear hb1
      go_wp2_with fail
      refine N2.out.mono ?_
      rintro e w6 ⟨a2, n2', c2, rfl, sw2, nc2, st6, g6⟩
      have QP6 := Lib.hid (QP5.out.past (Nat.ne_of_gt hRlt.out) g6)
      have QX6 := Lib.hid (QX5.out.past (Nat.ne_of_gt (Nat.lt_succ_of_lt hRlt.out)) g6)
      have G6 := Lib.hid (grown_trans G5.out g6)
      have T6 := Lib.hid (Tab.past T5.out ST5.out.noInt g6)
      have SU6 := Lib.hid (SW5.out.pastN ST5.out.noInt g6)
      have SW6 := Lib.hid sw2
      have NC6 := Lib.hid nc2
      have ST6 := Lib.hid st6
      clear sw2 nc2 st6 g6 N2 QP5 QX5 G5 T5 SW5 ST5
      obtain ⟨A7, hA7⟩ : ∃ q, w6.setCell ⟨w.heap.size + 1, 2, none⟩ (.slice a2 n2' c2) = q := ⟨_, rfl⟩
      have QX7 : Hid (Q3 A7 (w.heap.size + 1) (.bool true) (.slice a1 n1' c1) (.slice a2 n2' c2)) := Lib.hid (by rw [← hA7]; exact QX6.out.set2 _)
      have g7 : w6.grownBy A7 (some (w.heap.size + 1)) := by rw [← hA7]; exact grown_set _ _ _ _
      have QP7 : Hid (Q3 A7 w.heap.size (.bool false) (.slice none 0 0) (.slice none 0 0)) := Lib.hid (QP6.out.past (by omega) g7)
      have ST7 := Lib.hid (ST6.out.pastN QX6.out.noInt (Nat.ne_of_lt (Nat.lt_succ_of_lt hRlt.out)) g7)
      have SU7 := Lib.hid (SU6.out.pastN QX6.out.noInt g7)
      have SW7 := Lib.hid (SW6.out.pastN QX6.out.noInt g7)
      have T7 := Lib.hid (Tab.past T6.out QX6.out.noInt g7)
      have G7 : Hid (w.grownBy A7 (some R)) := Lib.hid (by rw [← hA7]; exact grown_new G6.out (Nat.le_succ _) _)
      obtain ⟨x0, x1, x2, xf0, xf1, xf2⟩ := QX6.out.facts
      have hA7' := Lib.hid hA7
      clear g7 hA7 T6 SW6 SU6 ST6 QP6 QX6 G6
      go_upto_region 12 with (fail)
      rw [hA7'.out]
      clear x0 x1 x2 xf0 xf1 xf2
      rcases nR_cases (some T1) with e2 | ⟨l2, T2, e2⟩
      · rw [e2] at SW7 ST7 ⊢
        obtain rfl : r = ((false, [], []), 5, none) := by rw [← HR.out, r2_bad2 E1.out e2]
        dsimp only
        obtain ⟨p0, p1, p2, pf0, pf1, pf2⟩ := QP7.out.facts
        obtain ⟨s0, s1, s2⟩ := Q3.said QP7.out (.bool false) (.slice none 0 0) (.slice none 0 0)
        have FIN := Lib.hid (RPost8.bad (Stp.news ST7.out QP7.out (Nat.ne_of_lt (Nat.lt_of_lt_of_le hRlt.out (Nat.le_refl _))) (.bool false) (.slice none 0 0) (.slice none 0 0)) (grown_news G7.out (Nat.le_refl _) (.bool false) (.slice none 0 0) (.slice none 0 0)))
        go_wp2
        refine bodyPost_ret (v := .tuple #[.agg #[.bool false, .slice none 0 0, .slice none 0 0], .int .i64 5]) (by simp [results, Tryd.results23, go_sem, s0, s1, s2]) rfl ?_
        exact FIN.out
      · have E2 := Lib.hid e2
        rw [e2] at SW7 ST7 ⊢
        clear e2
        dsimp only at ST7 SW7 ⊢
        have er := HR.out
        rw [r2_ok E1.out E2.out] at er
        have hb2 := nR_ok BT1.out E2.out
        have LT2 := Lib.hid (show l2.length ≤ 100000 from by have h1 := LT1.out.1; have h2 := congrArg List.length hb2.1; rw [List.length_append] at h2; unfold nb at h2; rw [List.length_append, by4_len] at h2; omega)
        have VV := qvalid_c (s := true) (k := 1000000) (SU7.out.rd NC4.out) (SW7.out.rd NC6.out) (by unfold nats; rw [List.length_map]; have := LT1.out.2; omega) (by unfold nats; rw [List.length_map]; have := LT2.out; omega) (by omega) T7.out
        obtain ⟨ok, hok⟩ : ∃ q, okQ true (nats l1) (nats l2) = q := ⟨_, rfl⟩
        rw [hok] at VV er
        have V := Lib.hid VV
        obtain ⟨x0, x1, x2, -, -, -⟩ := QX7.out.facts
        clear VV hok hb2
        cases ok with
        | true =>
          rw [if_pos rfl] at er
          subst er
          go_wp2_with fail
          refine V.out.mono ?_
          rintro e w8 ⟨rfl, k8⟩
          have QP8 := Lib.hid (QP7.out.below k8)
          have QX8 := Lib.hid (QX7.out.below k8)
          have g8 := grown_below G7.out k8
          have st8 := ST7.out.below k8
          have su8 := SU7.out.below k8
          have sw8 := SW7.out.below k8
          obtain ⟨x0, x1, x2, -, -, -⟩ := QX8.out.facts
          obtain ⟨p0, p1, p2, pf0, pf1, pf2⟩ := QP8.out.facts
          obtain ⟨s0, s1, s2⟩ := Q3.said QP8.out (.bool true) (.slice a1 n1' c1) (.slice a2 n2' c2)
          have FIN := Lib.hid (show RPost8 63 w R ((true, l1, l2), 0, some T2) (.returned (.tuple #[.agg #[.bool true, .slice a1 n1' c1, .slice a2 n2' c2], .int .i64 0])) _ from ⟨a1, n1', c1, a2, n2', c2, rfl, Slw.news su8 QP8.out (.bool true) (.slice a1 n1' c1) (.slice a2 n2' c2), NC4.out, Slw.news sw8 QP8.out (.bool true) (.slice a1 n1' c1) (.slice a2 n2' c2), NC6.out, Stp.news st8 QP8.out (Nat.ne_of_lt hRlt.out) (.bool true) (.slice a1 n1' c1) (.slice a2 n2' c2), grown_news g8 (Nat.le_refl _) (.bool true) (.slice a1 n1' c1) (.slice a2 n2' c2)⟩)
          clear k8 g8 st8 su8 sw8
          go_wp2
          refine bodyPost_ret (v := .tuple #[.agg #[.bool true, .slice a1 n1' c1, .slice a2 n2' c2], .int .i64 0]) (by simp [results, Tryd.results23, go_sem, s0, s1, s2]) rfl ?_
          exact FIN.out
        | false =>
          rw [if_neg (by decide)] at er
          subst er
          go_wp2_with fail
          refine V.out.mono ?_
          rintro e w8 ⟨rfl, k8⟩
          have QP8 := Lib.hid (QP7.out.below k8)
          have G8 := Lib.hid (grown_below G7.out k8)
          have ST8 := Lib.hid (ST7.out.below k8)
          have FL := Lib.hid (fail_g R T2 w8 ST8.out)
          clear k8
          go_wp2_with fail
          refine FL.out.mono ?_
          rintro e w9 ⟨rfl, st9, g9⟩
          have QP9 := Lib.hid (QP8.out.past (Nat.ne_of_gt hRlt.out) g9)
          have G9 := Lib.hid (grown_trans G8.out g9)
          have ST9 := Lib.hid st9
          clear st9 g9 FL
          obtain ⟨p0, p1, p2, pf0, pf1, pf2⟩ := QP9.out.facts
          obtain ⟨s0, s1, s2⟩ := Q3.said QP9.out (.bool false) (.slice none 0 0) (.slice none 0 0)
          have FIN := Lib.hid (RPost8.bad (Stp.news ST9.out QP9.out (Nat.ne_of_lt (Nat.lt_of_lt_of_le hRlt.out (Nat.le_refl _))) (.bool false) (.slice none 0 0) (.slice none 0 0)) (grown_news G9.out (Nat.le_refl _) (.bool false) (.slice none 0 0) (.slice none 0 0)))
          go_wp2
          refine bodyPost_ret (v := .tuple #[.agg #[.bool false, .slice none 0 0, .slice none 0 0], .int .i64 5]) (by simp [results, Tryd.results23, go_sem, s0, s1, s2]) rfl ?_
          exact FIN.out
  · have hc1i : ¬ ((c : Int) = 1) := by omega
    have ST3 := Lib.hid (st_tail2 H1b.out H2b.out HN.out HNE.out)
    go_wp2_with fail
    have KK := KEY.out _ ST3.out (grown_set _ _ _ _)
    have S3 := ST3
    clear KEY ST3
    refine KK.out.2.2.2.2.mono ?_
    rintro e w4 ⟨a1, n1', c1, rfl, sw1, nc1, st4, g4⟩
    have QP4 := Lib.hid (KK.out.1.past (Nat.ne_of_gt hRlt.out) g4)
    have QX4 := Lib.hid (KK.out.2.1.past (Nat.ne_of_gt (Nat.lt_succ_of_lt hRlt.out)) g4)
    have G4 := Lib.hid (grown_trans KK.out.2.2.1 g4)
    have T4 := Lib.hid (Tab.past KK.out.2.2.2.1 S3.out.noInt g4)
    have SW4 := Lib.hid sw1
    have NC4 := Lib.hid nc1
    have ST4 := Lib.hid st4
    clear sw1 nc1 st4 g4 KK S3 kr fr
    obtain ⟨A5, hA5⟩ : ∃ q, w4.setCell ⟨w.heap.size + 1, 1, none⟩ (.slice a1 n1' c1) = q := ⟨_, rfl⟩
    have QX5 : Hid (Q3 A5 (w.heap.size + 1) (.bool true) (.slice a1 n1' c1) (.slice none 0 0)) := Lib.hid (by rw [← hA5]; exact QX4.out.set1 _)
    have g5 : w4.grownBy A5 (some (w.heap.size + 1)) := by rw [← hA5]; exact grown_set _ _ _ _
    have QP5 : Hid (Q3 A5 w.heap.size (.bool false) (.slice none 0 0) (.slice none 0 0)) := Lib.hid (QP4.out.past (by omega) g5)
    have ST5 := Lib.hid (ST4.out.pastN QX4.out.noInt (Nat.ne_of_lt (Nat.lt_succ_of_lt hRlt.out)) g5)
    have SW5 := Lib.hid (SW4.out.pastN QX4.out.noInt g5)
    have T5 := Lib.hid (Tab.past T4.out QX4.out.noInt g5)
    have G5 : Hid (w.grownBy A5 (some R)) := Lib.hid (by rw [← hA5]; exact grown_new G4.out (Nat.le_succ _) _)
    obtain ⟨x0, x1, x2, xf0, xf1, xf2⟩ := QX4.out.facts
    have hA5' := Lib.hid hA5
    clear g5 hA5 T4 SW4 ST4 QP4 QX4 G4
    go_upto_region 9 with (fail)
    rw [hA5'.out]
    clear x0 x1 x2 xf0 xf1 xf2
    rcases nR_cases (some T) with e1 | ⟨l1, T1, e1⟩
    · rw [e1] at SW5 ST5 ⊢
      obtain rfl : r = ((false, [], []), 5, none) := by rw [← HR.out, r2_bad1 e1]
      dsimp only
      obtain ⟨p0, p1, p2, pf0, pf1, pf2⟩ := QP5.out.facts
      obtain ⟨s0, s1, s2⟩ := Q3.said QP5.out (.bool false) (.slice none 0 0) (.slice none 0 0)
      have FIN := Lib.hid (RPost8.bad (Stp.news ST5.out QP5.out (Nat.ne_of_lt (Nat.lt_of_lt_of_le hRlt.out (Nat.le_refl _))) (.bool false) (.slice none 0 0) (.slice none 0 0)) (grown_news G5.out (Nat.le_refl _) (.bool false) (.slice none 0 0) (.slice none 0 0)))
      go_wp2
      refine bodyPost_ret (v := .tuple #[.agg #[.bool false, .slice none 0 0, .slice none 0 0], .int .i64 5]) (by simp [results, Tryd.results23, go_sem, s0, s1, s2]) rfl ?_
      exact FIN.out
    · have E1 := Lib.hid e1
      rw [e1] at SW5 ST5 ⊢
      clear e1
      dsimp only at ST5 SW5 ⊢
      have hb1 := (nR_ok hbT.out E1.out)
      have BT1 := Lib.hid (show Bytes T1 from by have := hbT.out; rw [hb1.1] at this; exact this.right)
      have LT1 := Lib.hid (show T1.length ≤ 100000 ∧ l1.length ≤ 100000 from by have h1 := HTL.out; have h2 := congrArg List.length hb1.1; rw [List.length_append] at h2; unfold nb at h2; rw [List.length_append, by4_len] at h2; omega)
      have N2 := Lib.hid (nat_g R (some T1) A5 ST5.out (fun L e => by injection e with e; subst e; exact BT1.out) (fun L e => by injection e with e; subst e; exact LT1.out.1))
      clear hb1
      go_wp2_with fail
      refine N2.out.mono ?_
      rintro e w6 ⟨a2, n2', c2, rfl, sw2, nc2, st6, g6⟩
      have QP6 := Lib.hid (QP5.out.past (Nat.ne_of_gt hRlt.out) g6)
      have QX6 := Lib.hid (QX5.out.past (Nat.ne_of_gt (Nat.lt_succ_of_lt hRlt.out)) g6)
      have G6 := Lib.hid (grown_trans G5.out g6)
      have T6 := Lib.hid (Tab.past T5.out ST5.out.noInt g6)
      have SU6 := Lib.hid (SW5.out.pastN ST5.out.noInt g6)
      have SW6 := Lib.hid sw2
      have NC6 := Lib.hid nc2
      have ST6 := Lib.hid st6
      clear sw2 nc2 st6 g6 N2 QP5 QX5 G5 T5 SW5 ST5
      obtain ⟨A7, hA7⟩ : ∃ q, w6.setCell ⟨w.heap.size + 1, 2, none⟩ (.slice a2 n2' c2) = q := ⟨_, rfl⟩
      have QX7 : Hid (Q3 A7 (w.heap.size + 1) (.bool true) (.slice a1 n1' c1) (.slice a2 n2' c2)) := Lib.hid (by rw [← hA7]; exact QX6.out.set2 _)
      have g7 : w6.grownBy A7 (some (w.heap.size + 1)) := by rw [← hA7]; exact grown_set _ _ _ _
      have QP7 : Hid (Q3 A7 w.heap.size (.bool false) (.slice none 0 0) (.slice none 0 0)) := Lib.hid (QP6.out.past (by omega) g7)
      have ST7 := Lib.hid (ST6.out.pastN QX6.out.noInt (Nat.ne_of_lt (Nat.lt_succ_of_lt hRlt.out)) g7)
      have SU7 := Lib.hid (SU6.out.pastN QX6.out.noInt g7)
      have SW7 := Lib.hid (SW6.out.pastN QX6.out.noInt g7)
      have T7 := Lib.hid (Tab.past T6.out QX6.out.noInt g7)
      have G7 : Hid (w.grownBy A7 (some R)) := Lib.hid (by rw [← hA7]; exact grown_new G6.out (Nat.le_succ _) _)
      obtain ⟨x0, x1, x2, xf0, xf1, xf2⟩ := QX6.out.facts
      have hA7' := Lib.hid hA7
      clear g7 hA7 T6 SW6 SU6 ST6 QP6 QX6 G6
      go_upto_region 12 with (fail)
      rw [hA7'.out]
      clear x0 x1 x2 xf0 xf1 xf2
      rcases nR_cases (some T1) with e2 | ⟨l2, T2, e2⟩
      · rw [e2] at SW7 ST7 ⊢
        obtain rfl : r = ((false, [], []), 5, none) := by rw [← HR.out, r2_bad2 E1.out e2]
        dsimp only
        obtain ⟨p0, p1, p2, pf0, pf1, pf2⟩ := QP7.out.facts
        obtain ⟨s0, s1, s2⟩ := Q3.said QP7.out (.bool false) (.slice none 0 0) (.slice none 0 0)
        have FIN := Lib.hid (RPost8.bad (Stp.news ST7.out QP7.out (Nat.ne_of_lt (Nat.lt_of_lt_of_le hRlt.out (Nat.le_refl _))) (.bool false) (.slice none 0 0) (.slice none 0 0)) (grown_news G7.out (Nat.le_refl _) (.bool false) (.slice none 0 0) (.slice none 0 0)))
        go_wp2
        refine bodyPost_ret (v := .tuple #[.agg #[.bool false, .slice none 0 0, .slice none 0 0], .int .i64 5]) (by simp [results, Tryd.results23, go_sem, s0, s1, s2]) rfl ?_
        exact FIN.out
      · have E2 := Lib.hid e2
        rw [e2] at SW7 ST7 ⊢
        clear e2
        dsimp only at ST7 SW7 ⊢
        have er := HR.out
        rw [r2_ok E1.out E2.out] at er
        have hb2 := nR_ok BT1.out E2.out
        have LT2 := Lib.hid (show l2.length ≤ 100000 from by have h1 := LT1.out.1; have h2 := congrArg List.length hb2.1; rw [List.length_append] at h2; unfold nb at h2; rw [List.length_append, by4_len] at h2; omega)
        have VV := qvalid_c (s := true) (k := 1000000) (SU7.out.rd NC4.out) (SW7.out.rd NC6.out) (by unfold nats; rw [List.length_map]; have := LT1.out.2; omega) (by unfold nats; rw [List.length_map]; have := LT2.out; omega) (by omega) T7.out
        obtain ⟨ok, hok⟩ : ∃ q, okQ true (nats l1) (nats l2) = q := ⟨_, rfl⟩
        rw [hok] at VV er
        have V := Lib.hid VV
        obtain ⟨x0, x1, x2, -, -, -⟩ := QX7.out.facts
        clear VV hok hb2
        cases ok with
        | true =>
          rw [if_pos rfl] at er
          subst er
          go_wp2_with fail
          refine V.out.mono ?_
          rintro e w8 ⟨rfl, k8⟩
          have QP8 := Lib.hid (QP7.out.below k8)
          have QX8 := Lib.hid (QX7.out.below k8)
          have g8 := grown_below G7.out k8
          have st8 := ST7.out.below k8
          have su8 := SU7.out.below k8
          have sw8 := SW7.out.below k8
          obtain ⟨x0, x1, x2, -, -, -⟩ := QX8.out.facts
          obtain ⟨p0, p1, p2, pf0, pf1, pf2⟩ := QP8.out.facts
          obtain ⟨s0, s1, s2⟩ := Q3.said QP8.out (.bool true) (.slice a1 n1' c1) (.slice a2 n2' c2)
          have FIN := Lib.hid (show RPost8 63 w R ((true, l1, l2), 0, some T2) (.returned (.tuple #[.agg #[.bool true, .slice a1 n1' c1, .slice a2 n2' c2], .int .i64 0])) _ from ⟨a1, n1', c1, a2, n2', c2, rfl, Slw.news su8 QP8.out (.bool true) (.slice a1 n1' c1) (.slice a2 n2' c2), NC4.out, Slw.news sw8 QP8.out (.bool true) (.slice a1 n1' c1) (.slice a2 n2' c2), NC6.out, Stp.news st8 QP8.out (Nat.ne_of_lt hRlt.out) (.bool true) (.slice a1 n1' c1) (.slice a2 n2' c2), grown_news g8 (Nat.le_refl _) (.bool true) (.slice a1 n1' c1) (.slice a2 n2' c2)⟩)
          clear k8 g8 st8 su8 sw8
          go_wp2
          refine bodyPost_ret (v := .tuple #[.agg #[.bool true, .slice a1 n1' c1, .slice a2 n2' c2], .int .i64 0]) (by simp [results, Tryd.results23, go_sem, s0, s1, s2]) rfl ?_
          exact FIN.out
        | false =>
          rw [if_neg (by decide)] at er
          subst er
          go_wp2_with fail
          refine V.out.mono ?_
          rintro e w8 ⟨rfl, k8⟩
          have QP8 := Lib.hid (QP7.out.below k8)
          have G8 := Lib.hid (grown_below G7.out k8)
          have ST8 := Lib.hid (ST7.out.below k8)
          have FL := Lib.hid (fail_g R T2 w8 ST8.out)
          clear k8
          go_wp2_with fail
          refine FL.out.mono ?_
          rintro e w9 ⟨rfl, st9, g9⟩
          have QP9 := Lib.hid (QP8.out.past (Nat.ne_of_gt hRlt.out) g9)
          have G9 := Lib.hid (grown_trans G8.out g9)
          have ST9 := Lib.hid st9
          clear st9 g9 FL
          obtain ⟨p0, p1, p2, pf0, pf1, pf2⟩ := QP9.out.facts
          obtain ⟨s0, s1, s2⟩ := Q3.said QP9.out (.bool false) (.slice none 0 0) (.slice none 0 0)
          have FIN := Lib.hid (RPost8.bad (Stp.news ST9.out QP9.out (Nat.ne_of_lt (Nat.lt_of_lt_of_le hRlt.out (Nat.le_refl _))) (.bool false) (.slice none 0 0) (.slice none 0 0)) (grown_news G9.out (Nat.le_refl _) (.bool false) (.slice none 0 0) (.slice none 0 0)))
          go_wp2
          refine bodyPost_ret (v := .tuple #[.agg #[.bool false, .slice none 0 0, .slice none 0 0], .int .i64 5]) (by simp [results, Tryd.results23, go_sem, s0, s1, s2]) rfl ?_
          exact FIN.out

theorem rat_g (R : Nat) (s : Option (List Int)) (w : World) (h : St 63 w R s) (hby : ∀ L, s = some L → Bytes L) (hlen : ∀ L, s = some L → L.length ≤ 100000) (hT : Tab w) :
    Calls Tryd.prog 23 #[.pointer (some ⟨R, 0, none⟩)] w (RPost8 63 w R (rR s)) := by
  cases s with
  | none => exact rat_none R w h
  | some L =>
    cases L with
    | nil => exact rat_nil R w h
    | cons x T =>
      have hb := hby _ rfl
      have hl := hlen _ rfl
      rw [List.length_cons] at hl
      by_cases hx : 1 < x
      · unfold rR
        dsimp only
        rw [if_pos hx]
        exact rat_sign R x T w h hx
      · unfold rR
        dsimp only
        rw [if_neg hx]
        have h0 := hb x (by simp)
        have h01 : x = 0 ∨ x = 1 := by omega
        rcases h01 with rfl | rfl
        · exact rat_r2_0 R T w h hb hl hT
        · exact rat_r2_1 R T w h hb hl hT

end Go.Proofs.YtcdkehghdhcokaaDoor.wr
