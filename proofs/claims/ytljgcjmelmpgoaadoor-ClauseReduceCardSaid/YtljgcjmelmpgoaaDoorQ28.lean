/- Resolve. -/
import Derived.Test.YtljgcjmelmpgoaaDoorQ27
import Derived.Test.YtljgcjmelmpgoaaDoorQ23
namespace Go.Proofs.YtljgcjmelmpgoaaDoor
open Go.RowKit
set_option linter.unusedVariables false

theorem vldFrom_len : ∀ {L : List Lt} {l : Int}, vldFrom l L = true → l ≤ 1023 → (L.length : Int) + l ≤ 1023
  | [], l, _, h => by simp; omega
  | (u, o) :: r, l, h, hl => by
    have h' : (decide (l < u) && decide (u < 1024) && vldFrom u r) = true := h
    simp only [Bool.and_eq_true, decide_eq_true_eq] at h'
    have ih := vldFrom_len h'.2 (by omega)
    simp only [List.length_cons]
    omega
theorem vld_len {L : List Lt} (h : vld L = true) : L.length ≤ 1024 := by
  have := vldFrom_len (l := -1) h (by omega)
  omega
/-- two clauses say the opposite of a unit -/
def clash (A B : List Lt) (x : Int) : Bool := decide (((x, true) ∈ A ∧ (x, false) ∈ B) ∨ ((x, false) ∈ A ∧ (x, true) ∈ B))
/-- the answer's number -/
def rcode (A B : List Lt) (x : Int) : Int := if (vld A && vld B && clash A B x) = true then (if vld (made (but x (A ++ B))) = true then 0 else 10) else 1
def rlist (A B : List Lt) (x : Int) : List Lt := if (vld A && vld B && clash A B x) = true then (if vld (made (but x (A ++ B))) = true then made (but x (A ++ B)) else []) else []
def ResSays (w : World) (A B : List Lt) (x : Int) (e : Ending) (w' : World) : Prop :=
  ∃ v, e = .returned (.tuple #[v, .int .i64 (rcode A B x)]) ∧ OwnL w' w.heap.size v (rlist A B x) ∧ Below w.heap.size w w'
theorem clash_of {A B : List Lt} {x : Int} {o p : Bool} (hA : vld A = true) (hB : vld B = true) (ha : (x, o) ∈ A) (hb : (x, p) ∈ B) : clash A B x = (o != p) := by
  have uA : ∀ q, (x, q) ∈ A → q = o := fun q hq => by
    have := asc_inj (vld_iff.1 hA).1 _ hq _ ha rfl
    injection this
  have uB : ∀ q, (x, q) ∈ B → q = p := fun q hq => by
    have := asc_inj (vld_iff.1 hB).1 _ hq _ hb rfl
    injection this
  unfold clash
  cases o <;> cases p
  · show _ = false
    rw [decide_eq_false_iff_not]
    rintro (⟨h1, h2⟩ | ⟨h1, h2⟩)
    · have := uA _ h1; cases this
    · have := uB _ h2; cases this
  · show _ = true
    rw [decide_eq_true_iff]
    exact .inr ⟨ha, hb⟩
  · show _ = true
    rw [decide_eq_true_iff]
    exact .inl ⟨ha, hb⟩
  · show _ = false
    rw [decide_eq_false_iff_not]
    rintro (⟨h1, h2⟩ | ⟨h1, h2⟩)
    · have := uB _ h2; cases this
    · have := uA _ h1; cases this
theorem clash_no {A B : List Lt} {x : Int} (h : (∀ y ∈ A, y.1 ≠ x) ∨ ∀ y ∈ B, y.1 ≠ x) : clash A B x = false := by
  unfold clash
  rw [decide_eq_false_iff_not]
  rintro (⟨h1, h2⟩ | ⟨h1, h2⟩)
  · rcases h with h | h
    · exact h _ h1 rfl
    · exact h _ h2 rfl
  · rcases h with h | h
    · exact h _ h1 rfl
    · exact h _ h2 rfl
theorem but_len (x : Int) (L : List Lt) : (but x L).length ≤ L.length := List.length_filter_le _ _
theorem res_no {w w' : World} {A B : List Lt} {x : Int} (h : (vld A && vld B && clash A B x) = false) (hb : Below w.heap.size w w') : ResSays w A B x (.returned (.tuple #[.slice none 0 0, .int .i64 1])) w' := by
  have h1 : rcode A B x = 1 := by unfold rcode; rw [if_neg (by rw [h]; decide)]
  have h2 : rlist A B x = [] := by unfold rlist; rw [if_neg (by rw [h]; decide)]
  exact ⟨_, by rw [h1], by rw [h2]; exact ⟨rfl, .inl ⟨rfl, rfl⟩⟩, hb⟩
set_option maxHeartbeats 4000000 in
set_option maxRecDepth 100000 in
theorem resolve_c (a0 : Option Addr) (n0 c0 : Nat) (A : List Lt) (a1 : Option Addr) (n1 c1 : Nat) (B : List Lt) (x : Int) (w : World) (h0 : SlL w a0 n0 c0 A) (h1 : SlL w a1 n1 c1 B) :
    Calls Tryd.prog 23 #[.slice a0 n0 c0, .slice a1 n1 c1, .int .i64 x] w fun e w' => ResSays w A B x e w' := by
  obtain ⟨w1, hw1⟩ : ∃ y, w.alloc (.cells #[.int .i64 x] 3) = y := ⟨_, rfl⟩
  have B1 : Hid (Below w.heap.size w w1) := Lib.hid (by rw [← hw1]; exact (Below.refl _ _).alloc (Nat.le_refl _) _)
  have C1 : Hid (w1.heap[w.heap.size]? = some (.cells #[.int .i64 x] 3 (0, 0))) := Lib.hid (by rw [← hw1]; exact heap_alloc_new w _)
  have HW1 := Lib.hid hw1
  have H0 := Lib.hid h0
  have H1 := Lib.hid h1
  obtain ⟨bu, hbu⟩ : ∃ y, w.heap.size = y := ⟨_, rfl⟩
  have HBU := Lib.hid hbu
  rw [hbu] at C1
  clear hw1 h0 h1 hbu
  go_enter Tryd.func23, Tryd.ntmps23
  go_upto_region 1 with fail
  rw [HW1.out, HBU.out]
  go_wp2_with fail
  refine (valid_c a0 n0 c0 A w1 (H0.out.below B1.out)).mono ?_
  rintro e w2 ⟨rfl, hb2⟩
  have B2 := Lib.hid (B1.out.trans (hb2.mono B1.out.size))
  have C2 : Hid (w2.heap[bu]? = some (.cells #[.int .i64 x] 3 (0, 0))) := Lib.hid (by rw [hb2.block _ (lt_of_block C1.out)]; exact C1.out)
  clear hb2
  cases hA : vld A with
  | false =>
    have HN : Hid ((vld A && vld B && clash A B x) = false) := Lib.hid (by rw [hA]; rfl)
    clear hA
    go_wp2
    refine bodyPost_ret (results_tmp2 rfl _ _ _) rfl ?_
    exact res_no HN.out B2.out
  | true =>
    have HA := Lib.hid hA
    clear hA
    go_wp2_with fail
    refine (valid_c a1 n1 c1 B w2 (H1.out.below B2.out)).mono ?_
    rintro e w3 ⟨rfl, hb3⟩
    have B3 := Lib.hid (B2.out.trans (hb3.mono B2.out.size))
    have C3 : Hid (w3.heap[bu]? = some (.cells #[.int .i64 x] 3 (0, 0))) := Lib.hid (by rw [hb3.block _ (lt_of_block C2.out)]; exact C2.out)
    clear hb3 C2 C1
    cases hB : vld B with
    | false =>
      have HN : Hid ((vld A && vld B && clash A B x) = false) := Lib.hid (by rw [hB]; simp)
      clear hB
      go_wp2
      refine bodyPost_ret (results_tmp2 rfl _ _ _) rfl ?_
      exact res_no HN.out B3.out
    | true =>
      have HB := Lib.hid hB
      clear hB
      have ln0 : n0 ≤ 1024 := by have := vld_len HA.out; rw [H0.out.1] at this; exact this
      have ln1 : n1 ≤ 1024 := by have := vld_len HB.out; rw [H1.out.1] at this; exact this
      have u3 : w3.cell? ⟨bu, 0, none⟩ = some (.int .i64 x) := by rw [cell_of_row w3 bu 0 _ 3 (0, 0) C3.out]; rfl
      go_wp2_with fail
      refine (find_c a0 n0 c0 A x w3 (H0.out.below B3.out) HA.out (by omega)).mono ?_
      rintro e w4 ⟨⟨p1, q1, ok1, rfl, f1, g1⟩, hb4⟩
      have B4 := Lib.hid (B3.out.trans (hb4.mono B3.out.size))
      have C4 : Hid (w4.heap[bu]? = some (.cells #[.int .i64 x] 3 (0, 0))) := Lib.hid (by rw [hb4.block _ (lt_of_block C3.out)]; exact C3.out)
      have F1 := Lib.hid f1
      have G1 := Lib.hid g1
      clear hb4 C3 u3 f1 g1
      obtain ⟨w5, hw5⟩ : ∃ y, w4.alloc (.cells #[.int .i64 p1, .bool q1] 30) = y := ⟨_, rfl⟩
      have X5 : Hid (w5.heap[w4.heap.size]? = some (.cells #[.int .i64 p1, .bool q1] 30 (0, 0))) := Lib.hid (by rw [← hw5]; exact heap_alloc_new w4 _)
      have b5 : Below w4.heap.size w4 w5 := by rw [← hw5]; exact (Below.refl _ _).alloc (Nat.le_refl _) _
      have B5 := Lib.hid (B4.out.trans (b5.mono B4.out.size))
      have C5 : Hid (w5.heap[bu]? = some (.cells #[.int .i64 x] 3 (0, 0))) := Lib.hid (by rw [b5.block _ (lt_of_block C4.out)]; exact C4.out)
      have HW5 := Lib.hid hw5
      obtain ⟨bx, hbx⟩ : ∃ y, w4.heap.size = y := ⟨_, rfl⟩
      have HBX := Lib.hid hbx
      rw [hbx] at X5
      clear hw5 b5 hbx C4
      have u5 : w5.cell? ⟨bu, 0, none⟩ = some (.int .i64 x) := by rw [cell_of_row w5 bu 0 _ 3 (0, 0) C5.out]; rfl
      go_upto_region 4 with fail
      rw [HW5.out, HBX.out]
      go_wp2_with fail
      refine (find_c a1 n1 c1 B x w5 (H1.out.below B5.out) HB.out (by omega)).mono ?_
      rintro e w6 ⟨⟨p2, q2, ok2, rfl, f2, g2⟩, hb6⟩
      have B6 := Lib.hid (B5.out.trans (hb6.mono B5.out.size))
      have C6 : Hid (w6.heap[bu]? = some (.cells #[.int .i64 x] 3 (0, 0))) := Lib.hid (by rw [hb6.block _ (lt_of_block C5.out)]; exact C5.out)
      have X6 : Hid (w6.heap[bx]? = some (.cells #[.int .i64 p1, .bool q1] 30 (0, 0))) := Lib.hid (by rw [hb6.block _ (lt_of_block X5.out)]; exact X5.out)
      have F2 := Lib.hid f2
      have G2 := Lib.hid g2
      clear hb6 C5 u5 f2 g2 X5
      obtain ⟨w7, hw7⟩ : ∃ y, w6.alloc (.cells #[.int .i64 p2, .bool q2] 30) = y := ⟨_, rfl⟩
      have Y7 : Hid (w7.heap[w6.heap.size]? = some (.cells #[.int .i64 p2, .bool q2] 30 (0, 0))) := Lib.hid (by rw [← hw7]; exact heap_alloc_new w6 _)
      have b7 : Below w6.heap.size w6 w7 := by rw [← hw7]; exact (Below.refl _ _).alloc (Nat.le_refl _) _
      have B7 := Lib.hid (B6.out.trans (b7.mono B6.out.size))
      have C7 : Hid (w7.heap[bu]? = some (.cells #[.int .i64 x] 3 (0, 0))) := Lib.hid (by rw [b7.block _ (lt_of_block C6.out)]; exact C6.out)
      have X7 : Hid (w7.heap[bx]? = some (.cells #[.int .i64 p1, .bool q1] 30 (0, 0))) := Lib.hid (by rw [b7.block _ (lt_of_block X6.out)]; exact X6.out)
      have HW7 := Lib.hid hw7
      obtain ⟨by', hby⟩ : ∃ y, w6.heap.size = y := ⟨_, rfl⟩
      have HBY := Lib.hid hby
      rw [hby] at Y7
      clear hw7 b7 hby C6 X6
      have x0 : w7.cell? ⟨bx, 0, none⟩ = some (.int .i64 p1) := by rw [cell_of_row w7 bx 0 _ 30 (0, 0) X7.out]; rfl
      have x1 : w7.cell? ⟨bx, 1, none⟩ = some (.bool q1) := by rw [cell_of_row w7 bx 1 _ 30 (0, 0) X7.out]; rfl
      have y0 : w7.cell? ⟨by', 0, none⟩ = some (.int .i64 p2) := by rw [cell_of_row w7 by' 0 _ 30 (0, 0) Y7.out]; rfl
      have y1 : w7.cell? ⟨by', 1, none⟩ = some (.bool q2) := by rw [cell_of_row w7 by' 1 _ 30 (0, 0) Y7.out]; rfl
      have hg := eqg30
      go_upto_region 5 with fail
      rw [HW7.out, HBY.out]
      cases ok1 with
      | false =>
        have HN : Hid ((vld A && vld B && clash A B x) = false) := Lib.hid (by rw [clash_no (.inl (G1.out rfl))]; simp)
        go_wp2
        refine bodyPost_ret (results_tmp2 rfl _ _ _) rfl ?_
        exact res_no HN.out B7.out
      | true =>
        cases ok2 with
        | false =>
          have HN : Hid ((vld A && vld B && clash A B x) = false) := Lib.hid (by rw [clash_no (.inr (G2.out rfl))]; simp)
          go_wp2
          refine bodyPost_ret (results_tmp2 rfl _ _ _) rfl ?_
          exact res_no HN.out B7.out
        | true =>
          have HCL : Hid (clash A B x = (q1 != q2)) := Lib.hid (by
            obtain ⟨m1, e1⟩ := F1.out rfl
            obtain ⟨m2, e2⟩ := F2.out rfl
            subst e1
            rw [e2] at m2
            exact clash_of HA.out HB.out m1 m2)
          have HPX : Hid (p1 = p2) := Lib.hid ((F1.out rfl).2.trans (F2.out rfl).2.symm)
          by_cases he : ((p1, q1) : Int × Bool) = (p2, q2)
          · have hq := lit_eq_yes he
            have HN : Hid ((vld A && vld B && clash A B x) = false) := Lib.hid (by
              injection he with e1 e2
              rw [HCL.out, e2]; simp)
            clear he
            go_wp2
            refine bodyPost_ret (results_tmp2 rfl _ _ _) rfl ?_
            exact res_no HN.out B7.out
          · have hq := lit_eq_no he
            have HN : Hid ((vld A && vld B && clash A B x) = true) := Lib.hid (by
              rw [HCL.out, HA.out, HB.out]
              have : q1 ≠ q2 := fun h => he (by rw [HPX.out, h])
              simpa using this)
            have RC : Hid (rcode A B x = if vld (made (but x (A ++ B))) = true then 0 else 10) := Lib.hid (by unfold rcode; rw [if_pos HN.out])
            have RL : Hid (rlist A B x = if vld (made (but x (A ++ B))) = true then made (but x (A ++ B)) else []) := Lib.hid (by unfold rlist; rw [if_pos HN.out])
            clear he
            obtain ⟨w8, hw8⟩ : ∃ y, w7.alloc (.cells #[.slice a0 n0 c0, .slice a1 n1 c1] 24) = y := ⟨_, rfl⟩
            have Z8 : Hid (w8.heap[w7.heap.size]? = some (.cells #[.slice a0 n0 c0, .slice a1 n1 c1] 24 (0, 0))) := Lib.hid (by rw [← hw8]; exact heap_alloc_new w7 _)
            have b8 : Below w7.heap.size w7 w8 := by rw [← hw8]; exact (Below.refl _ _).alloc (Nat.le_refl _) _
            have B8 := Lib.hid (B7.out.trans (b8.mono B7.out.size))
            have C8 : Hid (w8.heap[bu]? = some (.cells #[.int .i64 x] 3 (0, 0))) := Lib.hid (by rw [b8.block _ (lt_of_block C7.out)]; exact C7.out)
            have HW8 := Lib.hid hw8
            clear hw8 b8
            go_wp2_with fail
            rw [HW8.out]
            refine (concat_c w7.heap.size a0 n0 c0 A a1 n1 c1 B w8 (by rw [cell_of_row w8 _ 0 _ 24 (0, 0) Z8.out]; rfl) (by rw [cell_of_row w8 _ 1 _ 24 (0, 0) Z8.out]; rfl) (lt_of_block Z8.out) (H0.out.below B8.out) (H1.out.below B8.out) (by omega)).mono ?_
            rintro e w9 ⟨v, rfl, hO9, hb9⟩
            have O9 := Lib.hid hO9
            have B9 := Lib.hid (B8.out.trans (hb9.mono B8.out.size))
            have C9 : Hid (w9.heap[bu]? = some (.cells #[.int .i64 x] 3 (0, 0))) := Lib.hid (by rw [hb9.block _ (lt_of_block C8.out)]; exact C8.out)
            have S9 := Lib.hid hb9.size
            have LB : Hid (bu < w8.heap.size) := Lib.hid (lt_of_block C8.out)
            clear hO9 hb9 x0 x1 y0 y1 hq hg
            have LAB : Hid ((A ++ B).length ≤ 2048) := Lib.hid (by rw [List.length_append, H0.out.1, H1.out.1]; omega)
            go_wp2_with fail
            refine Calls.mono (del_c w8.heap.size bu x v (A ++ B) w9 O9.out (Nat.le_trans LAB.out (by omega)) S9.out (by rw [cell_of_row w9 bu 0 _ 3 (0, 0) C9.out]; rfl) LB.out) ?_
            rintro e w10 ⟨v2, rfl, hO10, hb10⟩
            have B10 := Lib.hid (B9.out.trans (hb10.mono B8.out.size))
            have LD : Hid ((but x (A ++ B)).length ≤ 4000) := Lib.hid (Nat.le_trans (but_len _ _) (Nat.le_trans LAB.out (by omega)))
            obtain ⟨a2, c2, hv2⟩ := hO10.slice
            subst hv2
            have S10 := Lib.hid (hO10.sl rfl)
            clear hO10 hb10
            go_wp2_with fail
            refine (make_c a2 _ c2 (but x (A ++ B)) w10 S10.out LD.out).mono ?_
            rintro e w11 ⟨v3, rfl, hO11, hb11⟩
            have O11 := Lib.hid (hO11.le B10.out.size)
            have B11 := Lib.hid (B10.out.trans (hb11.mono B10.out.size))
            clear hO11 hb11
            obtain ⟨t, ht⟩ : ∃ t, vld (made (but x (A ++ B))) = t := ⟨_, rfl⟩
            have HT := Lib.hid ht
            rw [ht]
            clear ht
            cases t with
            | true =>
              go_wp2
              refine bodyPost_ret (results_tmp2 rfl _ _ _) rfl ?_
              refine ⟨_, by rw [RC.out, if_pos HT.out]; rfl, ?_, B11.out⟩
              have := O11.out
              rw [if_pos HT.out] at this
              rw [RL.out, if_pos HT.out]
              exact this
            | false =>
              go_wp2
              refine bodyPost_ret (results_tmp2 rfl _ _ _) rfl ?_
              exact ⟨_, by rw [RC.out, if_neg (by rw [HT.out]; decide)]; rfl, by rw [RL.out, if_neg (by rw [HT.out]; decide)]; exact ⟨rfl, .inl ⟨rfl, rfl⟩⟩, B11.out⟩

end Go.Proofs.YtljgcjmelmpgoaaDoor
