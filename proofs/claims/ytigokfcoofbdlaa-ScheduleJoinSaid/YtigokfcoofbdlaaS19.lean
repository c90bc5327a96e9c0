/- The law ScheduleArg. -/
import Derived.Test.YtigokfcoofbdlaaS18
import Derived.Laws.EntriesVeiled
namespace Go.Proofs.Ytigokfcoofbdlaa
open Go.RowKit
set_option linter.unusedVariables false

theorem nil_ok (w0 : World) (u : Nat) (hu : w0.heap.size ≤ u) (g : Nat) (lb : Array Value) : StepOk g lb w0 u (fun W L out => Below w0.heap.size w0 W ∧ L = []) where
  step := fun W L out i h hi _ _ _ => by rw [h.2] at hi; cases hi
  keep := fun W W' L out h hg => ⟨h.1.grown hg h.1.size (fun k e => by cases e; exact hu), h.2⟩
  below := fun W L out h => h.1
set_option maxHeartbeats 2000000 in
set_option maxRecDepth 100000 in
theorem crun_nil (w : World) : Calls Try.prog 15 #[.slice none 0 0, .slice none 0 0, .int .i64 0] w fun e w' => e = .returned (.tuple #[.int .i64 0, .int .i64 0]) ∧ Below w.heap.size w w' := by
  have OK : Hid (StepOk 28 #[.pointer (some ⟨w.heap.size, 0, none⟩)] w (w.alloc (.cells #[.slice none 0 0] 31)).heap.size (fun W L out => Below w.heap.size w W ∧ L = [])) := Lib.hid (nil_ok _ _ (by simp) _ _)
  go_enter Try.func15, Try.ntmps15
  go_wp2_with fail
  refine (wcontains_c none 0 0 [] _ ⟨rfl, by omega, by omega, .inl rfl⟩ (fun i hi => absurd hi (Nat.not_lt_zero _))).mono ?_
  rintro e w' ⟨⟨b, rfl, hb⟩, rfl⟩
  obtain rfl : b = false := by
    cases b with
    | false => rfl
    | true => obtain ⟨i, h1, h2⟩ := hb.1 rfl; omega
  clear hb
  go_wp2_with fail
  refine (run_c 28 _ enters28 0 [] none 0 0 [] 0 _ w _ rfl (fun i hi => absurd hi (Nat.not_lt_zero _)) (by omega) (by decide) OK.out ⟨(Below.refl _ _).alloc (Nat.le_refl _) _, rfl⟩ (SlS.nil _ _ _ (by omega)) (fun i => by simp) (by omega)).mono ?_
  rintro e w3 ⟨L', rfl, hi⟩
  have HI := Lib.hid hi.1
  clear hi
  rw [show ord [] 0 ([] : List Nat).sum [] (-1) [] = ([], 0) from rfl]
  go_wp2
  refine bodyPost_ret (results_tmp2 rfl _ _ _) rfl ?_
  exact ⟨rfl, HI.out⟩
theorem wset_get {C : List Nat} {i m : Nat} {v : Value} (e : i ≠ m) (h : i < C.length) : ((wvals C).set m v).getD i .nilIface = .iface 52 (.pointer (some ⟨C.getD i 0, 0, none⟩)) := by
  rw [List.getD_eq_getElem?_getD, List.getElem?_set_ne (Ne.symm e), wvals_at h]; rfl
theorem set_at {w : World} {g m : Nat} {v : Value} {k : Nat} {x : Value} (h : w.cell? ⟨g, k, none⟩ = some x) (hm : ∃ y, w.cell? ⟨g, m, none⟩ = some y) : (w.setCell ⟨g, m, none⟩ v).cell? ⟨g, k, none⟩ = some (if k = m then v else x) := by
  by_cases e : k = m
  · subst e
    obtain ⟨y, hy⟩ := hm
    rw [if_pos rfl]
    exact World.cell?_setCell_same w _ v hy
  · rw [if_neg e, World.cell?_setCell_other w _ _ _ (fun h2 => e (by injection h2 with _ h3; exact h3.symm))]
    exact h
set_option maxHeartbeats 4000000 in
set_option maxRecDepth 100000 in
theorem law_arg (a0 : Option Addr) (n0 c0 : Nat) (l0 : List Int) (at_ most : Int) (w : World) (h0 : SlI w a0 n0 c0 l0) (z0 : a0 = none → n0 = 0 ∧ c0 = 0) :
    Calls Try.prog 5 #[.slice a0 n0 c0, .int .i64 at_, .int .i64 most] w fun e w' => e = .returned (.bool true) ∧ Below w.heap.size w w' := by
  have H0 := Lib.hid h0; clear h0 z0
  go_enter Try.func5, Try.ntmps5
  go_wp2_with fail
  refine (awake_c w).mono ?_
  rintro e w1 ⟨rfl, hb1⟩
  have B1 := Lib.hid hb1; clear hb1
  go_wp2_with fail
  refine (large_c a0 n0 c0 l0 none 0 0 w1 (H0.out.below B1.out)).mono ?_
  rintro e w' ⟨⟨b, rfl, hb⟩, rfl⟩
  by_cases hno : b = true ∨ n0 = 0
  · by_cases hbt : b = true
    · subst hbt
      clear hb hno
      go_wp2_with fail
      refine (crun_nil w1).mono ?_
      rintro e w2 ⟨rfl, hb2⟩
      have B2 := Lib.hid (B1.out.trans (hb2.mono B1.out.size))
      clear hb2
      go_wp2
      refine bodyPost_ret (results_tmp rfl _ _ _) rfl ?_
      exact ⟨rfl, B2.out⟩
    · obtain rfl : b = false := by simpa using hbt
      obtain rfl : n0 = 0 := hno.resolve_left hbt
      clear hb hno hbt
      go_wp2_with fail
      refine (crun_nil w1).mono ?_
      rintro e w2 ⟨rfl, hb2⟩
      have B2 := Lib.hid (B1.out.trans (hb2.mono B1.out.size))
      clear hb2
      go_wp2
      refine bodyPost_ret (results_tmp rfl _ _ _) rfl ?_
      exact ⟨rfl, B2.out⟩
  · obtain rfl : b = false := by
      cases b with
      | false => rfl
      | true => exact absurd (Or.inl rfl) hno
    have hn1 : 0 < n0 := by
      rcases Nat.eq_zero_or_pos n0 with h | h
      · exact absurd (Or.inr h) hno
      · exact h
    have hne : ((n0 : Int) == 0) = false := by rw [beq_eq_false_iff_ne]; omega
    obtain ⟨hn0, _, _⟩ := hb rfl
    clear hb hno
    go_wp2_with fail
    refine (crew_c a0 n0 c0 l0 w1 (H0.out.below B1.out) hn0).mono ?_
    rintro e w2 ⟨C, la, lc, rfl, hC, hP, hO⟩
    obtain ⟨g, rfl, hcell⟩ := wv_some hO hC hn1
    have CP := Lib.hid hP; have CO := Lib.hid hO; have HC := Lib.hid hC; have CL := Lib.hid hcell
    clear hP hO hC hcell
    have WV : Hid (∀ i, i < n0 → WVal ((wvals C).getD i .nilIface)) := Lib.hid (fun i hi => .inr ⟨_, wvals_get (by rw [HC.out]; exact hi)⟩)
    go_wp2_with fail
    refine (crun_neg (some ⟨g, 0, none⟩) n0 lc (wvals C) none 0 0 (-1) w2 (SlW.crew CO.out HC.out) WV.out (.inl (by omega))).mono ?_
    rintro e w3 ⟨rfl, hw3⟩
    have B3 : Hid (Below w1.heap.size w1 w3) := Lib.hid (by rw [← hw3]; exact CP.out.bel.alloc CP.out.bel.size _)
    have L3 : Hid (w3.heap[w1.heap.size + 1]? = some (.cells #[.slice (some ⟨w1.heap.size, 0, none⟩) 0 0] 22 (0, 0))) := Lib.hid (by rw [← hw3, Below.heap_alloc _ _ _ (lt_of_block CP.out.log)]; exact CP.out.log)
    have O3 : Hid (w3.ownsRow (w1.heap.size + 1 + 1) 38 1 (.slice (some ⟨g, 0, none⟩) n0 lc) n0 (wvals C)) := Lib.hid (by rw [← hw3]; exact CO.out.alloc _)
    clear hw3 CP CO CL
    by_cases hat : 0 ≤ at_
    · obtain ⟨q, rfl⟩ : ∃ q : Nat, at_ = (q : Int) := ⟨at_.toNat, by omega⟩
      have hq := Nat.mod_lt q hn1
      obtain ⟨g', e1, hc3⟩ := wv_some O3.out HC.out hn1
      cases e1
      have km := hc3 _ hq
      have fm : w3.frozen? ⟨g, q % n0, none⟩ = false ∧ g ≠ w1.heap.size + 1 := by
        rcases O3.out.2 with ⟨hv, _⟩ | ⟨g2, cp, cur, hv, _, hh, _⟩
        · cases hv
        · injection hv with e2; cases e2
          refine ⟨frozen_of_row w3 g _ cur 38 hh, fun e => ?_⟩
          rw [e] at hh
          have := cells_type hh L3.out
          cases this
      have W4 : Hid (SlW (w3.setCell ⟨g, q % n0, none⟩ .nilIface) (some ⟨g, 0, none⟩) n0 lc ((wvals C).set (q % n0) .nilIface)) := Lib.hid (by
        obtain ⟨q1, q2, q3, _⟩ := SlW.crew O3.out HC.out
        refine ⟨by rw [List.length_set]; exact q1, q2, q3, .inr ⟨g, rfl, fun i hi => ?_⟩⟩
        rw [set_at (hc3 i hi) ⟨_, km⟩]
        by_cases e : i = q % n0
        · subst e; simp [wvals, HC.out, hi]
        · rw [if_neg e, wset_get e (by rw [HC.out]; exact hi)])
      have V4 : Hid (∀ i, i < n0 → WVal (((wvals C).set (q % n0) .nilIface).getD i .nilIface)) := Lib.hid (fun i hi => by
        by_cases e : i = q % n0
        · subst e; left; simp [wvals, HC.out, hi]
        · right; exact ⟨_, wset_get e (by rw [HC.out]; exact hi)⟩)
      have N4 : Hid (∃ i, i < n0 ∧ ((wvals C).set (q % n0) .nilIface).getD i .nilIface = .nilIface) := Lib.hid ⟨q % n0, hq, by simp [wvals, HC.out, hq]⟩
      have B4 : Hid (Below w1.heap.size w1 (w3.setCell ⟨g, q % n0, none⟩ .nilIface)) := Lib.hid (B3.out.setCell (p := ⟨g, q % n0, none⟩) (by have := (O3.out.lt g rfl).1; show w1.heap.size ≤ g; omega) _)
      have L4 : Hid ((w3.setCell ⟨g, q % n0, none⟩ .nilIface).heap[w1.heap.size + 1]? = some (.cells #[.slice (some ⟨w1.heap.size, 0, none⟩) 0 0] 22 (0, 0))) := Lib.hid (by rw [Below.heap_setCell _ _ _ _ (Ne.symm fm.2)]; exact L3.out)
      obtain ⟨fm, _⟩ := fm
      clear hc3
      go_upto_region 12 with fail
      obtain ⟨w4, hw4⟩ : ∃ x, w3.setCell ⟨g, q % n0, none⟩ .nilIface = x := ⟨_, rfl⟩
      rw [hw4] at W4 B4 L4 ⊢
      clear hw4 km fm O3 L3 B3
      go_wp2_with fail
      refine (crun_neg (some ⟨g, 0, none⟩) n0 lc _ none 0 0 most w4 W4.out V4.out (.inr N4.out)).mono ?_
      rintro e w5 ⟨rfl, hw5⟩
      have kv := cell_of_one (show w5.heap[w1.heap.size + 1]? = _ from (by rw [← hw5, Below.heap_alloc _ _ _ (lt_of_block L4.out)]; exact L4.out))
      have B5 : Hid (Below w.heap.size w w5) := Lib.hid (B1.out.trans ((show Below w1.heap.size w1 w5 from (by rw [← hw5]; exact B4.out.alloc B4.out.size _)).mono B1.out.size))
      clear hw5 W4 V4 N4 L4 B4
      go_wp2
      refine bodyPost_ret (results_tmp rfl _ _ _) rfl ?_
      exact ⟨rfl, B5.out⟩
    · have kv := cell_of_one L3.out
      have B5 : Hid (Below w.heap.size w w3) := Lib.hid (B1.out.trans (B3.out.mono B1.out.size))
      clear O3 L3 B3
      go_wp2
      refine bodyPost_ret (results_tmp rfl _ _ _) rfl ?_
      exact ⟨rfl, B5.out⟩

end Go.Proofs.Ytigokfcoofbdlaa
