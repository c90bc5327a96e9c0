/- The program: whether a clause is contained in another. -/
import Derived.Test.YtljgcjmelmpgoaaDoorQ8
namespace Go.Proofs.YtljgcjmelmpgoaaDoor
open Go.RowKit
set_option linter.unusedVariables false

theorem sub_len : ∀ {B A : List Lt} {l l' : Int}, vldFrom l A = true → vldFrom l' B = true → (∀ x ∈ A, x ∈ B) → A.length ≤ B.length
  | B, [], _, _, _, _, _ => Nat.zero_le _
  | [], x :: A, _, _, _, _, h => by have := h x (by simp); cases this
  | y :: B, x :: A, l, l', hA, hB, h => by
    obtain ⟨xu, xo⟩ := x
    obtain ⟨yu, yo⟩ := y
    have hA' : (decide (l < xu) && decide (xu < 1024) && vldFrom xu A) = true := hA
    have hB' : (decide (l' < yu) && decide (yu < 1024) && vldFrom yu B) = true := hB
    simp only [Bool.and_eq_true, decide_eq_true_eq] at hA' hB'
    have gA := vldFrom_gt hA'.2
    have gB := vldFrom_gt hB'.2
    have key : ∀ z ∈ A, z ∈ B := fun z hz => by
      rcases List.mem_cons.1 (h z (by simp [hz])) with e | e
      · exfalso
        have h1 := (gA z hz).1
        subst e
        rcases List.mem_cons.1 (h (xu, xo) (by simp)) with e2 | e2
        · cases e2; exact absurd h1 (Int.lt_irrefl _)
        · have := (gB _ e2).1
          simp only at this h1
          omega
      · exact e
    have := sub_len hA'.2 hB'.2 key
    simp only [List.length_cons]
    omega
/-- subsumption -/
def subs (A B : List Lt) : Bool := vld A && vld B && decide (∀ x ∈ A, x ∈ B)
theorem all_at {A B : List Lt} (h : ∀ k, k < A.length → A.getD k d0 ∈ B) : ∀ x ∈ A, x ∈ B := fun x hx => by
  obtain ⟨k, hk, e⟩ := List.getElem_of_mem hx
  have := h k hk
  rw [List.getD_eq_getElem?_getD, List.getElem?_eq_getElem hk, Option.getD_some, e] at this
  exact this
set_option maxHeartbeats 2000000 in
set_option maxRecDepth 100000 in
theorem contained_c (a0 : Option Addr) (n0 c0 : Nat) (A : List Lt) (a1 : Option Addr) (n1 c1 : Nat) (B : List Lt) (w : World) (h0 : SlL w a0 n0 c0 A) (h1 : SlL w a1 n1 c1 B) (hA : vld A = true) (hB : vld B = true) (hn : n1 ≤ 1099511627776) :
    Calls Tryd.prog 38 #[.slice a0 n0 c0, .slice a1 n1 c1] w fun e w' => e = .returned (.bool (decide (∀ x ∈ A, x ∈ B))) ∧ Below w.heap.size w w' := by
  have H0 := Lib.hid h0
  have H1 := Lib.hid h1
  have HA := Lib.hid hA
  have HB := Lib.hid hB
  have hcap : n0 ≤ 9223372036854775807 := by have := h0.2.1; have := h0.2.2.1; omega
  clear h0 h1 hA hB
  by_cases hlen : n1 < n0
  · have HN : Hid (decide (∀ x ∈ A, x ∈ B) = false) := Lib.hid (by
      rw [decide_eq_false_iff_not]
      intro h
      have := sub_len HA.out HB.out h
      rw [H0.out.1, H1.out.1] at this
      omega)
    go_enter Tryd.func38, Tryd.ntmps38
    go_wp2
    refine bodyPost_ret (results_tmp rfl _ _ _) rfl ?_
    exact ⟨by rw [HN.out]; rfl, Below.refl _ _⟩
  · obtain ⟨V, hV⟩ : ∃ V, decide (∀ x ∈ A, x ∈ B) = V := ⟨_, rfl⟩
    rw [hV]
    have HV := Lib.hid hV
    clear hV
    go_enter Tryd.func38, Tryd.ntmps38
    go_wp2
    go_loopw [16] (fun s wr => ∃ i : Nat, i ≤ n0 ∧ s = .int .i64 (i : Nat) ∧ Hid (∀ k, k < i → A.getD k d0 ∈ B) ∧ Hid (Below w.heap.size w wr)) (fun s _ => n0 - (intOf s).toNat)
    case atStart => exact ⟨0, by omega, rfl, Lib.hid (fun k hk => absurd hk (Nat.not_lt_zero k)), Lib.hid (Below.refl _ _)⟩
    case round =>
      obtain ⟨i, hi, rfl, hin, HBL⟩ := hrel
      by_cases hlt : i < n0
      · obtain ⟨b, off, rfl, hb, hc⟩ := (H0.out.below HBL.out).at (by omega)
        obtain ⟨k0, k1⟩ := hc i hlt
        clear hc
        obtain ⟨u, hu⟩ : ∃ u, (A.getD i d0).1 = u := ⟨_, rfl⟩
        obtain ⟨o, ho⟩ : ∃ o, (A.getD i d0).2 = o := ⟨_, rfl⟩
        rw [hu] at k0
        rw [ho] at k1
        have HE : Hid (A.getD i d0 = (u, o)) := Lib.hid (by rw [← hu, ← ho])
        have hi0 : (0 : Int) ≤ (i : Int) := by omega
        have hi1 : (i : Int) < (n0 : Int) := by omega
        have BA : Hid (Below w.heap.size w (wr.alloc (.cells #[.int .i64 u, .bool o] 30))) := Lib.hid (HBL.out.alloc HBL.out.size _)
        have HL : Hid ((wr.alloc (.cells #[.int .i64 u, .bool o] 30)).heap[wr.heap.size]? = some (.cells #[.int .i64 u, .bool o] 30 (0, 0))) := Lib.hid (heap_alloc_new wr _)
        have ZL : Hid ((wr.alloc (.cells #[.int .i64 u, .bool o] 30)).heap.size = wr.heap.size + 1) := Lib.hid (by simp)
        clear hu ho
        go_wp2_with fail
        refine (find_c a1 n1 c1 B u _ (H1.out.below BA.out) HB.out hn).mono ?_
        rintro e w2 ⟨⟨u2, o2, ok, rfl, h2, h3⟩, hb2⟩
        have B2 := Lib.hid (BA.out.trans (hb2.mono BA.out.size))
        have hl2 : w2.heap[wr.heap.size]? = some (.cells #[.int .i64 u, .bool o] 30 (0, 0)) := by rw [hb2.block _ (by rw [ZL.out]; omega)]; exact HL.out
        have lz2 : wr.heap.size < w2.heap.size := lt_of_block hl2
        obtain ⟨bx, hbx⟩ : ∃ y, wr.heap.size = y := ⟨_, rfl⟩
        rw [hbx] at hl2 lz2 ⊢
        have x0 : w2.cell? ⟨bx, 0, none⟩ = some (.int .i64 u) := by rw [cell_of_row w2 bx 0 _ 30 (0, 0) hl2]; rfl
        have x1 : w2.cell? ⟨bx, 1, none⟩ = some (.bool o) := by rw [cell_of_row w2 bx 1 _ 30 (0, 0) hl2]; rfl
        have H2 := Lib.hid h2
        have H3 := Lib.hid h3
        have B3 : Hid (Below w.heap.size w (w2.alloc (.cells #[.int .i64 u2, .bool o2] 30))) := Lib.hid (B2.out.alloc B2.out.size _)
        have hg := eqg30
        clear h2 h3 hb2 hbx hl2 k0 k1
        cases ok with
        | false =>
          have HN : Hid (V = false) := Lib.hid (by
            rw [← HV.out, decide_eq_false_iff_not]
            intro h
            have hm := h _ (mem_at (x := (u, o)) (by rw [H0.out.1]; exact hlt) HE.out)
            exact H3.out rfl _ hm rfl)
          go_wp2
          refine bodyPost_ret (results_tmp rfl _ _ _) rfl ?_
          exact ⟨by rw [HN.out]; rfl, B3.out⟩
        | true =>
          obtain ⟨hm, hux⟩ := H2.out rfl
          by_cases he : ((u2, o2) : Int × Bool) = (u, o)
          · have hq := lit_ne_yes he
            have HI : Hid (∀ k, k < i + 1 → A.getD k d0 ∈ B) := Lib.hid (fun k hk => by
              rcases Nat.lt_or_ge k i with h | h
              · exact hin.out k h
              · obtain rfl : k = i := by omega
                rw [HE.out, ← he]; exact hm)
            clear he hm hux
            go_wp2
            go_roundw
            case rel => exact ⟨i + 1, by omega, by go_num, HI, B3⟩
            case measure => simp [intOf]; omega
          · have hq := lit_ne_no he
            have HN : Hid (V = false) := Lib.hid (by
              rw [← HV.out, decide_eq_false_iff_not]
              intro h
              have hm2 := h _ (mem_at (x := (u, o)) (by rw [H0.out.1]; exact hlt) HE.out)
              obtain ⟨p, hp, e1⟩ := List.getElem_of_mem hm
              obtain ⟨r, hr, e2⟩ := List.getElem_of_mem hm2
              have g1 : B.getD p d0 = (u2, o2) := by rw [List.getD_eq_getElem?_getD, List.getElem?_eq_getElem hp]; exact e1
              have g2 : B.getD r d0 = (u, o) := by rw [List.getD_eq_getElem?_getD, List.getElem?_eq_getElem hr]; exact e2
              rcases Nat.lt_trichotomy p r with h5 | h5 | h5
              · have := vldFrom_mono HB.out p r h5 hr
                rw [g1, g2] at this; simp only at this; omega
              · subst h5; exact he (g1.symm.trans g2)
              · have := vldFrom_mono HB.out r p h5 hp
                rw [g1, g2] at this; simp only at this; omega)
            clear he hm hux
            go_wp2
            refine bodyPost_ret (results_tmp rfl _ _ _) rfl ?_
            exact ⟨by rw [HN.out]; rfl, B3.out⟩
      · have HN : Hid (V = true) := Lib.hid (by
          rw [← HV.out, decide_eq_true_iff]
          exact all_at (fun k hk => hin.out k (by rw [H0.out.1] at hk; omega)))
        go_wp2
        refine bodyPost_ret (results_tmp rfl _ _ _) rfl ?_
        exact ⟨by rw [HN.out]; rfl, HBL.out⟩

end Go.Proofs.YtljgcjmelmpgoaaDoor
