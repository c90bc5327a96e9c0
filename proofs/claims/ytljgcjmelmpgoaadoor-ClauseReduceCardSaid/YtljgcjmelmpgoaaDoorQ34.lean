/- Laws: Subsumes. -/
import Derived.Test.YtljgcjmelmpgoaaDoorQ33
import Derived.Test.YtljgcjmelmpgoaaDoorQ29
import Derived.Test.YtljgcjmelmpgoaaDoorQ18
namespace Go.Proofs.YtljgcjmelmpgoaaDoor
open Go.RowKit
set_option linter.unusedVariables false

theorem bits_of (b0 b1 b2 b3 b4 b5 : Bool) : ∃ n : Nat, n < 64 ∧ bitOn (n : Int) 0 = b0 ∧ bitOn (n : Int) 1 = b1 ∧ bitOn (n : Int) 2 = b2 ∧ bitOn (n : Int) 3 = b3 ∧ bitOn (n : Int) 4 = b4 ∧ bitOn (n : Int) 5 = b5 := by
  refine ⟨(if b0 then 1 else 0) + (if b1 then 2 else 0) + (if b2 then 4 else 0) + (if b3 then 8 else 0) + (if b4 then 16 else 0) + (if b5 then 32 else 0), ?_⟩
  revert b0 b1 b2 b3 b4 b5
  decide +kernel
theorem bits_fn (f : Int → Bool) : ∃ n : Nat, n < 64 ∧ ∀ u : Int, 0 ≤ u → u < 6 → bitOn (n : Int) u = f u := by
  obtain ⟨n, hn, h0, h1, h2, h3, h4, h5⟩ := bits_of (f 0) (f 1) (f 2) (f 3) (f 4) (f 5)
  refine ⟨n, hn, fun u a b => ?_⟩
  have : u = 0 ∨ u = 1 ∨ u = 2 ∨ u = 3 ∨ u = 4 ∨ u = 5 := by omega
  rcases this with rfl | rfl | rfl | rfl | rfl | rfl <;> assumption
theorem holds_iff {bits : Int} {L : List Lt} : holdsL bits L = true ↔ ∃ x ∈ L, bitOn bits x.1 = x.2 := by
  unfold holdsL
  rw [List.any_eq_true]
  constructor
  · rintro ⟨x, hx, h⟩; exact ⟨x, hx, by simpa using h⟩
  · rintro ⟨x, hx, h⟩; exact ⟨x, hx, by simpa using h⟩
theorem small_mem {L : List Lt} (h : smallL L = true) : ∀ x ∈ L, 0 ≤ x.1 ∧ x.1 < 6 := by
  intro x hx
  unfold smallL at h
  have := List.all_eq_true.1 h x hx
  simpa using this
theorem subs_imp {A B : List Lt} (hA : vld A = true) (hB : vld B = true) (sA : smallL A = true) (sB : smallL B = true) :
    (∀ k : Nat, k < 64 → holdsL (k : Int) A = true → holdsL (k : Int) B = true) ↔ subs A B = true := by
  have e : subs A B = decide (∀ x ∈ A, x ∈ B) := by unfold subs; rw [hA, hB]; rfl
  rw [e, decide_eq_true_iff]
  constructor
  · intro h x hx
    refine Classical.byContradiction (fun hn => ?_)
    obtain ⟨n, hn64, hb⟩ := bits_fn (fun u => if u = x.1 then x.2 else !(decide ((u, true) ∈ B)))
    obtain ⟨x0, x6⟩ := small_mem sA x hx
    have ha := holds_iff.2 ⟨x, hx, by rw [hb _ x0 x6]; simp⟩
    obtain ⟨y, hy, hyb⟩ := holds_iff.1 (h n hn64 ha)
    obtain ⟨y0, y6⟩ := small_mem sB y hy
    rw [hb _ y0 y6] at hyb
    by_cases hyx : y.1 = x.1
    · rw [if_pos hyx] at hyb
      exact hn (by rw [show x = y from Prod.ext hyx.symm hyb]; exact hy)
    · rw [if_neg hyx] at hyb
      obtain ⟨yu, yo⟩ := y
      cases yo with
      | true => simp [hy] at hyb
      | false =>
        simp at hyb
        have := asc_inj (vld_iff.1 hB).1 _ hy _ hyb rfl
        injection this with _ h2
        cases h2
  · intro h k _ hk
    obtain ⟨x, hx, hb⟩ := holds_iff.1 hk
    exact holds_iff.2 ⟨x, h x hx, hb⟩
theorem sound_math {A B : List Lt} {x : Int} {bits : Int} (hA : vld A = true) (hB : vld B = true) (hC : clash A B x = true) (h1 : holdsL bits A = true) (h2 : holdsL bits B = true) : holdsL bits (made (but x (A ++ B))) = true := by
  obtain ⟨y, hy, hyb⟩ := holds_iff.1 h1
  obtain ⟨z, hz, hzb⟩ := holds_iff.1 h2
  have mem : ∀ t : Lt, t ∈ A ++ B → t.1 ≠ x → t ∈ made (but x (A ++ B)) := fun t ht hne => by
    rw [mem_made]
    unfold but
    rw [List.mem_filter]
    exact ⟨ht, by simpa using hne⟩
  by_cases hyx : y.1 = x
  · by_cases hzx : z.1 = x
    · exfalso
      have hyz : y.2 = z.2 := by rw [← hyb, ← hzb, hyx, hzx]
      have hyA : (x, y.2) ∈ A := by rw [← hyx]; exact hy
      have hzB : (x, z.2) ∈ B := by rw [← hzx]; exact hz
      have := clash_of hA hB hyA hzB
      rw [hC, hyz] at this
      simp at this
    · exact holds_iff.2 ⟨z, mem z (List.mem_append_right _ hz) hzx, hzb⟩
  · exact holds_iff.2 ⟨y, mem y (List.mem_append_left _ hy) hyx, hyb⟩
theorem rlist_small {A B : List Lt} {x : Int} (sA : smallL A = true) (sB : smallL B = true) : smallL (rlist A B x) = true := by
  unfold rlist
  split
  · split
    · unfold smallL
      rw [List.all_eq_true]
      intro y hy
      rw [mem_made] at hy
      unfold but at hy
      rw [List.mem_filter] at hy
      rcases List.mem_append.1 hy.1 with h | h
      · simpa using small_mem sA y h
      · simpa using small_mem sB y h
    · rfl
  · rfl
theorem rcode_zero {A B : List Lt} {x : Int} (h : rcode A B x = 0) : vld A = true ∧ vld B = true ∧ clash A B x = true ∧ rlist A B x = made (but x (A ++ B)) := by
  unfold rcode at h
  split at h
  · rename_i h1
    split at h
    · rename_i h2
      have h3 := h1
      simp only [Bool.and_eq_true] at h1
      refine ⟨h1.1.1, h1.1.2, h1.2, ?_⟩
      unfold rlist
      rw [if_pos h3, if_pos h2]
    · cases h
  · cases h
theorem SlC.two {w' : World} {a0 a1 : Option Addr} {n0 c0 n1 c1 : Nat} {A B : List Lt} {g : Nat} (hg : w'.heap[g]? = some (.cells #[.slice a0 n0 c0, .slice a1 n1 c1] 24 (0, 0))) (h0 : SlL w' a0 n0 c0 A) (h1 : SlL w' a1 n1 c1 B) :
    SlC w' (some ⟨g, 0, none⟩) 2 2 [((a0, n0, c0), A), ((a1, n1, c1), B)] := by
  refine ⟨⟨rfl, Nat.le_refl _, by omega, .inr ⟨g, 0, rfl, lt_of_block hg, fun i hi => ?_⟩⟩, fun x hx => ?_⟩
  · rw [cell_of_row w' g _ _ 24 (0, 0) hg, Nat.zero_add]
    match i, hi with
    | 0, _ => rfl
    | 1, _ => rfl
  · simp at hx
    rcases hx with rfl | rfl
    · exact h0
    · exact h1
theorem smallC_two {a0 a1 : Option Addr} {n0 c0 n1 c1 : Nat} {A B : List Lt} : smallC [((a0, n0, c0), A), ((a1, n1, c1), B)] = (smallL A && smallL B) := by
  simp [smallC]
def AllTo (al : Bool) (i : Nat) (A B : List Lt) : Prop := al = true ↔ ∀ k : Nat, k < i → holdsL (k : Int) A = true → holdsL (k : Int) B = true
theorem fin_bits {i : Nat} (h : i < 64) : (0 : Int) ≤ (i : Int) ∧ (i : Int) < 64 := by omega
set_option maxHeartbeats 8000000 in
set_option maxRecDepth 100000 in
theorem lawSubsumes (a0 : Option Addr) (n0 c0 : Nat) (A : List Lt) (a1 : Option Addr) (n1 c1 : Nat) (B : List Lt) (w : World) (h0 : SlL w a0 n0 c0 A) (h1 : SlL w a1 n1 c1 B) :
    Calls Tryd.prog 4 #[.slice a0 n0 c0, .slice a1 n1 c1] w fun e w' => e = .returned (.bool true) ∧ Below w.heap.size w w' := by
  have H0 := Lib.hid h0
  have H1 := Lib.hid h1
  clear h0 h1
  go_enter Tryd.func4, Tryd.ntmps4
  go_wp2_with fail
  refine Calls.mono (awake_c w) ?_
  rintro e w1 ⟨rfl, hb1⟩
  have B1 := Lib.hid hb1
  clear hb1
  by_cases g0 : (30 : Int) < (n0 : Int)
  · go_wp2
    refine bodyPost_ret (results_tmp rfl _ _ _) rfl ?_
    exact ⟨rfl, B1.out⟩
  · by_cases g1 : (30 : Int) < (n1 : Int)
    · go_wp2
      refine bodyPost_ret (results_tmp rfl _ _ _) rfl ?_
      exact ⟨rfl, B1.out⟩
    · go_wp2_with fail
      refine Calls.mono (subsumes_c a0 n0 c0 A a1 n1 c1 B w1 (H0.out.below B1.out) (H1.out.below B1.out) (by omega)) ?_
      rintro e w2 ⟨rfl, hb2⟩
      have B2 := Lib.hid (B1.out.trans (hb2.mono B1.out.size))
      clear hb2
      obtain ⟨s, hs⟩ : ∃ s, subs A B = s := ⟨_, rfl⟩
      have HS := Lib.hid hs
      rw [hs]
      clear hs
      go_wp2_with fail
      refine Calls.mono (rsubsumes_c a0 n0 c0 A a1 n1 c1 B w2 (H0.out.below B2.out) (H1.out.below B2.out)) ?_
      rintro e w3 ⟨rfl, hb3⟩
      have B3 := Lib.hid (B2.out.trans (hb3.mono B2.out.size))
      clear hb3
      rw [HS.out]
      have hsn : (s != s) = false := by simp
      have B4 := Lib.hid (B3.out.alloc B3.out.size (.cells #[.slice a0 n0 c0, .slice a1 n1 c1] 24))
      have K4 := Lib.hid (SlC.two (heap_alloc_new w3 (.cells #[.slice a0 n0 c0, .slice a1 n1 c1] 24)) (H0.out.below B4.out) (H1.out.below B4.out))
      go_wp2_with fail
      refine Calls.mono (small_c _ 2 2 _ _ K4.out) ?_
      rintro e w5 ⟨rfl, hb5⟩
      have B5 := Lib.hid (B4.out.trans (hb5.mono B4.out.size))
      rw [smallC_two]
      clear hb5 K4 B4
      clear hsn
      cases hsA : smallL A with
      | false =>
        clear hsA
        go_wp2
        refine bodyPost_ret (results_tmp rfl _ _ _) rfl ?_
        exact ⟨rfl, B5.out⟩
      | true =>
        cases hsB : smallL B with
        | false =>
          clear hsA hsB
          go_wp2
          refine bodyPost_ret (results_tmp rfl _ _ _) rfl ?_
          exact ⟨rfl, B5.out⟩
        | true =>
          have HSA := Lib.hid hsA
          have HSB := Lib.hid hsB
          clear hsA hsB
          rw [show (true && true) = true from rfl]
          go_wp2_with fail
          refine Calls.mono (rvalid_c a0 n0 c0 A w5 (H0.out.below B5.out)) ?_
          rintro e w6 ⟨rfl, hb6⟩
          have B6 := Lib.hid (B5.out.trans (hb6.mono B5.out.size))
          clear hb6
          cases hA : vld A with
          | false =>
            clear hA
            go_wp2
            refine bodyPost_ret (results_tmp rfl _ _ _) rfl ?_
            exact ⟨rfl, B6.out⟩
          | true =>
            have HA := Lib.hid hA
            clear hA
            go_wp2_with fail
            refine Calls.mono (rvalid_c a1 n1 c1 B w6 (H1.out.below B6.out)) ?_
            rintro e w7 ⟨rfl, hb7⟩
            have B7 := Lib.hid (B6.out.trans (hb7.mono B6.out.size))
            clear hb7
            cases hB : vld B with
            | false =>
              clear hB
              go_wp2
              refine bodyPost_ret (results_tmp rfl _ _ _) rfl ?_
              exact ⟨rfl, B7.out⟩
            | true =>
              have HB := Lib.hid hB
              clear hB
              have HEND := Lib.hid (subs_imp HA.out HB.out HSA.out HSB.out)
              go_wp2
              go_loopw [6, 7, 41] (fun s6 s7 t wr => ∃ (i : Nat) (al : Bool), i ≤ 64 ∧ t = .int .i64 (i : Nat) ∧ s6 = .bool al ∧ Hid (AllTo al i A B) ∧ Hid (Below w.heap.size w wr)) (fun _ _ t _ => 64 - (RowKit.intOf t).toNat)
              case atStart => exact ⟨0, true, by omega, rfl, rfl, Lib.hid ⟨fun _ k hk => absurd hk (Nat.not_lt_zero k), fun _ => rfl⟩, B7⟩
              case round =>
                obtain ⟨i, al, hi, rfl, rfl, HAL, HBL⟩ := hrel
                by_cases hlt : i < 64
                · have hi0 : (0 : Int) ≤ (i : Int) := by omega
                  have hi1 : (i : Int) < 64 := by omega
                  cases al with
                  | false =>
                    have HN : Hid (AllTo false (i + 1) A B) := Lib.hid ⟨(fun h => by cases h), fun h => HAL.out.2 (fun k hk => h k (by omega))⟩
                    go_wp2
                    go_roundw
                    case rel => exact ⟨i + 1, false, by omega, by go_num, rfl, HN, HBL⟩
                    case measure => simp [RowKit.intOf]; omega
                  | true =>
                    have hall := Lib.hid (HAL.out.1 rfl)
                    go_wp2_with fail
                    refine Calls.mono (holds_c a0 n0 c0 A i wr (H0.out.below HBL.out) (fun j hj => smallL_iff.1 HSA.out j (by rw [H0.out.1]; exact hj)) (fin_bits hlt)) ?_
                    rintro e w8 ⟨rfl, hb8⟩
                    have B8 := Lib.hid (HBL.out.trans (hb8.mono HBL.out.size))
                    clear hb8
                    cases hh : holdsL (i : Int) A with
                    | false =>
                      have HN : Hid (AllTo true (i + 1) A B) := Lib.hid ⟨fun _ k hk => by
                        by_cases hki : k = i
                        · subst hki; rw [hh]; intro h; cases h
                        · exact hall.out k (by omega), fun _ => rfl⟩
                      clear hh
                      go_wp2
                      go_roundw
                      case rel => exact ⟨i + 1, true, by omega, by go_num, rfl, HN, B8⟩
                      case measure => simp [RowKit.intOf]; omega
                    | true =>
                      have HH := Lib.hid hh
                      clear hh
                      go_wp2_with fail
                      refine Calls.mono (holds_c a1 n1 c1 B i w8 (H1.out.below B8.out) (fun j hj => smallL_iff.1 HSB.out j (by rw [H1.out.1]; exact hj)) (fin_bits hlt)) ?_
                      rintro e w9 ⟨rfl, hb9⟩
                      have B9 := Lib.hid (B8.out.trans (hb9.mono B8.out.size))
                      clear hb9
                      obtain ⟨q, hq⟩ : ∃ q, holdsL (i : Int) B = q := ⟨_, rfl⟩
                      have HQ := Lib.hid hq
                      rw [hq]
                      clear hq
                      have HN : Hid (AllTo q (i + 1) A B) := Lib.hid ⟨fun h k hk => by
                        by_cases hki : k = i
                        · subst hki; intro _; rw [HQ.out]; exact h
                        · exact hall.out k (by omega), fun h => by rw [← HQ.out]; exact h i (by omega) HH.out⟩
                      go_wp2
                      go_roundw
                      case rel => exact ⟨i + 1, q, by omega, by go_num, rfl, HN, B9⟩
                      case measure => simp [RowKit.intOf]; omega
                · have hne : ¬ (i : Int) < 64 := by omega
                  have hse : (al == s) = true := by
                    obtain rfl : i = 64 := by omega
                    have h := HAL.out.trans HEND.out
                    rw [HS.out] at h
                    cases al <;> cases s <;> simp_all
                  go_wp2
                  refine bodyPost_ret (results_tmp rfl _ _ _) rfl ?_
                  exact ⟨by simp, HBL.out⟩

end Go.Proofs.YtljgcjmelmpgoaaDoor
