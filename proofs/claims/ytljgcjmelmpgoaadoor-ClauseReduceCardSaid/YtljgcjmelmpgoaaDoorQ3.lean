/- The reference: Has. -/
import Derived.Test.YtljgcjmelmpgoaaDoorQ3a
namespace Go.Proofs.YtljgcjmelmpgoaaDoor
open Go.RowKit
set_option linter.unusedVariables false

theorem mem_at {L : List Lt} {i : Nat} {x : Lt} (h : i < L.length) (e : L.getD i d0 = x) : x ∈ L := by
  rw [← e, List.getD_eq_getElem?_getD, List.getElem?_eq_getElem h]
  exact List.getElem_mem h
theorem not_mem {L : List Lt} {x : Lt} (h : ∀ k, k < L.length → L.getD k d0 ≠ x) : x ∉ L := fun hm => by
  obtain ⟨k, hk, e⟩ := List.getElem_of_mem hm
  refine h k hk ?_
  rw [List.getD_eq_getElem?_getD, List.getElem?_eq_getElem hk]
  exact e
set_option maxHeartbeats 2000000 in
set_option maxRecDepth 100000 in
theorem has_c (ad : Option Addr) (n cap : Nat) (L : List Lt) (v : Int) (q : Bool) (w : World) (hs : SlL w ad n cap L) :
    Calls Tryd.prog 39 #[.slice ad n cap, .agg #[.int .i64 v, .bool q]] w fun e w' => e = .returned (.bool (decide ((v, q) ∈ L))) ∧ Below w.heap.size w w' := by
  have HS := Lib.hid hs
  have hcap : n ≤ 9223372036854775807 := by have := hs.2.1; have := hs.2.2.1; omega
  clear hs
  have hx0 : (w.alloc (.cells #[.int .i64 v, .bool q] 30)).cell? ⟨w.heap.size, 0, none⟩ = some (.int .i64 v) := by rw [cell_of_row _ w.heap.size 0 _ 30 (0, 0) (heap_alloc_new w _)]; rfl
  have hx1 : (w.alloc (.cells #[.int .i64 v, .bool q] 30)).cell? ⟨w.heap.size, 1, none⟩ = some (.bool q) := by rw [cell_of_row _ w.heap.size 1 _ 30 (0, 0) (heap_alloc_new w _)]; rfl
  have BX : Hid (Below w.heap.size w (w.alloc (.cells #[.int .i64 v, .bool q] 30))) := Lib.hid ((Below.refl _ _).alloc (Nat.le_refl _) _)
  have HX0 := Lib.hid hx0
  have HX1 := Lib.hid hx1
  clear hx0 hx1
  obtain ⟨bx, hbx⟩ : ∃ x, w.heap.size = x := ⟨_, rfl⟩
  obtain ⟨w1, hw1⟩ : ∃ x, w.alloc (.cells #[.int .i64 v, .bool q] 30) = x := ⟨_, rfl⟩
  have lbx : bx < w1.heap.size := by rw [← hw1, ← hbx]; simp
  have HBX := Lib.hid hbx
  have HW1 := Lib.hid hw1
  rw [hbx, hw1] at HX0 HX1
  rw [hw1] at BX
  clear hbx hw1
  go_enter Tryd.func39, Tryd.ntmps39
  go_wp2
  rw [HW1.out, HBX.out]
  go_loopw [5] (fun s wr => ∃ i : Nat, i ≤ n ∧ s = .int .i64 (i : Nat) ∧ Hid (∀ k, k < i → L.getD k d0 ≠ (v, q)) ∧ Hid (Below w1.heap.size w1 wr)) (fun s _ => n - (intOf s).toNat)
  case atStart => exact ⟨0, by omega, rfl, Lib.hid (fun k hk => absurd hk (Nat.not_lt_zero k)), Lib.hid (Below.refl _ _)⟩
  case round =>
    obtain ⟨i, hi, rfl, hno, HB⟩ := hrel
    have BB : Hid (Below w.heap.size w wr) := Lib.hid (BX.out.trans (HB.out.mono BX.out.size))
    by_cases hlt : i < n
    · obtain ⟨b, off, rfl, hb, hc⟩ := (HS.out.below BB.out).at (by omega)
      obtain ⟨k0, k1⟩ := hc i hlt
      clear hc
      have x0 := (HB.out.cell (p := ⟨bx, 0, none⟩) lbx).trans HX0.out
      have x1 := (HB.out.cell (p := ⟨bx, 1, none⟩) lbx).trans HX1.out
      obtain ⟨u, hu⟩ : ∃ u, (L.getD i d0).1 = u := ⟨_, rfl⟩
      obtain ⟨o, ho⟩ : ∃ o, (L.getD i d0).2 = o := ⟨_, rfl⟩
      rw [hu] at k0
      rw [ho] at k1
      have HE : Hid (L.getD i d0 = (u, o)) := Lib.hid (by rw [← hu, ← ho])
      clear hu ho
      have hi0 : (0 : Int) ≤ (i : Int) := by omega
      have hi1 : (i : Int) < (n : Int) := by omega
      have hg := eqg30
      by_cases he : ((u, o) : Int × Bool) = (v, q)
      · have hq := lit_eq_yes he
        have HM : Hid ((v, q) ∈ L) := Lib.hid (mem_at (by rw [HS.out.1]; exact hlt) (HE.out.trans he))
        clear he
        go_wp2
        go_quiet (fail)
        go_wp2
        refine bodyPost_ret (results_tmp rfl _ _ _) rfl ?_
        exact ⟨by rw [decide_eq_true HM.out]; rfl, below_drewN BB.out _⟩
      · have hq := lit_eq_no he
        have HE2 : Hid (L.getD i d0 ≠ (v, q)) := Lib.hid (by rw [HE.out]; exact he)
        clear he
        go_wp2
        go_quiet (fail)
        go_wp2
        go_roundw
        case rel => exact ⟨i + 1, by omega, by go_num, Lib.hid (fun k hk => by
          rcases Nat.lt_or_ge k i with h | h
          · exact hno.out k h
          · obtain rfl : k = i := by omega
            exact HE2.out), Lib.hid (below_drewN HB.out _)⟩
        case measure => simp [intOf]; omega
    · have hin : i = n := by omega
      have HM : Hid ((v, q) ∉ L) := Lib.hid (not_mem (fun k hk => hno.out k (by rw [HS.out.1] at hk; omega)))
      go_wp2
      refine bodyPost_ret (results_tmp rfl _ _ _) rfl ?_
      exact ⟨by rw [decide_eq_false HM.out]; rfl, BB.out⟩

end Go.Proofs.YtljgcjmelmpgoaaDoor
