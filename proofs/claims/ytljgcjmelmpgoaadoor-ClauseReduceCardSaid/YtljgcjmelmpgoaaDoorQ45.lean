/- Lists of clauses are compared. -/
import Derived.Test.YtljgcjmelmpgoaaDoorQ43
import Derived.Test.YtljgcjmelmpgoaaDoorQ12
import Derived.Deep.RegionHeld3
namespace Go.Proofs.YtljgcjmelmpgoaaDoor
open Go.RowKit
set_option linter.unusedVariables false

def snds (K : List Cl) : List (List Lt) := K.map Prod.snd
theorem snds_no {K L : List Cl} {i : Nat} (h : (K.getD i c0).2 ≠ (L.getD i c0).2) (hi : i < K.length) (hl : K.length = L.length) : decide (snds K = snds L) = false := by
  rw [decide_eq_false_iff_not]
  intro e
  have := congrArg (fun x => x[i]?) e
  simp only [snds, List.getElem?_map] at this
  rw [List.getElem?_eq_getElem hi, List.getElem?_eq_getElem (hl ▸ hi)] at this
  rw [List.getD_eq_getElem?_getD, List.getElem?_eq_getElem hi, List.getD_eq_getElem?_getD, List.getElem?_eq_getElem (hl ▸ hi)] at h
  exact h (Option.some.inj this)
theorem snds_yes {K L : List Cl} (hl : K.length = L.length) (h : ∀ k, k < K.length → (K.getD k c0).2 = (L.getD k c0).2) : decide (snds K = snds L) = true := by
  rw [decide_eq_true_iff]
  apply List.ext_getElem (by simp [snds, hl])
  intro k h1 h2
  have hk : k < K.length := by simpa [snds] using h1
  have := h k hk
  rw [List.getD_eq_getElem?_getD, List.getElem?_eq_getElem hk, List.getD_eq_getElem?_getD, List.getElem?_eq_getElem (hl ▸ hk)] at this
  simpa [snds] using this
set_option maxHeartbeats 8000000 in
set_option maxRecDepth 100000 in
theorem sameall_c (a0 : Option Addr) (n0 c0' : Nat) (K : List Cl) (a1 : Option Addr) (n1 c1 : Nat) (L : List Cl) (w : World) (h0 : SlC w a0 n0 c0' K) (h1 : SlC w a1 n1 c1 L) :
    Calls Tryd.prog 28 #[.slice a0 n0 c0', .slice a1 n1 c1] w fun e w' => e = .returned (.bool (decide (snds K = snds L))) ∧ Below w.heap.size w w' := by
  have H0 := Lib.hid h0
  have H1 := Lib.hid h1
  have b0 := h0.1.2.1
  have b0' := h0.1.2.2.1
  clear h0 h1
  by_cases hne : n0 = n1
  · subst hne
    obtain ⟨V, hV⟩ : ∃ V, decide (snds K = snds L) = V := ⟨_, rfl⟩
    rw [hV]
    have HV := Lib.hid hV
    clear hV
    go_enter Tryd.func28, Tryd.ntmps28
    go_wp2
    go_loopw [5] (fun s wr => ∃ i : Nat, i ≤ n0 ∧ s = .int .i64 (i : Nat) ∧ Hid (∀ k, k < i → (K.getD k c0).2 = (L.getD k c0).2) ∧ Hid (Below w.heap.size w wr)) (fun s _ => n0 - (RowKit.intOf s).toNat)
    case atStart => exact ⟨0, by omega, rfl, Lib.hid (fun k hk => absurd hk (Nat.not_lt_zero k)), Lib.hid (Below.refl _ _)⟩
    case round =>
      obtain ⟨i, hi, rfl, hno, HB⟩ := hrel
      by_cases hlt : i < n0
      · obtain ⟨b, off, rfl, hb, hc⟩ := (H0.out.below HB.out).at (by omega)
        obtain ⟨p, o2, rfl, hp, hd⟩ := (H1.out.below HB.out).at (by omega)
        have k0 := hc i hlt
        have m0 := hd i hlt
        clear hc hd
        have HX := Lib.hid ((H0.out.below HB.out).entry hlt)
        have HY := Lib.hid ((H1.out.below HB.out).entry hlt)
        obtain ⟨x, hx⟩ : ∃ x, K.getD i c0 = x := ⟨_, rfl⟩
        obtain ⟨y, hy⟩ : ∃ x, L.getD i c0 = x := ⟨_, rfl⟩
        rw [hx] at k0 HX
        rw [hy] at m0 HY
        have HXE := Lib.hid hx
        have HYE := Lib.hid hy
        clear hx hy
        obtain ⟨⟨xa, xn, xc⟩, X⟩ := x
        obtain ⟨⟨ya, yn, yc⟩, Y⟩ := y
        replace k0 : wr.cell? ⟨b, off + i, none⟩ = some (.slice xa xn xc) := k0
        replace m0 : wr.cell? ⟨p, o2 + i, none⟩ = some (.slice ya yn yc) := m0
        have HX' : Hid (SlL wr xa xn xc X) := HX
        have HY' : Hid (SlL wr ya yn yc Y) := HY
        clear HX HY
        have hi0 : (0 : Int) ≤ (i : Int) := by omega
        have hi1 : (i : Int) < (n0 : Int) := by omega
        have hcon : Hid (∀ W, Below wr.heap.size wr W → Calls Tryd.prog 14 #[.slice xa xn xc, .slice ya yn yc] W fun e w' => e = .returned (.bool (decide (X = Y))) ∧ Below W.heap.size W w') := Lib.hid (fun W hW => same_c xa xn xc X ya yn yc Y W (HX'.out.below hW) (HY'.out.below hW))
        have BD : Hid (Below wr.heap.size wr wr.drew) := Lib.hid (below_drewN (Below.refl _ _) 1)
        obtain ⟨t, ht⟩ : ∃ t, decide (X = Y) = t := ⟨_, rfl⟩
        rw [ht] at hcon
        have HT := Lib.hid ht
        clear ht
        have KB : Hid (∀ w1, Below wr.drew.heap.size wr.drew w1 → (w1.cell? ⟨b, off + i, none⟩ = some (.slice xa xn xc) ∧ w1.cell? ⟨p, o2 + i, none⟩ = some (.slice ya yn yc)) ∧ Hid (Below w.heap.size w w1)) := Lib.hid (by
          intro w1 hb1
          have hb2 : Below wr.heap.size wr w1 := BD.out.trans hb1
          exact ⟨⟨(hb2.cell (p := ⟨b, off + i, none⟩) hb).trans k0, (hb2.cell (p := ⟨p, o2 + i, none⟩) hp).trans m0⟩, Lib.hid (HB.out.trans (hb2.mono HB.out.size))⟩)
        go_upto_region 6 with fail
        go_region_held3 (fun w' => w'.cell? ⟨b, off + i, none⟩ = some (.slice xa xn xc) ∧ w'.cell? ⟨p, o2 + i, none⟩ = some (.slice ya yn yc)) (first | exact ⟨s0, s1⟩ | exact ⟨k0, m0⟩ | go_keep)
          (first
            | (go_at_call 14; ((with_reducible refine Calls.mono (hcon.out _ BD.out) ?_); rintro e w7 ⟨rfl, hb7⟩; obtain ⟨⟨s0, s1⟩, bw⟩ := KB.out _ hb7; clear hb7)))
        cases t with
        | true =>
          have HI : Hid (∀ k, k < i + 1 → (K.getD k c0).2 = (L.getD k c0).2) := Lib.hid (fun k hk => by
            by_cases hki : k = i
            · rw [hki, HXE.out, HYE.out]; exact of_decide_eq_true HT.out
            · exact hno.out k (by omega))
          go_wp2
          go_roundw
          case rel => exact ⟨i + 1, by omega, by go_num, HI, bw⟩
          case measure => simp [RowKit.intOf]; omega
        | false =>
          have HN : Hid (V = false) := Lib.hid (by
            rw [← HV.out]
            refine snds_no (i := i) ?_ (by rw [H0.out.1.1]; exact hlt) (by rw [H0.out.1.1, H1.out.1.1])
            rw [HXE.out, HYE.out]; exact of_decide_eq_false HT.out)
          go_wp2
          refine bodyPost_ret (results_tmp rfl _ _ _) rfl ?_
          exact ⟨by rw [HN.out]; rfl, bw.out⟩
      · have HN : Hid (V = true) := Lib.hid (by rw [← HV.out]; exact snds_yes (by rw [H0.out.1.1, H1.out.1.1]) (fun k hk => hno.out k (by rw [H0.out.1.1] at hk; omega)))
        have hne : ¬ (i : Int) < (n0 : Int) := by omega
        go_wp2
        refine bodyPost_ret (results_tmp rfl _ _ _) rfl ?_
        exact ⟨by rw [HN.out]; rfl, HB.out⟩
  · have HN : Hid (decide (snds K = snds L) = false) := Lib.hid (by
      rw [decide_eq_false_iff_not]; intro e
      have := congrArg List.length e
      simp only [snds, List.length_map] at this
      rw [H0.out.1.1, H1.out.1.1] at this
      exact hne this)
    have hnb : (n0 == n1) = false := by rw [beq_eq_false_iff_ne]; exact hne
    go_enter Tryd.func28, Tryd.ntmps28
    go_wp2
    refine bodyPost_ret (results_tmp rfl _ _ _) rfl ?_
    exact ⟨by rw [HN.out]; rfl, Below.refl _ _⟩

end Go.Proofs.YtljgcjmelmpgoaaDoor
