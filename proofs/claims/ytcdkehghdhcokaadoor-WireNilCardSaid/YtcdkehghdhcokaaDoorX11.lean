/- Uint, Int, Bytes, Text of the reference. -/
import Derived.Test.YtcdkehghdhcokaaDoorX10
namespace Go.Proofs.YtcdkehghdhcokaaDoor.wr
open Go.RowKit
set_option linter.unusedVariables false

set_option linter.unusedSimpArgs false
set_option maxHeartbeats 4000000 in
set_option maxRecDepth 100000 in
theorem ruint_b (R : Nat) (w : World) (h : St 65 w R none) : Calls Tryd.prog 28 #[.pointer (some ⟨R, 0, none⟩)] w (UPostR w R (0, 5, none)) := by
  have FL := Lib.hid (rfail_b R w h)
  have k0 := cell_of_row w R 0 _ 65 (0, 0) h
  change w.cell? ⟨R, 0, none⟩ = some (.slice none 0 0) at k0
  clear h
  go_enter Tryd.func28, Tryd.ntmps28
  go_wp2
  refine wp_loop_rounds 1 ?_
  rw [rounds_succ]
  go_wp2_with fail
  refine FL.out.mono ?_
  rintro e w2 ⟨rfl, st2, g2⟩
  have S2 := Lib.hid st2
  have G2 := Lib.hid g2
  clear st2 g2 FL
  go_wp2
  refine bodyPost_ret (results_tmp2 rfl _ _ _) rfl ?_
  exact ⟨rfl, S2.out, G2.out⟩
theorem ruint_g (R : Nat) (s : Option (List Int)) (w : World) (h : St 65 w R s) (hby : ∀ L, s = some L → Bytes L) (hlen : ∀ L, s = some L → L.length ≤ 100000) :
    Calls Tryd.prog 28 #[.pointer (some ⟨R, 0, none⟩)] w (UPostR w R (uR s)) := by
  cases s with
  | none => exact ruint_b R w h
  | some L => exact ruint_s R L w h (hby L rfl) (hlen L rfl)
set_option maxHeartbeats 4000000 in
set_option maxRecDepth 100000 in
theorem rint_g (R : Nat) (s : Option (List Int)) (w : World) (h : St 65 w R s) (hby : ∀ L, s = some L → Bytes L) (hlen : ∀ L, s = some L → L.length ≤ 100000) : Calls Tryd.prog 29 #[.pointer (some ⟨R, 0, none⟩)] w (IPost 65 w R (uR s)) := by
  have HU := Lib.hid (ruint_g R s w h hby hlen)
  have hm := uR_lt hby
  clear h hby hlen
  obtain ⟨r, hr⟩ : ∃ r, uR s = r := ⟨_, rfl⟩
  rw [hr] at HU hm ⊢
  clear hr
  obtain ⟨m, er, s'⟩ := r
  dsimp only at hm
  by_cases hp : m % 2 = 0
  · obtain ⟨k, rfl⟩ : ∃ k : Nat, m = 2 * k := ⟨m / 2, by omega⟩
    have ez := Lib.hid (show uzz (2 * k) = (k : Int) by unfold uzz; rw [if_pos hp]; omega)
    have t1 : (2 * (k : Int)).tmod 2 = 0 := by rw [Int.tmod_eq_emod_of_nonneg (by omega)]; omega
    have t2 : (2 * (k : Int)).tdiv 2 = k := by rw [Int.tdiv_eq_ediv_of_nonneg (by omega)]; omega
    have t3 : (2 * (k : Int)) % 2 = 0 := by omega
    have t4 : (2 * (k : Int)) / 2 = k := by omega
    have hk : (k : Int) ≤ 9223372036854775807 := by omega
    unfold IPost
    rw [ez.out]
    clear hp ez
    go_enter Tryd.func29, Tryd.ntmps29
    go_wp2_with fail
    refine HU.out.mono ?_
    rintro e w1 ⟨rfl, hr, hg⟩
    have RR := Lib.hid hr
    have GG := Lib.hid hg
    clear hr hg HU
    dsimp only
    rw [show ((2 * k : Nat) : Int) = 2 * (k : Int) by omega]
    go_wp2
    refine bodyPost_ret (results_tmp2 rfl _ _ _) rfl ?_
    exact ⟨rfl, RR.out, GG.out⟩
  · obtain ⟨k, rfl⟩ : ∃ k : Nat, m = 2 * k + 1 := ⟨m / 2, by omega⟩
    have ez := Lib.hid (show uzz (2 * k + 1) = -(k : Int) - 1 by unfold uzz; rw [if_neg hp]; omega)
    have t1 : (2 * (k : Int) + 1).tmod 2 = 1 := by rw [Int.tmod_eq_emod_of_nonneg (by omega)]; omega
    have t2 : (2 * (k : Int) + 1).tdiv 2 = k := by rw [Int.tdiv_eq_ediv_of_nonneg (by omega)]; omega
    have t3 : (2 * (k : Int) + 1) % 2 = 1 := by omega
    have t4 : (2 * (k : Int) + 1) / 2 = k := by omega
    have hk : (k : Int) ≤ 9223372036854775807 := by omega
    unfold IPost
    rw [ez.out]
    clear hp ez
    go_enter Tryd.func29, Tryd.ntmps29
    go_wp2_with fail
    refine HU.out.mono ?_
    rintro e w1 ⟨rfl, hr, hg⟩
    have RR := Lib.hid hr
    have GG := Lib.hid hg
    clear hr hg HU
    dsimp only
    rw [show ((2 * k + 1 : Nat) : Int) = 2 * (k : Int) + 1 by omega]
    go_wp2
    refine bodyPost_ret (results_tmp2 rfl _ _ _) rfl ?_
    exact ⟨rfl, RR.out, GG.out⟩

end Go.Proofs.YtcdkehghdhcokaaDoor.wr
