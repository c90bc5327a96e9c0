/- How numbers that came in are opened. -/
import Derived.Test.YtbdmljdcipcanaaV8
import Derived.OpenShut
import Derived.ChangeOld
import Derived.SizedLaws
import Derived.Deep.Fields
import Derived.Lib.SmallJoins
namespace Go.Proofs.Ytbdmljdcipcanaa
open Go.RowKit
set_option linter.unusedVariables false

open Go.ChangeShapes Go.WideShapes Go.ChangeAt Go.Deep
theorem cells31 : Try.prog.cellsOf 31 = 3 := by kernel_rfl
theorem cells29 : Try.prog.cellsOf 29 = 1 := by kernel_rfl
theorem cells4 : Try.prog.cellsOf 4 = 1 := by kernel_rfl
theorem wf_u32 {n : Int} (h : (Lit.int .u32 n).wf = true) : 0 ≤ n ∧ n < 4294967296 := by
  have h2 : 0 ≤ n ∧ n ≤ 4294967295 := by simpa [Lit.wf, IntKind.min, IntKind.max, IntKind.signed, IntKind.bits] using h
  omega
theorem slw_of_trod {H : Type} {enc : TypeId × Value → H} {W : World} {e1 : Value} {z1 : DataW H × List MemPlace} {n : Nat} (hf : DataW.trod enc Try.prog W 0 (fun _ => true) true n 29 [e1] = some z1) : ∃ a len cap l, e1 = .slice a len cap ∧ SlW W a len cap l := by
  rcases open_ints Try.underlying29 Try.underlying53 (by kernel_rfl) hf with ⟨hcs, _⟩ | ⟨x, len, cap, zs, hcs, _, hl, hm, hz, _, hcell, hwz⟩
  · simp only [List.cons.injEq, and_true] at hcs
    subst hcs
    exact ⟨none, 0, 0, [], rfl, rfl, Nat.le_refl _, by omega, fun x hx => (by cases hx), .inl rfl⟩
  · simp only [List.cons.injEq, and_true] at hcs
    subst hcs
    have hlz : len ≤ zs.length := by rw [hz]; split <;> omega
    refine ⟨some x, len, cap, zs.take len, rfl, ?_, hl, by unfold maxLen at hm; exact hm, ?_, ?_⟩
    · rw [List.length_take]; omega
    · intro y hy
      exact wf_u32 (hwz y (List.mem_of_mem_take hy))
    · by_cases h0 : len = 0
      · exact .inl h0
      · right
        obtain ⟨b, off, spot⟩ := x
        have hc0 := hcell 0 (by omega)
        have hspot : spot = none := by simpa [Addr.add] using World.cell?_spot hc0
        subst hspot
        have hb : b < W.heap.size := by
          rw [Addr.add_mid] at hc0
          rcases Nat.lt_or_ge b W.heap.size with h | h
          · exact h
          · simp [World.cell?, Array.getElem?_eq_none h] at hc0
        refine ⟨b, off, rfl, hb, fun i hi => ?_⟩
        have := hcell i (by omega)
        rw [Addr.add_mid] at this
        rw [this]
        simp [List.getD, hi]
theorem nat_open {H : Type} {enc : TypeId × Value → H} {W : World} {v : Value} {d : DataW H} {p : List MemPlace} {base : Nat}
    (hv : Value.okWide Try.prog W .any base 29 v) (h : DataW.Trod enc Try.prog W 0 (fun _ => true) true 29 v d p) : ∃ a len cap l, v = .slice a len cap ∧ SlW W a len cap l := by
  obtain ⟨a, len, cap, rfl⟩ := okWide_slice Try.underlying29 hv
  obtain ⟨fuel, hf⟩ := h
  obtain ⟨a', len', cap', l, e, hs⟩ := slw_of_trod hf
  injection e with e1 e2 e3
  subst e1; subst e2; subst e3
  exact ⟨_, _, _, l, rfl, hs⟩
theorem rat_open {H : Type} {enc : TypeId × Value → H} {W : World} {v : Value} {d : DataW H} {p : List MemPlace} {base : Nat}
    (hv : Value.okWide Try.prog W .any base 31 v) (h : DataW.Trod enc Try.prog W 0 (fun _ => true) true 31 v d p) : ∃ s a1 n1 c1 L1 a2 n2 c2 L2, v = .agg #[.bool s, .slice a1 n1 c1, .slice a2 n2 c2] ∧ SlW W a1 n1 c1 L1 ∧ SlW W a2 n2 c2 L2 := by
  obtain ⟨cs, rfl, hsz⟩ := okWide_struct Try.underlying31 hv
  obtain ⟨l⟩ := cs
  match l, hsz.trans cells31 with
  | [e0, e1, e2], _ =>
    obtain ⟨fuel, hf⟩ := h
    obtain ⟨xs, n, _, hx, _, hlen, hg⟩ := DataW.trod_struct Try.underlying31 hf
    match xs, hlen with
    | [z0, z1, z2], _ =>
      have h0 : DataW.trod enc Try.prog W 0 (fun _ => true) true n 4 [e0] = some z0 := by simpa [Value.cells, cells4] using hg 0 _ rfl
      have h1 : DataW.trod enc Try.prog W 0 (fun _ => true) true n 29 [e1] = some z1 := by simpa [Value.cells, cells4, cells29] using hg 1 _ rfl
      have h2 : DataW.trod enc Try.prog W 0 (fun _ => true) true n 29 [e2] = some z2 := by simpa [Value.cells, cells4, cells29] using hg 2 _ rfl
      obtain ⟨a, len, cap, ll, rfl, hr⟩ := slw_of_trod h1
      obtain ⟨a', len', cap', ll', rfl, hr'⟩ := slw_of_trod h2
      obtain ⟨s, hs, _, _⟩ := DataW.trod_bool Try.underlying4 h0
      simp only [List.cons.injEq, and_true] at hs
      subst hs
      exact ⟨s, a, len, cap, ll, a', len', cap', ll', rfl, hr, hr'⟩

end Go.Proofs.Ytbdmljdcipcanaa
