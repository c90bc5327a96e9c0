/- How a kernel (a struct of a slice of ints and four ints) that came in by value is opened. -/
import Derived.Test.YtlbmllhjmgccaaaW14
import Derived.ProofKit
import Derived.OpenShut
import Derived.SizedLaws
import Derived.Deep.Fields
import Derived.Lib.SmallJoins
namespace Go.Proofs.Ytlbmllhjmgccaaa
open Go.ChangeShapes Go.WideShapes Go.ChangeAt Go.RowKit Go.Deep
set_option linter.unusedVariables false
theorem ker_own : ownKnob Try.prog.godebug = none := by kernel_rfl
theorem ker_laidOut : laidOutB Try.prog = true := by kernel_rfl
theorem ker_cells : Try.prog.cellsOf 38 = 5 := by kernel_rfl
theorem ker_c22 : Try.prog.cellsOf 22 = 1 := by kernel_rfl
theorem ker_c3 : Try.prog.cellsOf 3 = 1 := by kernel_rfl
theorem ker_bytes : Try.prog.bytesOf 3 = 8 := by kernel_rfl

theorem ker_fields {H : Type} {enc : TypeId × Value → H} {W : World} {v : Value} {d : DataW H} {p : List MemPlace} {base : Nat}
    (hv : Value.okWide Try.prog W .any base 38 v) (h : DataW.Trod enc Try.prog W 0 (fun _ => true) true 38 v d p) :
    ∃ (e0 e1 e2 e3 e4 : Value) (z0 z1 z2 z3 z4 : DataW H × List MemPlace) (n : Nat), v = .agg #[e0, e1, e2, e3, e4] ∧ d = .agg [z0.1, z1.1, z2.1, z3.1, z4.1] ∧
      DataW.trod enc Try.prog W 0 (fun _ => true) true n 22 [e0] = some z0 ∧ DataW.trod enc Try.prog W 0 (fun _ => true) true n 3 [e1] = some z1 ∧ DataW.trod enc Try.prog W 0 (fun _ => true) true n 3 [e2] = some z2 ∧
      DataW.trod enc Try.prog W 0 (fun _ => true) true n 3 [e3] = some z3 ∧ DataW.trod enc Try.prog W 0 (fun _ => true) true n 3 [e4] = some z4 := by
  obtain ⟨cs, rfl, hsz⟩ := okWide_struct Try.underlying38 hv
  obtain ⟨l⟩ := cs
  match l, hsz.trans ker_cells with
  | [e0, e1, e2, e3, e4], _ =>
    obtain ⟨fuel, hf⟩ := h
    obtain ⟨xs, n, _, hx, _, hlen, hg⟩ := DataW.trod_struct Try.underlying38 hf
    match xs, hlen with
    | [z0, z1, z2, z3, z4], _ =>
      simp only [Prod.mk.injEq] at hx
      exact ⟨e0, e1, e2, e3, e4, z0, z1, z2, z3, z4, n, rfl, by simpa using hx.1, by simpa [Value.cells, ker_c22] using hg 0 _ rfl, by simpa [Value.cells, ker_c3] using hg 1 _ rfl,
        by simpa [Value.cells, ker_c3] using hg 2 _ rfl, by simpa [Value.cells, ker_c3] using hg 3 _ rfl, by simpa [Value.cells, ker_c3] using hg 4 _ rfl⟩

theorem ker_open {H : Type} {enc : TypeId × Value → H} {W : World} {v : Value} {d : DataW H} {p : List MemPlace} {base : Nat}
    (hv : Value.okWide Try.prog W .any base 38 v) (h : DataW.Trod enc Try.prog W 0 (fun _ => true) true 38 v d p)
    (hz : (DataW.weightsEach Try.prog [38] [d]).all (fun x => decide (x ≤ reachBytes)) = true) :
    ∃ a len cap zs kh kw st pad, v = .agg #[.slice a len cap, .int .i64 kh, .int .i64 kw, .int .i64 st, .int .i64 pad] ∧ RowIn W a len cap zs ∧ len * 8 ≤ 140737488351232 := by
  obtain ⟨e0, e1, e2, e3, e4, z0, z1, z2, z3, z4, n, rfl, rfl, h0, h1, h2, h3, h4⟩ := ker_fields hv h
  obtain ⟨k1, e1', _, _⟩ := DataW.trod_int Try.underlying3 h1
  obtain ⟨k2, e2', _, _⟩ := DataW.trod_int Try.underlying3 h2
  obtain ⟨k3, e3', _, _⟩ := DataW.trod_int Try.underlying3 h3
  obtain ⟨k4, e4', _, _⟩ := DataW.trod_int Try.underlying3 h4
  simp only [List.cons.injEq, and_true] at e1' e2' e3' e4'
  subst e1' e2' e3' e4'
  rcases open_ints Try.underlying22 Try.underlying3 (by kernel_rfl) h0 with ⟨hcs, _⟩ | ⟨x, l, cp, zs, hcs, _, hl, hm, hzs, hx, hcell, hwz⟩
  · simp only [List.cons.injEq, and_true] at hcs
    subst hcs
    exact ⟨none, 0, 0, [], k1, k2, k3, k4, rfl, .inl ⟨rfl, rfl, rfl, rfl⟩, by omega⟩
  · simp only [List.cons.injEq, and_true] at hcs
    subst hcs
    refine ⟨some x, l, cp, zs, k1, k2, k3, k4, rfl, .inr ⟨x, rfl, hl, hm, by simpa using hzs, hcell, hwz⟩, ?_⟩
    rw [hx] at hz
    simp [DataW.weightsEach, DataW.weights, Try.underlying38, Try.underlying22, ker_bytes, reachBytes] at hz
    have hzl : zs.length = cp := by simpa using hzs
    have hz1 := of_decide_eq_true hz.1
    simp only [lits, List.length_map, List.length_take, List.length_drop] at hz1
    omega
end Go.Proofs.Ytlbmllhjmgccaaa
