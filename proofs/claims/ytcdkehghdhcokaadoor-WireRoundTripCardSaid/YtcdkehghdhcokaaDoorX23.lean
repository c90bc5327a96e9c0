/- How numbers that came in are opened. -/
import Derived.Test.YtcdkehghdhcokaaDoorX20
import Derived.Test.YtcdkehghdhcokaaDoorX7
namespace Go.Proofs.YtcdkehghdhcokaaDoor.wr
open Go.ChangeShapes Go.WideShapes Go.ChangeAt Go.RowKit Go.Deep
set_option linter.unusedVariables false
theorem cells39 : Tryd.prog.cellsOf 39 = 6 := by kernel_rfl
theorem cells37 : Tryd.prog.cellsOf 37 = 3 := by kernel_rfl
theorem cells35 : Tryd.prog.cellsOf 35 = 1 := by kernel_rfl
theorem cells33 : Tryd.prog.cellsOf 33 = 1 := by kernel_rfl
theorem cells22 : Tryd.prog.cellsOf 22 = 1 := by kernel_rfl
theorem cells4 : Tryd.prog.cellsOf 4 = 1 := by kernel_rfl
theorem cells3 : Tryd.prog.cellsOf 3 = 1 := by kernel_rfl
set_option maxRecDepth 100000 in
theorem wf_u32 {n : Int} (h : (Lit.int .u32 n).wf = true) : 0 ≤ n ∧ n < 4294967296 := by
  have h2 : 0 ≤ n ∧ n ≤ 4294967295 := by simpa [Lit.wf, IntKind.min, IntKind.max, IntKind.signed, IntKind.bits] using h
  omega
set_option maxRecDepth 100000 in
theorem slw_of_trod {H : Type} {enc : TypeId × Value → H} {W : World} {e1 : Value} {z1 : DataW H × List MemPlace} {n : Nat} (hf : DataW.trod enc Tryd.prog W 0 (fun _ => true) true n 35 [e1] = some z1) : ∃ a len cap l, e1 = .slice a len cap ∧ SlW W a len cap l ∧ (a = none → cap = 0) := by
  rcases open_ints Tryd.underlying35 Tryd.underlying60 (by kernel_rfl) hf with ⟨hcs, _⟩ | ⟨x, len, cap, zs, hcs, _, hl, hm, hz, _, hcell, hwz⟩
  · simp only [List.cons.injEq, and_true] at hcs
    subst hcs
    exact ⟨none, 0, 0, [], rfl, ⟨rfl, Nat.le_refl _, by omega, fun x hx => (by cases hx), .inl rfl⟩, fun _ => rfl⟩
  · simp only [List.cons.injEq, and_true] at hcs
    subst hcs
    have hlz : len ≤ zs.length := by rw [hz]; split <;> omega
    refine ⟨some x, len, cap, zs.take len, rfl, ⟨?_, hl, by unfold maxLen at hm; exact hm, ?_, ?_⟩, fun h => (by cases h)⟩
    · rw [List.length_take]; omega
    · intro y hy
      exact wf_u32 (hwz y (List.mem_of_mem_take hy))
    · by_cases h0 : len = 0
      · exact .inl h0
      · right
        obtain ⟨b, off, spot⟩ := x
        have hc0 := hcell 0 (by omega)
        have hspot : spot = none := by simpa [Addr.add] using World.cell?_spot hc0
        subst hspot
        have hb : b < W.heap.size := by
          rw [Addr.add_mid] at hc0
          rcases Nat.lt_or_ge b W.heap.size with h | h
          · exact h
          · simp [World.cell?, Array.getElem?_eq_none h] at hc0
        refine ⟨b, off, rfl, hb, fun i hi => ?_⟩
        have := hcell i (by omega)
        rw [Addr.add_mid] at this
        rw [this]
        simp [List.getD, hi]
set_option maxRecDepth 100000 in
theorem rat_of_trod {H : Type} {enc : TypeId × Value → H} {W : World} {e0 e1 e2 : Value} {z : DataW H × List MemPlace} {fuel : Nat} (hf : DataW.trod enc Tryd.prog W 0 (fun _ => true) true fuel 37 [e0, e1, e2] = some z) : ∃ s a len cap l a' len' cap' l', e0 = .bool s ∧ e1 = .slice a len cap ∧ e2 = .slice a' len' cap' ∧ (SlW W a len cap l ∧ (a = none → cap = 0)) ∧ (SlW W a' len' cap' l' ∧ (a' = none → cap' = 0)) := by
  obtain ⟨xs, n, _, hx, hlen, hg⟩ := DataW.trod_struct Tryd.underlying37 hf
  match xs, hlen with
  | [z0, z1, z2], _ =>
    have h0 : DataW.trod enc Tryd.prog W 0 (fun _ => true) true n 4 [e0] = some z0 := by simpa [Value.cells, cells4] using hg.2 0 _ rfl
    have h1 : DataW.trod enc Tryd.prog W 0 (fun _ => true) true n 35 [e1] = some z1 := by simpa [Value.cells, cells4, cells35] using hg.2 1 _ rfl
    have h2 : DataW.trod enc Tryd.prog W 0 (fun _ => true) true n 35 [e2] = some z2 := by simpa [Value.cells, cells4, cells35] using hg.2 2 _ rfl
    obtain ⟨a, len, cap, ll, rfl, hr⟩ := slw_of_trod h1
    obtain ⟨a', len', cap', ll', rfl, hr'⟩ := slw_of_trod h2
    obtain ⟨s, hs, _, _⟩ := DataW.trod_bool Tryd.underlying4 h0
    simp only [List.cons.injEq, and_true] at hs
    exact ⟨s, a, len, cap, ll, a', len', cap', ll', hs, rfl, rfl, hr, hr'⟩
set_option maxRecDepth 100000 in
theorem num_open {H : Type} {enc : TypeId × Value → H} {W : World} {v : Value} {d : DataW H} {p : List MemPlace} {base : Nat}
    (hv : Value.okWide Tryd.prog W .any base 39 v) (h : DataW.Trod enc Tryd.prog W 0 (fun _ => true) true 39 v d p) :
    ∃ (N : Nat) (i : Int) (s : Bool) (a1 : Option Addr) (n1 c1 : Nat) (l1 : List Int) (a2 : Option Addr) (n2 c2 : Nat) (l2 : List Int) (a3 : Option Addr) (n3 c3 : Nat) (l3 : List Int),
      v = .agg #[.int .u64 (N : Nat), .int .i64 i, .bool s, .slice a1 n1 c1, .slice a2 n2 c2, .slice a3 n3 c3] ∧ N < 18446744073709551616 ∧ (-9223372036854775808 ≤ i ∧ i ≤ 9223372036854775807) ∧
      (SlW W a1 n1 c1 l1 ∧ (a1 = none → c1 = 0)) ∧ (SlW W a2 n2 c2 l2 ∧ (a2 = none → c2 = 0)) ∧ SlB W a3 n3 c3 l3 ∧ Bytes l3 := by
  obtain ⟨cs, rfl, hsz⟩ := okWide_struct Tryd.underlying39 hv
  obtain ⟨l⟩ := cs
  match l, hsz.trans cells39 with
  | [e0, e1, e2, e3, e4, e5], _ =>
    obtain ⟨fuel, hf⟩ := h
    obtain ⟨xs, n, _, hx, hlen, hg⟩ := DataW.trod_struct Tryd.underlying39 hf
    match xs, hlen with
    | [z0, z1, z2, z3], _ =>
      have h0 : DataW.trod enc Tryd.prog W 0 (fun _ => true) true n 33 [e0] = some z0 := by simpa [Value.cells, cells33] using hg.2 0 _ rfl
      have h1 : DataW.trod enc Tryd.prog W 0 (fun _ => true) true n 3 [e1] = some z1 := by simpa [Value.cells, cells33, cells3] using hg.2 1 _ rfl
      have h2 : DataW.trod enc Tryd.prog W 0 (fun _ => true) true n 37 [e2, e3, e4] = some z2 := by simpa [Value.cells, cells33, cells3, cells37] using hg.2 2 _ rfl
      have h3 : DataW.trod enc Tryd.prog W 0 (fun _ => true) true n 22 [e5] = some z3 := by simpa [Value.cells, cells33, cells3, cells37, cells22] using hg.2 3 _ rfl
      obtain ⟨k0, q0, _, w0⟩ := DataW.trod_int Tryd.underlying33 h0
      obtain ⟨k1, q1, _, w1⟩ := DataW.trod_int Tryd.underlying3 h1
      obtain ⟨s, a1, n1, c1, l1, a2, n2, c2, l2, rfl, rfl, rfl, r1, r2⟩ := rat_of_trod h2
      obtain ⟨a3, n3, c3, l3, rfl, r3, b3⟩ := sl_of_trod h3
      simp only [List.cons.injEq, and_true] at q0 q1
      subst q0; subst q1
      have g0 : 0 ≤ k0 ∧ k0 ≤ 18446744073709551615 := by simpa [Lit.wf, IntKind.min, IntKind.max, IntKind.signed, IntKind.bits] using w0
      have g1 : -9223372036854775808 ≤ k1 ∧ k1 ≤ 9223372036854775807 := by simpa [Lit.wf, IntKind.min, IntKind.max, IntKind.signed, IntKind.bits] using w1
      refine ⟨k0.toNat, k1, s, a1, n1, c1, l1, a2, n2, c2, l2, a3, n3, c3, l3, ?_, by omega, g1, r1, r2, r3, b3⟩
      rw [Int.toNat_of_nonneg g0.1]
end Go.Proofs.YtcdkehghdhcokaaDoor.wr
