/- What the rows' readings give the walks: limbs, the listed table. -/
import Derived.Test.YtbcakefhknjbeaaDoorRows
import Derived.Test.YtbcakefhknjbeaaDoorJ1
import Derived.ProofKit
import Derived.LaidMore
import Derived.OpenShut
import Derived.Lib.LaidTab
import Derived.SizedLaws
import Derived.Deep.Fields
import Derived.Lib.SmallJoins
namespace Go.Proofs.YtbcakefhknjbeaaDoor
open Go.ChangeShapes Go.WideShapes Go.ChangeAt Go.RowKit Go.Deep
set_option linter.unusedVariables false
theorem own : ownKnob Tryd.prog.godebug = none := by kernel_rfl
theorem laidOut : laidOutB Tryd.prog = true := by kernel_rfl
theorem gTab : Tryd.prog.globalNamed "math/bits.deBruijn64tab" = some 0 := by kernel_rfl
theorem tTab : (Tryd.prog.globals[0]?).map (·.type) = some 105 := by kernel_rfl
def laidL : List (String × DataW Unit) := [("math/bits.deBruijn64tab", Rows.laid_math_bits_deBruijn64tab)]
def tabZ : List Int := Lib.deBruijn64tab.map fun (n : Nat) => (n : Int)
theorem laidL_eq : laidL = [("math/bits.deBruijn64tab", Lib.tabData .u8 tabZ)] := rfl
theorem door_met (os : Os) (args : Array Value) : laidMetH Tryd.prog laidL ((World.doorLaid Tryd.prog 400 os).forCall (fun _ _ => 0) ⟨#[], args, []⟩).memory :=
  laidMetH_of_parts3 (fuel := 8) (laidMet_of_run' 8 (by kernel_rfl) (by kernel_rfl)) (by kernel_rfl) (by kernel_rfl)
theorem tab_of_laid {W : World} (h : laidMetH Tryd.prog laidL W) : Tab W := by
  rw [MakeChecks.laidMetH_plain _ _ _ (by kernel_rfl), laidL_eq] at h
  have hT := Lib.tabIs_of_head gTab tTab Tryd.underlying105 Tryd.underlying5 (by kernel_rfl) (by kernel_rfl) h
  intro j hj
  have := hT.cell gTab j (by simpa [tabZ, Lib.deBruijn64tab] using hj)
  rw [this]
  simp only [tabZ, List.getD_eq_getElem?_getD, List.getElem?_map]
  cases Lib.deBruijn64tab[j]? <;> rfl
theorem wf_u32 {n : Int} (h : (Lit.int .u32 n).wf = true) : 0 ≤ n ∧ n < 4294967296 := by
  have h2 : 0 ≤ n ∧ n ≤ 4294967295 := by simpa [Lit.wf, IntKind.min, IntKind.max, IntKind.signed, IntKind.bits] using h
  omega
theorem wf_u16 {n : Int} (h : (Lit.int .u16 n).wf = true) : 0 ≤ n ∧ n < 65536 := by
  have h2 : 0 ≤ n ∧ n ≤ 65535 := by simpa [Lit.wf, IntKind.min, IntKind.max, IntKind.signed, IntKind.bits] using h
  omega
theorem wf_u8 {n : Int} (h : (Lit.int .u8 n).wf = true) : 0 ≤ n ∧ n < 256 := by
  have h2 : 0 ≤ n ∧ n ≤ 255 := by simpa [Lit.wf, IntKind.min, IntKind.max, IntKind.signed, IntKind.bits] using h
  omega
set_option maxRecDepth 100000 in
theorem c32 : Tryd.prog.cellsOf 32 = 3 := by kernel_rfl
set_option maxRecDepth 100000 in
theorem c35 : Tryd.prog.cellsOf 35 = 6 := by kernel_rfl
theorem c23 : Tryd.prog.cellsOf 23 = 1 := by kernel_rfl
theorem c4 : Tryd.prog.cellsOf 4 = 1 := by kernel_rfl
set_option maxRecDepth 100000 in
theorem rd_of_trod {H : Type} {enc : TypeId × Value → H} {W : World} {e1 : Value} {z1 : DataW H × List MemPlace} {n : Nat} (hf : DataW.trod enc Tryd.prog W 0 (fun _ => true) true n 23 [e1] = some z1) : ∃ a len cap l, e1 = .slice a len cap ∧ Rd W a len cap l := by
  rcases open_ints Tryd.underlying23 Tryd.underlying24 (by kernel_rfl) hf with ⟨hcs, _⟩ | ⟨x, len, cap, zs, hcs, _, hl, hm, hz, _, hcell, hwz⟩
  · simp only [List.cons.injEq, and_true] at hcs
    subst hcs
    exact ⟨none, 0, 0, [], rfl, Rd.nil W⟩
  · simp only [List.cons.injEq, and_true] at hcs
    subst hcs
    have hlz : len ≤ zs.length := by rw [hz]; split <;> omega
    refine ⟨some x, len, cap, (zs.take len).map Int.toNat, rfl, ⟨by rw [List.length_map, List.length_take]; omega, hl, by unfold maxLen at hm; exact hm, ?_, (fun h => by cases h), ?_⟩⟩
    · intro y hy
      obtain ⟨n, hn, rfl⟩ := List.mem_map.1 hy
      have := wf_u32 (hwz n (List.mem_of_mem_take hn))
      rw [BB_eq]; omega
    · by_cases h0 : len = 0
      · exact .inl h0
      · right
        obtain ⟨b, off, spot⟩ := x
        have hc0 := hcell 0 (by omega)
        have hspot : spot = none := by simpa [Addr.add] using World.cell?_spot hc0
        subst hspot
        refine ⟨b, off, rfl, fun i hi => ?_⟩
        have := hcell i (by omega)
        rw [show (⟨b, off, none⟩ : Addr).add i = ⟨b, off + i, none⟩ from by unfold Addr.add; split <;> simp_all] at this
        rw [this]
        have hw := wf_u32 (hwz (zs.getD i 0) (by rw [List.getD_eq_getElem?_getD, List.getElem?_eq_getElem (show i < zs.length by omega)]; simp))
        have e : (((zs.take len).map Int.toNat).getD i 0) = (zs.getD i 0).toNat := by
          simp only [List.getD_eq_getElem?_getD, List.getElem?_map, List.getElem?_take_of_lt hi]
          cases zs[i]? <;> rfl
        rw [e, Int.toNat_of_nonneg hw.1]
set_option maxRecDepth 100000 in
theorem rat_of_trod {H : Type} {enc : TypeId × Value → H} {W : World} {e0 e1 e2 : Value} {z : DataW H × List MemPlace} {fuel : Nat} (hf : DataW.trod enc Tryd.prog W 0 (fun _ => true) true fuel 32 [e0, e1, e2] = some z) : ∃ s a len cap l a' len' cap' l', e0 = .bool s ∧ e1 = .slice a len cap ∧ e2 = .slice a' len' cap' ∧ Rd W a len cap l ∧ Rd W a' len' cap' l' := by
  obtain ⟨xs, n, _, hx, hlen, hg⟩ := DataW.trod_struct Tryd.underlying32 hf
  match xs, hlen with
  | [z0, z1, z2], _ =>
    have h0 : DataW.trod enc Tryd.prog W 0 (fun _ => true) true n 4 [e0] = some z0 := by simpa [Value.cells, c4] using hg.2 0 _ rfl
    have h1 : DataW.trod enc Tryd.prog W 0 (fun _ => true) true n 23 [e1] = some z1 := by simpa [Value.cells, c4, c23] using hg.2 1 _ rfl
    have h2 : DataW.trod enc Tryd.prog W 0 (fun _ => true) true n 23 [e2] = some z2 := by simpa [Value.cells, c4, c23] using hg.2 2 _ rfl
    obtain ⟨a, len, cap, ll, rfl, hr⟩ := rd_of_trod h1
    obtain ⟨a', len', cap', ll', rfl, hr'⟩ := rd_of_trod h2
    obtain ⟨s, hs, _, _⟩ := DataW.trod_bool Tryd.underlying4 h0
    simp only [List.cons.injEq, and_true] at hs
    exact ⟨s, a, len, cap, ll, a', len', cap', ll', hs, rfl, rfl, hr, hr'⟩
set_option maxRecDepth 100000 in
theorem iv_open {H : Type} {enc : TypeId × Value → H} {W : World} {v : Value} {d : DataW H} {p : List MemPlace} {base : Nat}
    (hv : Value.okWide Tryd.prog W .any base 35 v) (h : DataW.Trod enc Tryd.prog W 0 (fun _ => true) true 35 v d p) :
    ∃ s a len cap l a' len' cap' l' s2 b m c r b' m' c' r', v = .agg #[.bool s, .slice a len cap, .slice a' len' cap', .bool s2, .slice b m c, .slice b' m' c'] ∧ Rd W a len cap l ∧ Rd W a' len' cap' l' ∧ Rd W b m c r ∧ Rd W b' m' c' r' := by
  obtain ⟨cs, rfl, hsz⟩ := okWide_struct Tryd.underlying35 hv
  obtain ⟨l⟩ := cs
  match l, hsz.trans c35 with
  | [e0, e1, e2, e3, e4, e5], _ =>
    obtain ⟨fuel, hf⟩ := h
    obtain ⟨xs, n, _, hx, hlen, hg⟩ := DataW.trod_struct Tryd.underlying35 hf
    match xs, hlen with
    | [z0, z1], _ =>
      have h0 : DataW.trod enc Tryd.prog W 0 (fun _ => true) true n 32 [e0, e1, e2] = some z0 := by simpa [Value.cells, c32] using hg.2 0 _ rfl
      have h1 : DataW.trod enc Tryd.prog W 0 (fun _ => true) true n 32 [e3, e4, e5] = some z1 := by simpa [Value.cells, c32] using hg.2 1 _ rfl
      obtain ⟨s, a, len, cap, ll, a', len', cap', ll', rfl, rfl, rfl, hr, hr'⟩ := rat_of_trod h0
      obtain ⟨s2, b, m, c, r, b', m', c', r', rfl, rfl, rfl, hr2, hr2'⟩ := rat_of_trod h1
      exact ⟨s, a, len, cap, ll, a', len', cap', ll', s2, b, m, c, r, b', m', c', r', rfl, hr, hr', hr2, hr2'⟩
end Go.Proofs.YtbcakefhknjbeaaDoor
