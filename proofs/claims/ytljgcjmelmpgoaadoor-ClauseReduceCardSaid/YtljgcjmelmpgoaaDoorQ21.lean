/- Compact: what a walk of it wants. -/
import Derived.Test.YtljgcjmelmpgoaaDoorQ19
import Derived.Test.YtljgcjmelmpgoaaDoorQ16
import Derived.Laws.OwnMore
namespace Go.Proofs.YtljgcjmelmpgoaaDoor
open Go.RowKit
set_option linter.unusedVariables false
theorem compact_two {x y : Lt} : ∀ (A : List Lt), compact (A ++ [x, y]) = if x = y then compact (A ++ [x]) else compact (A ++ [x]) ++ [y]
  | [] => by
    show (if x = y then compact [y] else x :: compact [y]) = _
    split
    · rename_i h; subst h; rfl
    · rfl
  | [a] => by
    have ih := compact_two (x := x) (y := y) []
    show (if a = x then compact [x, y] else a :: compact [x, y]) = if x = y then (if a = x then compact [x] else a :: compact [x]) else (if a = x then compact [x] else a :: compact [x]) ++ [y]
    simp only [List.nil_append] at ih
    rw [ih]
    split <;> split <;> simp
  | a :: b :: A => by
    have ih := compact_two (x := x) (y := y) (b :: A)
    show (if a = b then compact (b :: A ++ [x, y]) else a :: compact (b :: A ++ [x, y])) = if x = y then (if a = b then compact (b :: A ++ [x]) else a :: compact (b :: A ++ [x])) else (if a = b then compact (b :: A ++ [x]) else a :: compact (b :: A ++ [x])) ++ [y]
    rw [ih]
    split <;> split <;> simp
theorem compact_snoc {L : List Lt} {p : Nat} {x y : Lt} (h : p + 1 < L.length) (hx : L.getD p d0 = x) (hy : L.getD (p + 1) d0 = y) : compact (L.take (p + 1 + 1)) = if x = y then compact (L.take (p + 1)) else compact (L.take (p + 1)) ++ [y] := by
  rw [take_snoc h, take_snoc (show p < L.length by omega), hx, hy, List.append_assoc]
  exact compact_two _
theorem compact_same {L : List Lt} : ∀ {k : Nat}, k ≤ L.length → (∀ i, i + 1 < k → L.getD i d0 ≠ L.getD (i + 1) d0) → compact (L.take k) = L.take k
  | 0, _, _ => by rw [List.take_zero]; rfl
  | 1, h, _ => by rw [take_snoc (show 0 < L.length by omega)]; rfl
  | k + 2, h, hn => by
    rw [compact_snoc (by omega) rfl rfl, if_neg (hn k (by omega)), compact_same (by omega) (fun i hi => hn i (by omega))]
    exact (take_snoc (by omega)).symm
theorem compact_length : ∀ (L : List Lt), (compact L).length ≤ L.length
  | [] => Nat.le_refl _
  | [x] => Nat.le_refl _
  | x :: y :: r => by
    have ih := compact_length (y :: r)
    unfold compact
    split
    · exact Nat.le_succ_of_le ih
    · exact Nat.succ_le_succ ih
theorem take_set_len {X C : List Lt} {m : Nat} {y : Lt} (h : X.take m = C) (hm : m < X.length) : (X.set m y).take (m + 1) = C ++ [y] := by
  rw [take_snoc (by simpa using hm), List.take_set_of_le (Nat.le_refl _), h]
  simp [hm]

theorem OwnL.cell {w : World} {base g n cap : Nat} {X : List Lt} (h : OwnL w base (.slice (some ⟨g, 0, none⟩) n cap) X) (hX : X.length = n) {off : Nat} (ho : off = 0) {i : Nat} (hi : i < n) :
    w.cell? ⟨g, off + i * 2, none⟩ = some (.int .i64 (X.getD i d0).1) ∧ w.cell? ⟨g, off + i * 2 + 1, none⟩ = some (.bool (X.getD i d0).2) ∧ w.frozen? ⟨g, off + i * 2, none⟩ = false ∧ w.frozen? ⟨g, off + i * 2 + 1, none⟩ = false := by
  subst ho
  have hv := lvals_at (L := X) (i := i) (by omega)
  unfold OwnL at h
  rw [hX] at h
  have c := World.ownsRow.cellAt h
  have f := World.ownsRow.frozenAt h
  rw [Nat.zero_add]
  exact ⟨(c _ (by omega)).trans hv.1, (c _ (by omega)).trans hv.2, f _, f _⟩
theorem lvals_set : ∀ (X : List Lt) (m : Nat) (x : Lt), lvals (X.set m x) = ((lvals X).set (m * 2) (.int .i64 x.1)).set (m * 2 + 1) (.bool x.2)
  | [], _, _ => rfl
  | y :: X, 0, x => rfl
  | y :: X, m + 1, x => by
    have ih := lvals_set X m x
    show Value.int .i64 y.1 :: .bool y.2 :: lvals (X.set m x) = ((Value.int .i64 y.1 :: .bool y.2 :: lvals X).set ((m + 1) * 2) _).set ((m + 1) * 2 + 1) _
    rw [ih, show (m + 1) * 2 = m * 2 + 1 + 1 by omega]
    rfl
theorem OwnL.set {w : World} {base g n cap : Nat} {X : List Lt} (h : OwnL w base (.slice (some ⟨g, 0, none⟩) n cap) X) (hX : X.length = n) {off : Nat} (ho : off = 0) (m : Nat) (u : Int) (o : Bool) :
    OwnL ((w.setCell ⟨g, off + m * 2, none⟩ (.int .i64 u)).setCell ⟨g, off + m * 2 + 1, none⟩ (.bool o)) base (.slice (some ⟨g, 0, none⟩) n cap) (X.set m (u, o)) := by
  subst ho
  unfold OwnL at h ⊢
  rw [List.length_set, hX, lvals_set, Nat.zero_add]
  rw [hX] at h
  exact (World.ownsRow.stored (World.ownsRow.stored h (m * 2) _).1 (m * 2 + 1) _).1
theorem OwnL.base {w : World} {base g n cap : Nat} {X : List Lt} (h : OwnL w base (.slice (some ⟨g, 0, none⟩) n cap) X) : base ≤ g ∧ n ≤ cap ∧ cap ≤ 9223372036854775807 ∧ g < w.heap.size := by
  rcases h.2 with ⟨hv, _⟩ | ⟨g', cap', cur, hv, hg, hh, h1, h2, _⟩
  · cases hv
  · injection hv with e1 e2 e3
    injection e1 with e1
    injection e1 with e1
    subst e1; subst e3
    exact ⟨hg, by omega, by unfold maxLen at h2; omega, (Array.getElem?_eq_some_iff.1 hh).1⟩
/-- cells of zeros -/
def zlist (n : Nat) : List Value := (Builtin.zeroCells #[.int .i64 0, .bool false] n).toList
theorem zlist_len (n : Nat) : (zlist n).length = n * 2 := by simp [zlist, Builtin.zeroCells]
theorem zlist_one (n : Nat) : ∀ v ∈ zlist n, v.oneCell' = true := by
  intro v hv
  unfold zlist Builtin.zeroCells at hv
  rw [Array.mem_toList_iff, Array.mem_map] at hv
  obtain ⟨i, _, rfl⟩ := hv
  rcases Nat.mod_two_eq_zero_or_one i with e | e
  · simp [e]; rfl
  · simp [e]; rfl
theorem run_clear_lts (w : World) (ty : TypeId) (g off n c : Nat) (hn : 0 < n) (hc : ∀ j, j < n * 2 → (w.cell? ⟨g, off + j, none⟩).isSome = true) (hf : ∀ j, j < n * 2 → w.frozen? ⟨g, off + j, none⟩ = false) :
    (Builtin.clear_ #[22] ty #[.slice (some ⟨g, off, none⟩) n c]).run Tryd.prog w = .ok (.tuple #[]) (w.setCells g off (zlist n)) := by
  have hst := run_storeCells_cells (P := Tryd.prog) g off (zlist n) 0 w (by simpa [zlist_len] using hc) (by simpa [zlist_len] using hf) (zlist_one n)
  simp only [Nat.add_zero] at hst
  unfold zlist at hst
  obtain ⟨m, rfl⟩ : ∃ m, n = m + 1 := ⟨n - 1, by omega⟩
  simp [Builtin.clear_, run_underlying Tryd.underlying22, Tryd.zeroValue30, hst, zlist, Value.cells]
/-- a list with values laid from a place on -/
def setL : List Value → Nat → List Value → List Value
  | xs, _, [] => xs
  | xs, j, v :: r => setL (xs.set j v) (j + 1) r
theorem setL_take : ∀ (vs xs : List Value) (j k : Nat), k ≤ j → (setL xs j vs).take k = xs.take k
  | [], xs, j, k, _ => rfl
  | v :: r, xs, j, k, h => by
    show (setL (xs.set j v) (j + 1) r).take k = _
    rw [setL_take r _ (j + 1) k (by omega), List.take_set_of_le h]
theorem row_setCells {base g n cap : Nat} : ∀ (vs xs : List Value) (j : Nat) (w : World), w.ownsRow base 30 2 (.slice (some ⟨g, 0, none⟩) n cap) n xs → (w.setCells g j vs).ownsRow base 30 2 (.slice (some ⟨g, 0, none⟩) n cap) n (setL xs j vs) ∧ w.grownBy (w.setCells g j vs) (some g)
  | [], xs, j, w, h => ⟨h, ⟨rfl, rfl, rfl, Nat.le_refl _, fun _ _ _ => rfl⟩⟩
  | v :: r, xs, j, w, h => by
    have h1 := World.ownsRow.stored h j v
    have h2 := row_setCells r (xs.set j v) (j + 1) _ h1.1
    refine ⟨h2.1, ⟨h2.2.os.trans h1.2.os, h2.2.tape.trans h1.2.tape, h2.2.output.trans h1.2.output, Nat.le_trans h1.2.size h2.2.size, fun k hk hne => ?_⟩⟩
    exact (h2.2.block k (Nat.lt_of_lt_of_le hk h1.2.size) hne).trans (h1.2.block k hk hne)
theorem row_shrink {w : World} {base g n m cap : Nat} {xs : List Value} (h : w.ownsRow base 30 2 (.slice (some ⟨g, 0, none⟩) n cap) n xs) (hm : m ≤ n) : w.ownsRow base 30 2 (.slice (some ⟨g, 0, none⟩) m cap) m (xs.take (m * 2)) := by
  have hl := h.1
  rcases h.2 with ⟨hv, _⟩ | ⟨g', cap', cur, hv, hg, hh, h1, h2, h3, h4⟩
  · cases hv
  · injection hv with e1 e2 e3
    injection e1 with e1
    injection e1 with e1
    subst e1; subst e3
    refine ⟨by rw [List.length_take, hl]; omega, .inr ⟨g, cap, cur, rfl, hg, hh, by omega, h2, h3, ?_⟩⟩
    rw [← h4, List.take_take]; congr 1; omega
theorem lvals_take : ∀ (X : List Lt) (m : Nat), (lvals X).take (m * 2) = lvals (X.take m)
  | [], m => by simp [lvals]
  | x :: X, 0 => by simp; rfl
  | x :: X, m + 1 => by
    rw [show (m + 1) * 2 = m * 2 + 1 + 1 by omega]
    show (Value.int .i64 x.1 :: .bool x.2 :: lvals X).take (m * 2 + 1 + 1) = Value.int .i64 x.1 :: .bool x.2 :: lvals (X.take m)
    rw [List.take_succ_cons, List.take_succ_cons, lvals_take X m]
theorem OwnL.cleared {w : World} {base g n m cap : Nat} {X C : List Lt} (h : OwnL w base (.slice (some ⟨g, 0, none⟩) n cap) X) (hX : X.length = n) {off : Nat} (ho : off = 0) (hm : m ≤ n) (hC : X.take m = C) (vs : List Value) :
    OwnL (w.setCells g (off + m * 2) vs) base (.slice (some ⟨g, 0, none⟩) m cap) C ∧ w.grownBy (w.setCells g (off + m * 2) vs) (some g) := by
  subst ho
  unfold OwnL at h ⊢
  rw [hX] at h
  rw [Nat.zero_add]
  obtain ⟨h1, h2⟩ := row_setCells vs (lvals X) (m * 2) w h
  have h3 := row_shrink h1 hm
  rw [setL_take _ _ _ _ (Nat.le_refl _), lvals_take, hC] at h3
  have hCl : C.length = m := by rw [← hC, List.length_take]; omega
  rw [hCl]
  exact ⟨h3, h2⟩

end Go.Proofs.YtljgcjmelmpgoaaDoor
