/- Limbs that are written in place. -/
import Derived.Test.YtgoiechhhnhgaaaDoorA6
namespace Go.Proofs.YtgoiechhhnhgaaaDoor
open Go.RowKit
set_option linter.unusedVariables false
/-- limbs in a block, which may be written -/
structure Win (w : World) (b off n : Nat) (L : List Nat) : Prop where
  len_eq : L.length = n
  lim : Lim L
  cell : ∀ i, i < n → w.cell? ⟨b, off + i, none⟩ = some (.int .u32 ((L.getD i 0 : Nat) : Int))
  free : ∀ i, i < n → w.frozen? ⟨b, off + i, none⟩ = false
/-- only cells lo .. hi of block b differ -/
structure Only (b lo up : Nat) (w w' : World) : Prop where
  os : w'.os = w.os
  tape : w'.tape = w.tape
  output : w'.output = w.output
  size : w'.heap.size = w.heap.size
  block : ∀ k, k ≠ b → w'.heap[k]? = w.heap[k]?
  cell : ∀ i, (i < lo ∨ up ≤ i) → w'.cell? ⟨b, i, none⟩ = w.cell? ⟨b, i, none⟩
  froz : ∀ i, w'.frozen? ⟨b, i, none⟩ = w.frozen? ⟨b, i, none⟩
theorem Only.refl (b lo up : Nat) (w : World) : Only b lo up w w := ⟨rfl, rfl, rfl, rfl, fun _ _ => rfl, fun _ _ => rfl, fun _ => rfl⟩
theorem Only.trans {b lo up : Nat} {w w' w'' : World} (h : Only b lo up w w') (k : Only b lo up w' w'') : Only b lo up w w'' :=
  ⟨k.1.trans h.1, k.2.trans h.2, k.3.trans h.3, k.4.trans h.4, fun i hi => (k.5 i hi).trans (h.5 i hi), fun i hi => (k.6 i hi).trans (h.6 i hi), fun i => (k.7 i).trans (h.7 i)⟩
theorem Only.widen {b lo up lo' up' : Nat} {w w' : World} (h : Only b lo up w w') (h1 : lo' ≤ lo) (h2 : up ≤ up') : Only b lo' up' w w' :=
  ⟨h.1, h.2, h.3, h.4, h.5, fun i hi => h.6 i (by omega), h.7⟩
theorem Only.drewN {b lo up : Nat} {w w' : World} (h : Only b lo up w w') (n : Nat) : Only b lo up w (w'.drewN n) := ⟨h.1, h.2, h.3, h.4, h.5, h.6, h.7⟩
theorem Only.dr {b lo up : Nat} {w w' w'' : World} (h : Only b lo up w w') (d : Dr w' w'') : Only b lo up w w'' := by obtain ⟨n, rfl⟩ := d; exact h.drewN n
theorem Only.set {b lo up : Nat} {w w' : World} (h : Only b lo up w w') {j : Nat} (h1 : lo ≤ j) (h2 : j < up) (v : Value) : Only b lo up w (w'.setCell ⟨b, j, none⟩ v) := by
  refine ⟨h.1, h.2, h.3, by simp [h.4], fun k hk => ?_, fun i hi => ?_, fun i => ?_⟩
  · rw [Below.heap_setCell _ _ _ _ (by exact hk)]; exact h.5 k hk
  · rw [World.cell?_setCell_other _ _ _ _ (by intro e; injection e; omega)]; exact h.6 i hi
  · rw [World.frozen?_setCell]; exact h.7 i
theorem Only.below {b lo up : Nat} {w w' : World} (h : Only b lo up w w') {B : Nat} (hB : B ≤ b) : Below B w w' :=
  ⟨h.1, h.2, h.3, by rw [h.4]; omega, fun k hk => h.5 k (by omega)⟩
/-- a slice that lies in another block, or is empty -/
def Far (a : Option Addr) (len b : Nat) : Prop := len = 0 ∨ ∀ y, a = some y → y.block ≠ b
theorem Rd.only {b lo up : Nat} {w w' : World} {a : Option Addr} {len cap : Nat} {l : List Nat} (h : Rd w a len cap l) (ho : Only b lo up w w') (hf : Far a len b) : Rd w' a len cap l := by
  obtain ⟨h1, h2, h3, h4, h6, h5⟩ := h
  refine ⟨h1, h2, h3, h4, h6, ?_⟩
  rcases h5 with h5 | ⟨b', off, e, h5⟩
  · exact .inl h5
  rcases hf with hf | hf
  · exact .inl hf
  · exact .inr ⟨b', off, e, fun i hi => (World.cell?_of_block (w := w) (a := ⟨b', off + i, none⟩) (ho.block _ (show b' ≠ b from hf _ e))).trans (h5 i hi)⟩
theorem Rd.far {w : World} {a : Option Addr} {len cap : Nat} {l : List Nat} (h : Rd w a len cap l) {b : Nat} (hb : w.heap.size ≤ b) : Far a len b := by
  rcases h.cells with h5 | ⟨b', off, e, h5⟩
  · exact .inl h5
  · by_cases h0 : len = 0
    · exact .inl h0
    · right
      rintro y e2
      have := World.block_lt_of_cell? w _ (h5 0 (by omega))
      rw [e] at e2
      injection e2 with e2
      subst e2
      simp at this ⊢
      omega
theorem Win.set {w : World} {b off n : Nat} {L : List Nat} (h : Win w b off n L) {i : Nat} (hi : i < n) {x : Nat} (hx : x < BB) : Win (w.setCell ⟨b, off + i, none⟩ (.int .u32 (x : Int))) b off n (L.set i x) := by
  refine ⟨by simp [h.len_eq], ?_, fun j hj => ?_, fun j hj => by rw [World.frozen?_setCell]; exact h.free j hj⟩
  · intro y hy
    rcases List.mem_or_eq_of_mem_set hy with h1 | h1
    · exact h.lim y h1
    · rw [h1]; exact hx
  · by_cases hij : i = j
    · subst hij
      rw [World.cell?_setCell_same _ _ _ (h.cell i hi)]
      simp [List.getD_eq_getElem?_getD, h.len_eq, hi]
    · rw [World.cell?_setCell_other _ _ _ _ (by intro e; injection e; omega), h.cell j hj]
      simp [List.getD_eq_getElem?_getD, hij]
theorem Win.dr {w w' : World} {b off n : Nat} {L : List Nat} (h : Win w b off n L) (d : Dr w w') : Win w' b off n L := by obtain ⟨m, rfl⟩ := d; exact ⟨h.1, h.2, h.3, h.4⟩
theorem Win.rd {w : World} {b off n : Nat} {L : List Nat} (h : Win w b off n L) {cap : Nat} (h1 : n ≤ cap) (h2 : cap ≤ 9223372036854775807) : Rd w (some ⟨b, off, none⟩) n cap L :=
  ⟨h.len_eq, h1, h2, h.lim, (fun h => by cases h), .inr ⟨b, off, rfl, h.cell⟩⟩
theorem Win.sub {w : World} {b off n : Nat} {L : List Nat} (h : Win w b off n L) {k m : Nat} (hk : k + m ≤ n) : Win w b (off + k) m ((L.drop k).take m) := by
  refine ⟨by simp [h.len_eq]; omega, (h.lim.drop k).take m, fun i hi => ?_, fun i hi => by rw [Nat.add_assoc]; exact h.free _ (by omega)⟩
  rw [Nat.add_assoc, h.cell _ (by omega)]
  simp [List.getD_eq_getElem?_getD, hi]
theorem getD_put {L M : List Nat} {k m i : Nat} (hk : k + m ≤ L.length) (hm : M.length = m) :
    (L.take k ++ M ++ L.drop (k + m)).getD i 0 = if i < k then L.getD i 0 else if i < k + m then M.getD (i - k) 0 else L.getD i 0 := by
  have h0 : (L.take k).length = k := by simp; omega
  have h3 : (L.take k ++ M).length = k + m := by simp; omega
  simp only [List.getD_eq_getElem?_getD]
  by_cases h1 : i < k
  · rw [if_pos h1, List.getElem?_append_left (by omega), List.getElem?_append_left (by omega), List.getElem?_take_of_lt h1]
  · rw [if_neg h1]
    by_cases h2 : i < k + m
    · rw [if_pos h2, List.getElem?_append_left (by omega), List.getElem?_append_right (by omega), h0]
    · rw [if_neg h2, List.getElem?_append_right (by omega), h3, List.getElem?_drop, show k + m + (i - (k + m)) = i from by omega]
theorem Win.put {w w' : World} {b off n : Nat} {L M : List Nat} (h : Win w b off n L) {k m : Nat} (hk : k + m ≤ n) (ho : Only b (off + k) (off + k + m) w w') (hm : Win w' b (off + k) m M) :
    Win w' b off n (L.take k ++ M ++ L.drop (k + m)) := by
  have hl := h.len_eq
  have hml := hm.len_eq
  refine ⟨by simp; omega, (h.lim.take k |>.append hm.lim).append (h.lim.drop _), fun i hi => ?_, fun i hi => by rw [ho.froz]; exact h.free i hi⟩
  rw [getD_put (by omega) hml]
  by_cases h1 : i < k
  · rw [ho.cell _ (by omega), h.cell i hi, if_pos h1]
  · rw [if_neg h1]
    by_cases h2 : i < k + m
    · have := hm.cell (i - k) (by omega)
      rw [show off + k + (i - k) = off + i from by omega] at this
      rw [this, if_pos h2]
    · rw [ho.cell _ (by omega), h.cell i hi, if_neg h2]
theorem Win.owns {w : World} {base : Nat} {a : Option Addr} {c : Nat} {l : List Nat} (h : w.ownsRow base 42 1 (.slice a l.length c) l.length (lv l)) (hl : Lim l) (h0 : l ≠ []) :
    ∃ g, a = some ⟨g, 0, none⟩ ∧ base ≤ g ∧ g < w.heap.size ∧ l.length ≤ c ∧ c ≤ 9223372036854775807 ∧ Win w g 0 l.length l := by
  rcases h.2 with ⟨e, h1⟩ | ⟨g, cap, cur, e, hg, hh, hlc, hcm, _⟩
  · exact absurd (List.length_eq_zero_iff.1 h1) h0
  · injection e with e1 e2 e3
    subst e1
    subst e3
    refine ⟨g, rfl, hg, (Array.getElem?_eq_some_iff.1 hh).1, hlc, by unfold maxLen at hcm; omega, rfl, hl, fun i hi => ?_, fun i hi => ?_⟩
    · rw [Nat.zero_add, h.cellAt i (by omega)]
      simp [lv, List.getD_eq_getElem?_getD, hi]
    · rw [Nat.zero_add]; exact h.frozenAt i
end Go.Proofs.YtgoiechhhnhgaaaDoor
