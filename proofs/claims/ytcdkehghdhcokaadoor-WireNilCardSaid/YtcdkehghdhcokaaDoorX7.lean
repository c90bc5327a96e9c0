/- What a struct's block keeps; what Rat reads. -/
import Derived.Test.YtcdkehghdhcokaaDoorX6
import Derived.Test.YtcdkehghdhcokaaDoorRR7
namespace Go.Proofs.YtcdkehghdhcokaaDoor.wr
open Go.RowKit
set_option linter.unusedVariables false

/-- a block that holds a fraction as it is laid down -/
def Q3 (w : World) (P : Nat) (u0 u1 u2 : Value) : Prop := w.heap[P]? = some (.cells #[u0, u1, u2] 37 (0, 0))
/-- a block without integers -/
def NoInt (w : World) (X : Nat) : Prop := ∀ i k x, w.cell? ⟨X, i, none⟩ ≠ some (.int k x)
theorem St.noInt {t : Nat} {w : World} {R : Nat} {s : Option (List Int)} (h : St t w R s) : NoInt w R := by
  obtain ⟨v, b, r1, a0, n0, c0, rfl⟩ := h.blk
  intro i k x e
  rw [cell_of_row w R i _ t (0, 0) r1] at e
  match i with
  | 0 => simp at e
  | 1 => simp at e
  | j + 2 => simp at e
theorem Q3.noInt {w : World} {P : Nat} {b : Bool} {a a' : Option Addr} {n c n' c' : Nat} (h : Q3 w P (.bool b) (.slice a n c) (.slice a' n' c')) : NoInt w P := by
  intro i k x e
  rw [cell_of_row w P i _ 37 (0, 0) h] at e
  match i with
  | 0 => simp at e
  | 1 => simp at e
  | 2 => simp at e
  | j + 3 => simp at e
theorem SlB.pastN {w w' : World} {a : Option Addr} {n c X : Nat} {L : List Int} (h : SlB w a n c L) (h0 : NoInt w X) (hg : w.grownBy w' (some X)) : SlB w' a n c L := by
  obtain ⟨h1, h2, h3, h4, h5⟩ := h
  refine ⟨h1, h2, h3, h4, ?_⟩
  rcases h5 with h5 | ⟨b, off, e, hlt, hc⟩
  · exact .inl h5
  · by_cases hn : n = 0
    · exact .inl hn
    · have hbR : b ≠ X := by
        rintro rfl
        exact h0 _ _ _ (hc 0 (by omega))
      exact .inr ⟨b, off, e, Nat.lt_of_lt_of_le hlt hg.size, fun i hi => hg.cell (hc i hi) (by simpa using hbR)⟩
theorem SlW.pastN {w w' : World} {a : Option Addr} {n c X : Nat} {L : List Int} (h : SlW w a n c L) (h0 : NoInt w X) (hg : w.grownBy w' (some X)) : SlW w' a n c L := by
  obtain ⟨h1, h2, h3, h4, h5⟩ := h
  refine ⟨h1, h2, h3, h4, ?_⟩
  rcases h5 with h5 | ⟨b, off, e, hlt, hc⟩
  · exact .inl h5
  · by_cases hn : n = 0
    · exact .inl hn
    · have hbR : b ≠ X := by
        rintro rfl
        exact h0 _ _ _ (hc 0 (by omega))
      exact .inr ⟨b, off, e, Nat.lt_of_lt_of_le hlt hg.size, fun i hi => hg.cell (hc i hi) (by simpa using hbR)⟩
theorem St.pastN {w w' : World} {R X t : Nat} {s : Option (List Int)} (h : St t w R s) (h0 : NoInt w X) (hne : R ≠ X) (hg : w.grownBy w' (some X)) : St t w' R s := by
  have hb := hg.block R h.lt (fun e => hne (by injection e))
  cases s with
  | none => exact hb.trans h
  | some L => obtain ⟨a, c, h1, h2, h3⟩ := h; exact ⟨a, c, hb.trans h1, h2.pastN h0 hg, h3⟩
theorem Q3.lt {w : World} {P : Nat} {u0 u1 u2 : Value} (h : Q3 w P u0 u1 u2) : P < w.heap.size := (Array.getElem?_eq_some_iff.1 h).1
theorem Q3.past {w w' : World} {P R : Nat} {u0 u1 u2 : Value} (h : Q3 w P u0 u1 u2) (hne : P ≠ R) (hg : w.grownBy w' (some R)) : Q3 w' P u0 u1 u2 := (hg.block P h.lt (fun e => hne (by injection e))).trans h
theorem Q3.below {w w' : World} {P : Nat} {u0 u1 u2 : Value} (h : Q3 w P u0 u1 u2) (hb : Below w.heap.size w w') : Q3 w' P u0 u1 u2 := (hb.block P h.lt).trans h
theorem Q3.facts {w : World} {P : Nat} {u0 u1 u2 : Value} (h : Q3 w P u0 u1 u2) : w.cell? ⟨P, 0, none⟩ = some u0 ∧ w.cell? ⟨P, 1, none⟩ = some u1 ∧ w.cell? ⟨P, 2, none⟩ = some u2 ∧ w.frozen? ⟨P, 0, none⟩ = false ∧ w.frozen? ⟨P, 1, none⟩ = false ∧ w.frozen? ⟨P, 2, none⟩ = false :=
  ⟨cell_of_row w P 0 _ 37 (0, 0) h, cell_of_row w P 1 _ 37 (0, 0) h, cell_of_row w P 2 _ 37 (0, 0) h, frozen_of_row w P 0 _ 37 h, frozen_of_row w P 1 _ 37 h, frozen_of_row w P 2 _ 37 h⟩
theorem Q3.set0 {w : World} {P : Nat} {u0 u1 u2 : Value} (h : Q3 w P u0 u1 u2) (v : Value) : Q3 (w.setCell ⟨P, 0, none⟩ v) P v u1 u2 := by
  unfold Q3; rw [heap_setCell_same w P 0 _ 37 _ h]; rfl
theorem Q3.set1 {w : World} {P : Nat} {u0 u1 u2 : Value} (h : Q3 w P u0 u1 u2) (v : Value) : Q3 (w.setCell ⟨P, 1, none⟩ v) P u0 v u2 := by
  unfold Q3; rw [heap_setCell_same w P 1 _ 37 _ h]; rfl
theorem Q3.set2 {w : World} {P : Nat} {u0 u1 u2 : Value} (h : Q3 w P u0 u1 u2) (v : Value) : Q3 (w.setCell ⟨P, 2, none⟩ v) P u0 u1 v := by
  unfold Q3; rw [heap_setCell_same w P 2 _ 37 _ h]; rfl
theorem Q3.sets {w : World} {P : Nat} {u0 u1 u2 : Value} (h : Q3 w P u0 u1 u2) (v0 v1 v2 : Value) : Q3 (((w.setCell ⟨P, 0, none⟩ (v0)).setCell ⟨P, 1, none⟩ (v1)).setCell ⟨P, 2, none⟩ (v2)) P v0 v1 v2 := ((h.set0 v0).set1 v1).set2 v2
theorem Q3.said {w : World} {P : Nat} {u0 u1 u2 : Value} (h : Q3 w P u0 u1 u2) (v0 v1 v2 : Value) : (w.setCell ⟨P, 0, none⟩ v0).cell? ⟨P, 0, none⟩ = some v0 ∧ ((w.setCell ⟨P, 0, none⟩ v0).setCell ⟨P, 1, none⟩ v1).cell? ⟨P, 1, none⟩ = some v1 ∧ (((w.setCell ⟨P, 0, none⟩ (v0)).setCell ⟨P, 1, none⟩ (v1)).setCell ⟨P, 2, none⟩ (v2)).cell? ⟨P, 2, none⟩ = some v2 :=
  ⟨(h.set0 v0).facts.1, ((h.set0 v0).set1 v1).facts.2.1, (h.sets v0 v1 v2).facts.2.2.1⟩
theorem Q3.new (w : World) (u0 u1 u2 : Value) : Q3 (w.alloc (.cells #[u0, u1, u2] 37)) w.heap.size u0 u1 u2 := heap_alloc_new w _
/-- a reader's world goes on where a new block is written -/
theorem grown_new {w W : World} {R P k : Nat} (h : w.grownBy W (some R)) (hP : w.heap.size ≤ P) (v : Value) : w.grownBy (W.setCell ⟨P, k, none⟩ v) (some R) :=
  ⟨h.os, h.tape, h.output, by rw [World.size_setCell]; exact h.size, fun j hj hne => (heap_setCell_other _ _ j _ (by show j ≠ P; omega)).trans (h.block j hj hne)⟩
theorem grown_news {w W : World} {R P : Nat} (h : w.grownBy W (some R)) (hP : w.heap.size ≤ P) (v0 v1 v2 : Value) : w.grownBy (((W.setCell ⟨P, 0, none⟩ (v0)).setCell ⟨P, 1, none⟩ (v1)).setCell ⟨P, 2, none⟩ (v2)) (some R) :=
  grown_new (grown_new (grown_new h hP v0) hP v1) hP v2
theorem Tab.past {w w' : World} {R : Nat} (h : Tab w) (h0 : NoInt w R) (hg : w.grownBy w' (some R)) : Tab w' := fun j hj => hg.cell (h j hj) (by
  have : (0 : Nat) ≠ R := by
    rintro rfl
    exact h0 _ _ _ (h j hj)
  simpa using this)
theorem nats_lim {l : List Int} (h : ∀ x ∈ l, 0 ≤ x ∧ x < 4294967296) : Lim (nats l) := by
  intro y hy
  obtain ⟨x, hx, rfl⟩ := List.mem_map.1 hy
  have := h x hx
  rw [BB_eq]; omega
theorem SlW.rd {w : World} {a : Option Addr} {n c : Nat} {l : List Int} (h : SlW w a n c l) (hn : a = none → c = 0) : Rd w a n c (nats l) := by
  obtain ⟨h1, h2, h3, h4, h5⟩ := h
  refine ⟨by unfold nats; rw [List.length_map]; exact h1, h2, h3, nats_lim h4, hn, ?_⟩
  rcases h5 with h5 | ⟨b, off, e, _, hc⟩
  · exact .inl h5
  · refine .inr ⟨b, off, e, fun i hi => ?_⟩
    rw [hc i hi]
    have hm := h4 (l.getD i 0) (getD_mem (by omega))
    have e : (nats l).getD i 0 = (l.getD i 0).toNat := by
      unfold nats
      simp only [List.getD_eq_getElem?_getD, List.getElem?_map]
      cases l[i]? <;> rfl
    rw [e, Int.toNat_of_nonneg hm.1]
theorem nR_cases (s : Option (List Int)) : nR s = ([], 5, none) ∨ ∃ l T, nR s = (l, 0, some T) := by
  cases s with
  | none => exact .inl rfl
  | some L =>
    unfold nR
    dsimp only
    cases nat8 L with
    | none => exact .inl rfl
    | some p => exact .inr ⟨p.1, p.2, rfl⟩
theorem nR_ok {L l T : List Int} (hb : Bytes L) (h : nR (some L) = (l, 0, some T)) : L = nb l ++ T ∧ (∀ x ∈ l, 0 ≤ x ∧ x < 4294967296) := by
  unfold nR at h
  dsimp only at h
  cases hn : nat8 L with
  | none => rw [hn] at h; cases h
  | some p =>
    rw [hn] at h
    obtain ⟨l', T'⟩ := p
    injection h with h1 h2
    injection h2 with h2 h3
    injection h3 with h3
    subst h1; subst h3
    exact nat8_nb hb hn
/-- what Rat reads behind the sign -/
def r2 (s : Bool) (L : List Int) : (Bool × List Int × List Int) × Int × Option (List Int) :=
  match nR (some L) with
  | (a, _, some T) => match nR (some T) with
    | (b, _, some T2) => if okQ s (nats a) (nats b) = true then ((s, a, b), 0, some T2) else ((false, [], []), 5, none)
    | _ => ((false, [], []), 5, none)
  | _ => ((false, [], []), 5, none)
/-- what Rat reads -/
def rR : Option (List Int) → (Bool × List Int × List Int) × Int × Option (List Int)
  | none => ((false, [], []), 5, none)
  | some [] => ((false, [], []), 5, none)
  | some (x :: L) => if 1 < x then ((false, [], []), 5, none) else r2 (decide (x = 1)) L
theorem r2_bad1 {s : Bool} {L : List Int} (h : nR (some L) = ([], 5, none)) : r2 s L = ((false, [], []), 5, none) := by unfold r2; rw [h]
theorem r2_bad2 {s : Bool} {L l T : List Int} (h : nR (some L) = (l, 0, some T)) (h2 : nR (some T) = ([], 5, none)) : r2 s L = ((false, [], []), 5, none) := by unfold r2; rw [h]; dsimp only; rw [h2]
theorem r2_ok {s : Bool} {L l T l' T' : List Int} (h : nR (some L) = (l, 0, some T)) (h2 : nR (some T) = (l', 0, some T')) : r2 s L = if okQ s (nats l) (nats l') = true then ((s, l, l'), 0, some T') else ((false, [], []), 5, none) := by unfold r2; rw [h]; dsimp only; rw [h2]
/-- what Rat does -/
def RPost8 (t : Nat) (w : World) (R : Nat) (r : (Bool × List Int × List Int) × Int × Option (List Int)) (e : Ending) (w' : World) : Prop :=
  ∃ a n c a' n' c', e = .returned (.tuple #[.agg #[.bool r.1.1, .slice a n c, .slice a' n' c'], .int .i64 r.2.1]) ∧ SlW w' a n c r.1.2.1 ∧ (a = none → c = 0) ∧ SlW w' a' n' c' r.1.2.2 ∧ (a' = none → c' = 0) ∧ St t w' R r.2.2 ∧ w.grownBy w' (some R)
theorem RPost8.bad {t R : Nat} {w w' : World} (h1 : St t w' R none) (h2 : w.grownBy w' (some R)) : RPost8 t w R ((false, [], []), 5, none) (.returned (.tuple #[.agg #[.bool false, .slice none 0 0, .slice none 0 0], .int .i64 5])) w' :=
  ⟨none, 0, 0, none, 0, 0, rfl, SlW.nil _, fun _ => rfl, SlW.nil _, fun _ => rfl, h1, h2⟩

end Go.Proofs.YtcdkehghdhcokaaDoor.wr
