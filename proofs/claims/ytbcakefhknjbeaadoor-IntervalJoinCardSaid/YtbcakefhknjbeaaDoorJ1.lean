/- Intervals of rational numbers as values: readings, boxes. -/
import Derived.Test.YtbcakefhknjbeaaDoorR1
import Derived.Test.YtbcakefhknjbeaaDoorNb
import Derived.Test.YtbcakefhknjbeaaDoorR6
import Derived.Test.YtbcakefhknjbeaaDoorJ0
namespace Go.Proofs.YtbcakefhknjbeaaDoor
open Go.RowKit
set_option linter.unusedVariables false
/-- no cell of the list is a limb -/
def NoL (l : List Value) : Prop := ∀ v, v ∈ l → ∀ x, v ≠ .int .u32 x
theorem NoL.nil : NoL [] := fun _ h => by cases h
theorem NoL.b (b : Bool) {l : List Value} (h : NoL l) : NoL (.bool b :: l) := fun v hv x => by
  rcases List.mem_cons.1 hv with rfl | hv
  · intro e; cases e
  · exact h v hv x
theorem NoL.s (a : Option Addr) (n c : Nat) {l : List Value} (h : NoL l) : NoL (.slice a n c :: l) := fun v hv x => by
  rcases List.mem_cons.1 hv with rfl | hv
  · intro e; cases e
  · exact h v hv x
theorem NoL.append {l t : List Value} (h : NoL l) (k : NoL t) : NoL (l ++ t) := fun v hv => by
  rcases List.mem_append.1 hv with hv | hv
  · exact h v hv
  · exact k v hv
/-- a block that holds the cells l, none of them a limb -/
structure Bx (g : Nat) (l : List Value) (w : World) : Prop where
  cl : ∀ i v, l[i]? = some v → w.cell? ⟨g, i, none⟩ = some v
  fr : ∀ i, i < l.length → w.frozen? ⟨g, i, none⟩ = false
  no : ∀ i x, w.cell? ⟨g, i, none⟩ ≠ some (.int .u32 x)
  lt : g < w.heap.size
theorem Bx.new (w : World) (T : TypeId) {l : List Value} (h : NoL l) : Bx w.heap.size l (w.alloc (.cells l.toArray T)) := by
  refine ⟨fun i v hi => by simp [hi], fun i hi => by simp, fun i x e => ?_, by simp⟩
  rw [World.cell?_alloc_new] at e
  exact h _ (List.mem_of_getElem? (by simpa using e)) x rfl
theorem Bx.at {g g' : Nat} {l : List Value} {w : World} (h : Bx g l w) (e : g = g') : Bx g' l w := e ▸ h
theorem Bx.keep {g : Nat} {l : List Value} {w w' : World} (h : Bx g l w) (k : Keep w w') : Bx g l w' := by
  obtain ⟨hc, hf⟩ := kcell k
  exact ⟨fun i v hi => (hc g i h.lt).trans (h.cl i v hi), fun i hi => (hf g i h.lt).trans (h.fr i hi), fun i x => by rw [hc g i h.lt]; exact h.no i x, Nat.lt_of_lt_of_le h.lt (Below.size k)⟩
theorem Only.cell_other {b lo up : Nat} {w w' : World} (h : Only b lo up w w') {g : Nat} (hg : g ≠ b) (i : Nat) : w'.cell? ⟨g, i, none⟩ = w.cell? ⟨g, i, none⟩ :=
  World.cell?_of_block (w := w) (a := ⟨g, i, none⟩) (h.block g hg)
theorem Bx.only {g b lo up : Nat} {l : List Value} {w w' : World} (h : Bx g l w) (ho : Only b lo up w w') (hg : g ≠ b) : Bx g l w' := by
  refine ⟨fun i v hi => (ho.cell_other hg i).trans (h.cl i v hi), fun i hi => ?_, fun i x => by rw [ho.cell_other hg]; exact h.no i x, by rw [ho.size]; exact h.lt⟩
  have := World.frozen?_of_block (w := w) (w' := w') (a := ⟨g, i, none⟩) (ho.block g hg)
  exact this.trans (h.fr i hi)
theorem setCells_at (g : Nat) : ∀ (vs : List Value) (o i : Nat) (w : World), (∀ j, j < vs.length → ∃ u, w.cell? ⟨g, o + j, none⟩ = some u) → o ≤ i → i < o + vs.length → (w.setCells g o vs).cell? ⟨g, i, none⟩ = vs[i - o]?
  | [], o, i, w, _, h1, h2 => by simp at h2; omega
  | v :: r, o, i, w, hc, h1, h2 => by
    simp only [List.length_cons] at h2
    show ((w.setCell ⟨g, o, none⟩ v).setCells g (o + 1) r).cell? ⟨g, i, none⟩ = _
    by_cases h : i = o
    · subst h
      rw [(Only.setCells g (i + 1) (i + 1 + r.length) r (i + 1) _ (Nat.le_refl _) (Nat.le_refl _)).cell i (.inl (by omega))]
      obtain ⟨u, hu⟩ := hc 0 (by simp)
      rw [World.cell?_setCell_same _ _ _ (u := u) (by simpa using hu)]
      simp
    · rw [setCells_at g r (o + 1) i _ (fun j hj => ?_) (by omega) (by omega)]
      · rw [show i - o = i - (o + 1) + 1 from by omega, List.getElem?_cons_succ]
      · obtain ⟨u, hu⟩ := hc (j + 1) (by simpa using hj)
        refine ⟨u, ?_⟩
        rw [World.cell?_setCell_other _ _ _ _ (by intro e; injection e; omega), show o + 1 + j = o + (j + 1) from by omega]
        exact hu
/-- the box after some of its cells have been written -/
theorem Bx.put {g : Nat} {l : List Value} {w : World} (h : Bx g l w) (o : Nat) {vs : List Value} (hv : o + vs.length ≤ l.length) (hn : NoL vs) : Bx g (l.take o ++ vs ++ l.drop (o + vs.length)) (w.setCells g o vs) := by
  have ho := Only.setCells g o (o + vs.length) vs o w (Nat.le_refl _) (Nat.le_refl _)
  have hc : ∀ j, j < vs.length → ∃ u, w.cell? ⟨g, o + j, none⟩ = some u := fun j hj => ⟨_, h.cl (o + j) _ (List.getElem?_eq_getElem (by omega))⟩
  refine ⟨fun i v hi => ?_, fun i hi => ?_, fun i x e => ?_, by rw [ho.size]; exact h.lt⟩
  · by_cases h1 : i < o
    · rw [ho.cell i (.inl h1)]
      rw [List.append_assoc, List.getElem?_append_left (by simp; omega), List.getElem?_take_of_lt h1] at hi
      exact h.cl i v hi
    · by_cases h2 : i < o + vs.length
      · rw [setCells_at g vs o i w hc (by omega) h2]
        rw [List.append_assoc, List.getElem?_append_right (by simp; omega), List.getElem?_append_left (by simp; omega)] at hi
        rw [← hi]; congr 1; simp; omega
      · rw [ho.cell i (.inr (by omega))]
        rw [List.getElem?_append_right (by simp; omega), List.getElem?_drop] at hi
        refine h.cl i v ?_
        rw [← hi]; congr 1; simp; omega
  · rw [ho.froz]
    exact h.fr i (by simp at hi; omega)
  · by_cases h2 : o ≤ i ∧ i < o + vs.length
    · rw [setCells_at g vs o i w hc h2.1 h2.2] at e
      exact hn _ (List.mem_of_getElem? e) x rfl
    · rw [ho.cell i (by omega)] at e
      exact h.no i x e
theorem Bx.sets {g : Nat} {l vs : List Value} {w : World} (h : Bx g l w) (hv : vs.length = l.length) (hn : NoL vs) : Bx g vs (w.setCells g 0 vs) := by
  have := h.put 0 (vs := vs) (by omega) hn
  rwa [List.take_zero, List.nil_append, List.drop_of_length_le (by omega), List.append_nil] at this
theorem only_sets (g o : Nat) (vs : List Value) (w : World) : Only g o (o + vs.length) w (w.setCells g o vs) := Only.setCells g o (o + vs.length) vs o w (Nat.le_refl _) (Nat.le_refl _)
theorem Bx.other {g g' : Nat} {l : List Value} {w : World} (h : Bx g l w) (o : Nat) (vs : List Value) (hg : g ≠ g') : Bx g l (w.setCells g' o vs) := h.only (only_sets g' o vs w) hg
theorem Keep.sets {w0 w : World} (h : Keep w0 w) {g : Nat} (hg : w0.heap.size ≤ g) (o : Nat) (vs : List Value) : Keep w0 (w.setCells g o vs) := by
  have h1 := (only_sets g o vs w).below hg
  exact Below.trans h h1
theorem Rd.sets {w : World} {a : Option Addr} {len cap : Nat} {r : List Nat} (h : Rd w a len cap r) {g : Nat} {l : List Value} (B : Bx g l w) (o : Nat) (vs : List Value) : Rd (w.setCells g o vs) a len cap r :=
  h.only (only_sets g o vs w) (h.offInt B.no)
theorem Cr.sets {w : World} {v : Value} {q : Rat} (h : Cr w v q) {g : Nat} {l : List Value} (B : Bx g l w) (o : Nat) (vs : List Value) : Cr (w.setCells g o vs) v q := by
  obtain ⟨a, n, c, a', n', c', rfl, -, -, r, r'⟩ := h.form
  exact Cr.of rfl (r.sets B o vs) (r'.sets B o vs)
theorem Bx.c3 {g : Nat} {a b c : Value} {w : World} (h : Bx g [a, b, c] w) : w.cell? ⟨g, 0, none⟩ = some a ∧ w.cell? ⟨g, 1, none⟩ = some b ∧ w.cell? ⟨g, 2, none⟩ = some c ∧ w.frozen? ⟨g, 0, none⟩ = false ∧ w.frozen? ⟨g, 1, none⟩ = false ∧ w.frozen? ⟨g, 2, none⟩ = false :=
  ⟨h.cl 0 _ rfl, h.cl 1 _ rfl, h.cl 2 _ rfl, h.fr 0 (by simp), h.fr 1 (by simp), h.fr 2 (by simp)⟩
theorem Bx.c6 {g : Nat} {a b c d e f : Value} {w : World} (h : Bx g [a, b, c, d, e, f] w) : w.cell? ⟨g, 0, none⟩ = some a ∧ w.cell? ⟨g, 1, none⟩ = some b ∧ w.cell? ⟨g, 2, none⟩ = some c ∧ w.cell? ⟨g, 3, none⟩ = some d ∧ w.cell? ⟨g, 4, none⟩ = some e ∧ w.cell? ⟨g, 5, none⟩ = some f ∧
    w.frozen? ⟨g, 0, none⟩ = false ∧ w.frozen? ⟨g, 1, none⟩ = false ∧ w.frozen? ⟨g, 2, none⟩ = false ∧ w.frozen? ⟨g, 3, none⟩ = false ∧ w.frozen? ⟨g, 4, none⟩ = false ∧ w.frozen? ⟨g, 5, none⟩ = false :=
  ⟨h.cl 0 _ rfl, h.cl 1 _ rfl, h.cl 2 _ rfl, h.cl 3 _ rfl, h.cl 4 _ rfl, h.cl 5 _ rfl, h.fr 0 (by simp), h.fr 1 (by simp), h.fr 2 (by simp), h.fr 3 (by simp), h.fr 4 (by simp), h.fr 5 (by simp)⟩
/-- an interval: two numbers, one behind the other -/
def IRa (w : World) (v : Value) (p q : Rat) (k : Nat) : Prop := ∃ b a n c a' n' c' d e m g e' m' g', v = .agg #[.bool b, .slice a n c, .slice a' n' c', .bool d, .slice e m g, .slice e' m' g'] ∧ Ra w (.agg #[.bool b, .slice a n c, .slice a' n' c']) p k ∧ Ra w (.agg #[.bool d, .slice e m g, .slice e' m' g']) q k
def ICr (w : World) (v : Value) (p q : Rat) : Prop := ∃ b a n c a' n' c' d e m g e' m' g', v = .agg #[.bool b, .slice a n c, .slice a' n' c', .bool d, .slice e m g, .slice e' m' g'] ∧ Cr w (.agg #[.bool b, .slice a n c, .slice a' n' c']) p ∧ Cr w (.agg #[.bool d, .slice e m g, .slice e' m' g']) q
def JPost (p q : Rat) (w : World) (e : Ending) (w' : World) : Prop := ∃ u, e = .returned u ∧ ICr w' u p q ∧ Keep w w'
def J2Post (p q : Rat) (x : Value) (w : World) (e : Ending) (w' : World) : Prop := ∃ u, e = .returned (.tuple #[u, x]) ∧ ICr w' u p q ∧ Keep w w'
theorem IRa.keep {w w' : World} {v : Value} {p q : Rat} {k : Nat} (h : IRa w v p q k) (hk : Keep w w') : IRa w' v p q k := by
  obtain ⟨b, a, n, c, a', n', c', d, e, m, g, e', m', g', h1, h2, h3⟩ := h
  exact ⟨b, a, n, c, a', n', c', d, e, m, g, e', m', g', h1, h2.keep hk, h3.keep hk⟩
theorem ICr.keep {w w' : World} {v : Value} {p q : Rat} (h : ICr w v p q) (hk : Keep w w') : ICr w' v p q := by
  obtain ⟨b, a, n, c, a', n', c', d, e, m, g, e', m', g', h1, h2, h3⟩ := h
  exact ⟨b, a, n, c, a', n', c', d, e, m, g, e', m', g', h1, h2.keep hk, h3.keep hk⟩
theorem ICr.ra {w : World} {v : Value} {p q : Rat} {k : Nat} (h : ICr w v p q) (hp : Rb p k) (hq : Rb q k) : IRa w v p q k := by
  obtain ⟨b, a, n, c, a', n', c', d, e, m, g, e', m', g', h1, h2, h3⟩ := h
  exact ⟨b, a, n, c, a', n', c', d, e, m, g, e', m', g', h1, h2.ra hp, h3.ra hq⟩
theorem IRa.rb {w : World} {v : Value} {p q : Rat} {k : Nat} (h : IRa w v p q k) (hk : 1 ≤ k) : Rb p k ∧ Rb q k := by
  obtain ⟨b, a, n, c, a', n', c', d, e, m, g, e', m', g', h1, h2, h3⟩ := h
  exact ⟨h2.rb hk, h3.rb hk⟩
theorem IRa.up {w : World} {v : Value} {p q : Rat} {k j : Nat} (h : IRa w v p q k) (hj : k ≤ j) : IRa w v p q j := by
  obtain ⟨b, a, n, c, a', n', c', d, e, m, g, e', m', g', h1, h2, h3⟩ := h
  exact ⟨b, a, n, c, a', n', c', d, e, m, g, e', m', g', h1, h2.up hj, h3.up hj⟩
/-- two numbers, about to be written into a box of six cells -/
theorem ICr.put {w0 w : World} {v u : Value} {p q : Rat} {g : Nat} {l : List Value} (h : Cr w v p) (h' : Cr w u q) (B : Bx g l w) (hl : l.length = 6) (hk : Keep w0 w) (hg : w0.heap.size ≤ g) :
    ∃ b a n c a' n' c' d e m i e' m' i', v = .agg #[.bool b, .slice a n c, .slice a' n' c'] ∧ u = .agg #[.bool d, .slice e m i, .slice e' m' i'] ∧
      ICr (w.setCells g 0 [.bool b, .slice a n c, .slice a' n' c', .bool d, .slice e m i, .slice e' m' i']) (.agg #[.bool b, .slice a n c, .slice a' n' c', .bool d, .slice e m i, .slice e' m' i']) p q ∧
      Keep w0 (w.setCells g 0 [.bool b, .slice a n c, .slice a' n' c', .bool d, .slice e m i, .slice e' m' i']) ∧
      Bx g [.bool b, .slice a n c, .slice a' n' c', .bool d, .slice e m i, .slice e' m' i'] (w.setCells g 0 [.bool b, .slice a n c, .slice a' n' c', .bool d, .slice e m i, .slice e' m' i']) := by
  obtain ⟨a, n, c, a', n', c', rfl, -⟩ := id h.form
  obtain ⟨e, m, i, e', m', i', rfl, -⟩ := id h'.form
  exact ⟨_, a, n, c, a', n', c', _, e, m, i, e', m', i', rfl, rfl, ⟨_, a, n, c, a', n', c', _, e, m, i, e', m', i', rfl, h.sets B 0 _, h'.sets B 0 _⟩, hk.sets hg 0 _,
    B.sets (by rw [hl]; rfl) (.b _ (.s _ _ _ (.s _ _ _ (.b _ (.s _ _ _ (.s _ _ _ .nil))))))⟩
theorem Bx.chain3 {g : Nat} {x0 x1 x2 : Value} {w : World} (h : Bx g [x0, x1, x2] w) (u0 u1 u2 : Value) : (w.setCell ⟨g, 0, none⟩ u0).cell? ⟨g, 0, none⟩ = some u0 ∧ ((w.setCell ⟨g, 0, none⟩ u0).setCell ⟨g, 1, none⟩ u1).cell? ⟨g, 1, none⟩ = some u1 ∧ (((w.setCell ⟨g, 0, none⟩ u0).setCell ⟨g, 1, none⟩ u1).setCell ⟨g, 2, none⟩ u2).cell? ⟨g, 2, none⟩ = some u2 := by
  obtain ⟨c0, c1, c2, -, -, -⟩ := h.c3
  exact ⟨World.cell?_setCell_same w ⟨g, 0, none⟩ u0 (u := x0) c0, World.cell?_setCell_same (w.setCell ⟨g, 0, none⟩ u0) ⟨g, 1, none⟩ u1 (u := x1) (by rw [World.cell?_setCell_other _ _ _ _ (by simp)]; exact c1), World.cell?_setCell_same ((w.setCell ⟨g, 0, none⟩ u0).setCell ⟨g, 1, none⟩ u1) ⟨g, 2, none⟩ u2 (u := x2) (by rw [World.cell?_setCell_other _ _ _ _ (by simp)]; rw [World.cell?_setCell_other _ _ _ _ (by simp)]; exact c2)⟩
theorem Bx.chain6 {g : Nat} {x0 x1 x2 x3 x4 x5 : Value} {w : World} (h : Bx g [x0, x1, x2, x3, x4, x5] w) (u0 u1 u2 u3 u4 u5 : Value) : (w.setCell ⟨g, 0, none⟩ u0).cell? ⟨g, 0, none⟩ = some u0 ∧ ((w.setCell ⟨g, 0, none⟩ u0).setCell ⟨g, 1, none⟩ u1).cell? ⟨g, 1, none⟩ = some u1 ∧ (((w.setCell ⟨g, 0, none⟩ u0).setCell ⟨g, 1, none⟩ u1).setCell ⟨g, 2, none⟩ u2).cell? ⟨g, 2, none⟩ = some u2 ∧ ((((w.setCell ⟨g, 0, none⟩ u0).setCell ⟨g, 1, none⟩ u1).setCell ⟨g, 2, none⟩ u2).setCell ⟨g, 3, none⟩ u3).cell? ⟨g, 3, none⟩ = some u3 ∧ (((((w.setCell ⟨g, 0, none⟩ u0).setCell ⟨g, 1, none⟩ u1).setCell ⟨g, 2, none⟩ u2).setCell ⟨g, 3, none⟩ u3).setCell ⟨g, 4, none⟩ u4).cell? ⟨g, 4, none⟩ = some u4 ∧ ((((((w.setCell ⟨g, 0, none⟩ u0).setCell ⟨g, 1, none⟩ u1).setCell ⟨g, 2, none⟩ u2).setCell ⟨g, 3, none⟩ u3).setCell ⟨g, 4, none⟩ u4).setCell ⟨g, 5, none⟩ u5).cell? ⟨g, 5, none⟩ = some u5 := by
  obtain ⟨c0, c1, c2, c3, c4, c5, -, -, -, -, -, -⟩ := h.c6
  exact ⟨World.cell?_setCell_same w ⟨g, 0, none⟩ u0 (u := x0) c0, World.cell?_setCell_same (w.setCell ⟨g, 0, none⟩ u0) ⟨g, 1, none⟩ u1 (u := x1) (by rw [World.cell?_setCell_other _ _ _ _ (by simp)]; exact c1), World.cell?_setCell_same ((w.setCell ⟨g, 0, none⟩ u0).setCell ⟨g, 1, none⟩ u1) ⟨g, 2, none⟩ u2 (u := x2) (by rw [World.cell?_setCell_other _ _ _ _ (by simp)]; rw [World.cell?_setCell_other _ _ _ _ (by simp)]; exact c2), World.cell?_setCell_same (((w.setCell ⟨g, 0, none⟩ u0).setCell ⟨g, 1, none⟩ u1).setCell ⟨g, 2, none⟩ u2) ⟨g, 3, none⟩ u3 (u := x3) (by rw [World.cell?_setCell_other _ _ _ _ (by simp)]; rw [World.cell?_setCell_other _ _ _ _ (by simp)]; rw [World.cell?_setCell_other _ _ _ _ (by simp)]; exact c3), World.cell?_setCell_same ((((w.setCell ⟨g, 0, none⟩ u0).setCell ⟨g, 1, none⟩ u1).setCell ⟨g, 2, none⟩ u2).setCell ⟨g, 3, none⟩ u3) ⟨g, 4, none⟩ u4 (u := x4) (by rw [World.cell?_setCell_other _ _ _ _ (by simp)]; rw [World.cell?_setCell_other _ _ _ _ (by simp)]; rw [World.cell?_setCell_other _ _ _ _ (by simp)]; rw [World.cell?_setCell_other _ _ _ _ (by simp)]; exact c4), World.cell?_setCell_same (((((w.setCell ⟨g, 0, none⟩ u0).setCell ⟨g, 1, none⟩ u1).setCell ⟨g, 2, none⟩ u2).setCell ⟨g, 3, none⟩ u3).setCell ⟨g, 4, none⟩ u4) ⟨g, 5, none⟩ u5 (u := x5) (by rw [World.cell?_setCell_other _ _ _ _ (by simp)]; rw [World.cell?_setCell_other _ _ _ _ (by simp)]; rw [World.cell?_setCell_other _ _ _ _ (by simp)]; rw [World.cell?_setCell_other _ _ _ _ (by simp)]; rw [World.cell?_setCell_other _ _ _ _ (by simp)]; exact c5)⟩
theorem ICr.put1 {w0 w : World} {v : Value} {p q : Rat} {g : Nat} {l : List Value} (h : ICr w v p q) (B : Bx g l w) (hl : l.length = 6) (hk : Keep w0 w) (hg : w0.heap.size ≤ g) :
    ∃ b a n c a' n' c' d e m i e' m' i', v = .agg #[.bool b, .slice a n c, .slice a' n' c', .bool d, .slice e m i, .slice e' m' i'] ∧
      ICr (w.setCells g 0 [.bool b, .slice a n c, .slice a' n' c', .bool d, .slice e m i, .slice e' m' i']) (.agg #[.bool b, .slice a n c, .slice a' n' c', .bool d, .slice e m i, .slice e' m' i']) p q ∧
      Keep w0 (w.setCells g 0 [.bool b, .slice a n c, .slice a' n' c', .bool d, .slice e m i, .slice e' m' i']) := by
  obtain ⟨b, a, n, c, a', n', c', d, e, m, i, e', m', i', rfl, h1, h2⟩ := h
  exact ⟨b, a, n, c, a', n', c', d, e, m, i, e', m', i', rfl, ⟨b, a, n, c, a', n', c', d, e, m, i, e', m', i', rfl, h1.sets B 0 _, h2.sets B 0 _⟩, hk.sets hg 0 _⟩
theorem Cr.put3 {w0 w : World} {v : Value} {q : Rat} {g : Nat} {l : List Value} (h : Cr w v q) (B : Bx g l w) (hl : l.length = 3) (hk : Keep w0 w) (hg : w0.heap.size ≤ g) :
    ∃ b a n c a' n' c', v = .agg #[.bool b, .slice a n c, .slice a' n' c'] ∧ Cr (w.setCells g 0 [.bool b, .slice a n c, .slice a' n' c']) (.agg #[.bool b, .slice a n c, .slice a' n' c']) q ∧ Keep w0 (w.setCells g 0 [.bool b, .slice a n c, .slice a' n' c']) := by
  obtain ⟨a, n, c, a', n', c', rfl, -⟩ := id h.form
  exact ⟨_, a, n, c, a', n', c', rfl, h.sets B 0 _, hk.sets hg 0 _⟩
theorem Ra.fv {w : World} {v : Value} {q : Rat} {k : Nat} (h : Ra w v q k) : ∃ b a n c a' n' c', v = .agg #[.bool b, .slice a n c, .slice a' n' c'] ∧ Ra w (.agg #[.bool b, .slice a n c, .slice a' n' c']) q k := by
  obtain ⟨s, a, n, c, a', n', c', x, y, rfl, _⟩ := id h.form
  exact ⟨s, a, n, c, a', n', c', rfl, h⟩
theorem Cr.fv {w : World} {v : Value} {q : Rat} (h : Cr w v q) : ∃ b a n c a' n' c', v = .agg #[.bool b, .slice a n c, .slice a' n' c'] ∧ Cr w (.agg #[.bool b, .slice a n c, .slice a' n' c']) q := by
  obtain ⟨a, n, c, a', n', c', rfl, -⟩ := id h.form
  exact ⟨_, a, n, c, a', n', c', rfl, h⟩
end Go.Proofs.YtbcakefhknjbeaaDoor
