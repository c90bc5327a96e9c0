/- Plain mathematics of layer 11 (tensor): shapes, sizes, indices. No program. -/
import Derived.Lib.Hide
namespace Go.Proofs.Ytlbmllhjmgccaaa

/-- the size of a shape, as the loops reckon it -/
def szgo (s : Int) : List Int → Int
  | [] => s
  | d :: r => if d < 1 ∨ 16384 < d then 0 else if 16384 < s * d then 0 else szgo (s * d) r

def szv (l : List Int) : Int := if l.length < 1 ∨ 4 < l.length then 0 else szgo 1 l

def SzInv (l : List Int) (k : Nat) (s : Int) : Prop := szgo 1 l = szgo s (l.drop k)

theorem szInv_zero (l : List Int) : SzInv l 0 1 := by simp [SzInv]

theorem drop_at {l : List Int} {k : Nat} {d : Int} (hk : k < l.length) (hd : l.getD k 0 = d) : l.drop k = d :: l.drop (k + 1) := by
  rw [List.drop_eq_getElem_cons hk]; simp [List.getD_eq_getElem?_getD, hk] at hd; rw [hd]

theorem szInv_bad {l : List Int} {k : Nat} {s d : Int} (h : SzInv l k s) (hk : k < l.length) (hd : l.getD k 0 = d) (hb : d < 1 ∨ 16384 < d) : szgo 1 l = 0 := by
  unfold SzInv at h; rw [h, drop_at hk hd, szgo, if_pos hb]

theorem szInv_big {l : List Int} {k : Nat} {s d : Int} (h : SzInv l k s) (hk : k < l.length) (hd : l.getD k 0 = d) (h1 : 1 ≤ d) (h2 : d ≤ 16384) (hb : 16384 < s * d) : szgo 1 l = 0 := by
  unfold SzInv at h; rw [h, drop_at hk hd, szgo, if_neg (by omega), if_pos hb]

theorem szInv_step {l : List Int} {k : Nat} {s d : Int} (h : SzInv l k s) (hk : k < l.length) (hd : l.getD k 0 = d) (h1 : 1 ≤ d) (h2 : d ≤ 16384) (hb : s * d ≤ 16384) : SzInv l (k + 1) (s * d) := by
  unfold SzInv at *; rw [h, drop_at hk hd, szgo, if_neg (by omega), if_neg (by omega)]

theorem szInv_end {l : List Int} {s : Int} (h : SzInv l l.length s) : szgo 1 l = s := by
  unfold SzInv at h; rw [h]; simp [szgo]

theorem mul_bd {s d : Int} (h1 : 1 ≤ s) (h2 : s ≤ 16384) (h3 : 1 ≤ d) (h4 : d ≤ 16384) : 1 ≤ s * d ∧ s * d ≤ 268435456 := by
  constructor
  · have := Int.mul_le_mul h1 h3 (by omega) (by omega); omega
  · have := Int.mul_le_mul h2 h4 (by omega) (by omega); omega

theorem szgo_bd (l : List Int) (s : Int) (h : 0 ≤ s) (h2 : s ≤ 16384) : 0 ≤ szgo s l ∧ szgo s l ≤ 16384 := by
  induction l generalizing s with
  | nil => simp [szgo]; omega
  | cons d r ih =>
    rw [szgo]; split
    · omega
    · split
      · omega
      · have : 0 ≤ s * d := Int.mul_nonneg h (by omega)
        exact ih _ this (by omega)
theorem szv_bd (l : List Int) : 0 ≤ szv l ∧ szv l ≤ 16384 := by
  unfold szv; split
  · omega
  · exact szgo_bd l 1 (by omega) (by omega)

/-- a list is a shape -/
def okB (l : List Int) : Bool := decide (0 < szv l)
theorem okB_false {l : List Int} (h : szv l = 0) : okB l = false := by simp [okB, h]
theorem okB_true {l : List Int} (h : 0 < szv l) : okB l = true := by simp [okB, h]

/-- a shape's product, as the reference reckons it -/
def pr (l : List Int) : Int := l.foldl (· * ·) 1
theorem szgo_pr (l : List Int) (s : Int) (h : 0 < szgo s l) : szgo s l = l.foldl (· * ·) s := by
  induction l generalizing s with
  | nil => simp [szgo]
  | cons d r ih =>
    rw [szgo] at h ⊢
    split at h
    · omega
    · split at h
      · omega
      · rw [if_neg (by assumption), if_neg (by assumption), ih _ h]; rfl
theorem szv_pr {l : List Int} (h : okB l = true) : szv l = pr l := by
  simp only [okB, decide_eq_true_eq] at h
  unfold szv at h ⊢; split at h
  · omega
  · rw [if_neg (by assumption), szgo_pr _ _ h]; rfl
theorem szgo_pos (l : List Int) (s : Int) (h : 0 < szgo s l) : ∀ d ∈ l, 1 ≤ d ∧ d ≤ 16384 := by
  induction l generalizing s with
  | nil => simp
  | cons d r ih =>
    rw [szgo] at h
    split at h
    · omega
    · split at h
      · omega
      · intro x hx; rcases List.mem_cons.1 hx with rfl | hx
        · omega
        · exact ih _ h x hx
/-- of a shape: how many dimensions, and how great -/
theorem ok_len {l : List Int} (h : okB l = true) : 1 ≤ l.length ∧ l.length ≤ 4 := by
  simp only [okB, decide_eq_true_eq] at h; unfold szv at h; split at h <;> omega
theorem ok_pos {l : List Int} (h : okB l = true) : ∀ d ∈ l, 1 ≤ d ∧ d ≤ 16384 := by
  simp only [okB, decide_eq_true_eq] at h; unfold szv at h; split at h
  · omega
  · exact szgo_pos _ _ h
theorem ok_at {l : List Int} {k : Nat} {d : Int} (h : okB l = true) (hk : k < l.length) (hd : l.getD k 0 = d) : 1 ≤ d ∧ d ≤ 16384 := by
  refine ok_pos h d ?_; simp [List.getD_eq_getElem?_getD, hk] at hd; rw [← hd]; exact List.getElem_mem _
theorem foldl_take_succ {l : List Int} {k : Nat} {d : Int} (hk : k < l.length) (hd : l.getD k 0 = d) : (l.take (k + 1)).foldl (· * ·) 1 = (l.take k).foldl (· * ·) 1 * d := by
  rw [List.take_succ_eq_append_getElem hk, List.foldl_append]; simp [List.getD_eq_getElem?_getD, hk] at hd; rw [hd]; rfl
/-- the products on the way stay small -/
theorem szgo_take (l : List Int) (s : Int) (hs : 1 ≤ s) (hs2 : s ≤ 16384) (h : 0 < szgo s l) (k : Nat) : 1 ≤ (l.take k).foldl (· * ·) s ∧ (l.take k).foldl (· * ·) s ≤ 16384 := by
  induction l generalizing s k with
  | nil => simp; omega
  | cons d r ih =>
    cases k with
    | zero => simp; omega
    | succ k =>
      rw [szgo] at h
      split at h
      · omega
      · split at h
        · omega
        · have := mul_bd hs hs2 (d := d) (by omega) (by omega)
          exact ih (s * d) (by omega) (by omega) h k
theorem ok_take {l : List Int} (h : okB l = true) (k : Nat) : 1 ≤ (l.take k).foldl (· * ·) 1 ∧ (l.take k).foldl (· * ·) 1 ≤ 16384 := by
  simp only [okB, decide_eq_true_eq] at h; unfold szv at h; split at h
  · omega
  · exact szgo_take l 1 (by omega) (by omega) h k
/-- the product of the first k dimensions -/
def prk (l : List Int) (k : Nat) : Int := (l.take k).foldl (· * ·) 1
theorem prk_zero (l : List Int) : prk l 0 = 1 := by simp [prk]
theorem prk_succ {l : List Int} {k : Nat} {d : Int} (hk : k < l.length) (hd : l.getD k 0 = d) : prk l (k + 1) = prk l k * d := foldl_take_succ hk hd
theorem prk_bd {l : List Int} (h : okB l = true) (k : Nat) : 1 ≤ prk l k ∧ prk l k ≤ 16384 := ok_take h k
theorem prk_all {l : List Int} (h : okB l = true) : prk l l.length = szv l := by rw [szv_pr h, prk, pr, List.take_length]

/-! ### indices -/
def ixgo (n : Int) : List Int → List Int → Int × Int
  | d :: r, x :: xs => if x < 0 ∨ d ≤ x then (0, 2) else ixgo (n * d + x) r xs
  | _, _ => (n, 0)
def ixv (l t : List Int) : Int × Int := if okB l = true ∧ t.length = l.length then ixgo 0 l t else (0, 1)
def IxInv (l t : List Int) (k : Nat) (n : Int) : Prop := ixgo 0 l t = ixgo n (l.drop k) (t.drop k)
theorem ixInv_zero (l t : List Int) : IxInv l t 0 0 := by simp [IxInv]
theorem ixInv_bad {l t : List Int} {k : Nat} {n d x : Int} (h : IxInv l t k n) (hk : k < l.length) (hk2 : k < t.length) (hd : l.getD k 0 = d) (hx : t.getD k 0 = x) (hb : x < 0 ∨ d ≤ x) : ixgo 0 l t = (0, 2) := by
  unfold IxInv at h; rw [h, drop_at hk hd, drop_at hk2 hx, ixgo, if_pos hb]
theorem ixInv_step {l t : List Int} {k : Nat} {n d x : Int} (h : IxInv l t k n) (hk : k < l.length) (hk2 : k < t.length) (hd : l.getD k 0 = d) (hx : t.getD k 0 = x) (h0 : 0 ≤ x) (h1 : x < d) : IxInv l t (k + 1) (n * d + x) := by
  unfold IxInv at *; rw [h, drop_at hk hd, drop_at hk2 hx, ixgo, if_neg (by omega)]
theorem ixInv_end {l t : List Int} {n : Int} (h : IxInv l t l.length n) : ixgo 0 l t = (n, 0) := by
  unfold IxInv at h; rw [h]; simp [ixgo]
theorem ix_bd {n p d x : Int} (h1 : 0 ≤ n) (h2 : n < p) (h3 : p ≤ 16384) (d1 : 1 ≤ d) (d2 : d ≤ 16384) (x1 : 0 ≤ x) (x2 : x < d) : 0 ≤ n * d ∧ n * d ≤ 268435456 ∧ 0 ≤ n * d + x ∧ n * d + x < p * d := by
  have a := Int.mul_nonneg h1 (show (0:Int) ≤ d by omega)
  have b := Int.mul_le_mul (show n ≤ 16384 by omega) d2 (by omega) (by omega)
  have c : (n + 1) * d ≤ p * d := Int.mul_le_mul_of_nonneg_right (by omega) (by omega)
  rw [Int.add_mul] at c; omega

/-- two lists agree so far -/
def TakeEq (l t : List Int) (k : Nat) : Prop := ∀ i, i < k → l.getD i 0 = t.getD i 0
def eqB (l t : List Int) : Bool := decide (l = t)
theorem takeEq_zero (l t : List Int) : TakeEq l t 0 := by intro i hi; omega
theorem takeEq_step {l t : List Int} {k : Nat} {x y : Int} (h : TakeEq l t k) (hx : l.getD k 0 = x) (hy : t.getD k 0 = y) (e : x = y) : TakeEq l t (k + 1) := by
  intro i hi
  by_cases hik : i = k
  · subst hik; rw [hx, hy, e]
  · exact h i (by omega)
theorem eqB_len {l t : List Int} (h : l.length ≠ t.length) : eqB l t = false := by
  simp only [eqB, decide_eq_false_iff_not]; intro e; exact h (by rw [e])
theorem eqB_at {l t : List Int} {k : Nat} {x y : Int} (hx : l.getD k 0 = x) (hy : t.getD k 0 = y) (e : x ≠ y) : eqB l t = false := by
  simp only [eqB, decide_eq_false_iff_not]; intro h; subst h; exact e (by rw [← hx, hy])
theorem eqB_all {l t : List Int} (hl : l.length = t.length) (h : TakeEq l t l.length) : eqB l t = true := by
  simp only [eqB, decide_eq_true_eq]
  apply List.ext_getElem hl
  intro i h1 h2
  have := h i h1
  simpa [List.getD_eq_getElem?_getD, h1, h2] using this

theorem emul_ediv_add_emod_aux (a b : Int) : b * (a / b) + a % b = a := Int.mul_ediv_add_emod a b
theorem emod_le_of_nonneg_aux {a b : Int} (h : 0 ≤ a) (hb : 0 ≤ b) : a % b ≤ a := by
  have h1 := emul_ediv_add_emod_aux a b
  have : 0 ≤ b * (a / b) := Int.mul_nonneg hb (Int.ediv_nonneg h hb)
  omega
/-! ### coordinates -/
/-- the coordinates of an element, reckoned from the last dimension on, and what is left of the index -/
def atl : List Int → Int → List Int × Int
  | [], i => ([], i)
  | d :: r, i => (((atl r i).2 % d) :: (atl r i).1, (atl r i).2 / d)
def atv (l : List Int) (i : Int) : List Int × Int := if szv l = 0 then ([], 1) else if i < 0 ∨ szv l ≤ i then ([], 2) else ((atl l i).1, 0)
theorem atl_length (l : List Int) (i : Int) : (atl l i).1.length = l.length := by
  induction l with
  | nil => simp [atl]
  | cons d r ih => simp [atl, ih]
theorem atl_bd (l : List Int) (i : Int) (hl : ∀ d ∈ l, 1 ≤ d) (h0 : 0 ≤ i) (h1 : i ≤ 16384) : (0 ≤ (atl l i).2 ∧ (atl l i).2 ≤ 16384) ∧ ∀ x ∈ (atl l i).1, 0 ≤ x ∧ x ≤ 16384 := by
  induction l with
  | nil => simp [atl]; omega
  | cons d r ih =>
    have ih := ih (fun x hx => hl x (List.mem_cons_of_mem _ hx))
    have hd := hl d (List.mem_cons_self ..)
    obtain ⟨⟨q0, q1⟩, hx⟩ := ih
    simp only [atl]
    refine ⟨⟨Int.ediv_nonneg q0 (by omega), ?_⟩, ?_⟩
    · have := Int.ediv_le_self d q0; omega
    · intro x hx'
      rcases List.mem_cons.1 hx' with rfl | hx'
      · have := Int.emod_nonneg (atl r i).2 (show d ≠ 0 by omega)
        have := emod_le_of_nonneg_aux q0 (show (0:Int) ≤ d by omega)
        omega
      · exact hx x hx'
theorem atl_in (l : List Int) (i : Int) (m : Int) (hl : ∀ d ∈ l, 1 ≤ d) (h0 : 0 ≤ i) (h1 : i < l.foldr (· * ·) 1 * m) : 0 ≤ (atl l i).2 ∧ (atl l i).2 < m := by
  induction l generalizing m with
  | nil => simp [atl] at *; omega
  | cons d r ih =>
    have hd := hl d (List.mem_cons_self ..)
    have := ih (d * m) (fun x hx => hl x (List.mem_cons_of_mem _ hx)) (by
      simp only [List.foldr_cons] at h1
      rw [show List.foldr (· * ·) 1 r * (d * m) = d * List.foldr (· * ·) 1 r * m by rw [← Int.mul_assoc, Int.mul_comm _ d]]; exact h1)
    simp only [atl]
    exact ⟨Int.ediv_nonneg this.1 (by omega), Int.ediv_lt_of_lt_mul (by omega) (by rw [Int.mul_comm]; exact this.2)⟩
theorem ixgo_atl (l : List Int) (i : Int) (hl : ∀ d ∈ l, 1 ≤ d) : ixgo (atl l i).2 l (atl l i).1 = (i, 0) := by
  induction l with
  | nil => simp [atl, ixgo]
  | cons d r ih =>
    have hd := hl d (List.mem_cons_self ..)
    simp only [atl, ixgo]
    have h1 := Int.emod_nonneg (atl r i).2 (show d ≠ 0 by omega)
    have h2 := Int.emod_lt_of_pos (atl r i).2 (show 0 < d by omega)
    rw [if_neg (by omega), show (atl r i).2 / d * d + (atl r i).2 % d = (atl r i).2 by rw [Int.mul_comm]; exact Int.mul_ediv_add_emod _ _]
    exact ih (fun x hx => hl x (List.mem_cons_of_mem _ hx))
theorem foldl_mul (l : List Int) (s : Int) : l.foldl (· * ·) s = s * l.foldr (· * ·) 1 := by
  induction l generalizing s with
  | nil => simp
  | cons d r ih => simp only [List.foldl_cons, List.foldr_cons]; rw [ih, Int.mul_assoc]
/-- INDEX UNDOES AT -/
theorem index_at {l : List Int} {i : Int} (h0 : 0 ≤ i) (h1 : i < szv l) : ixv l (atv l i).1 = (i, 0) ∧ (atv l i).2 = 0 := by
  have hok : okB l = true := okB_true (by omega)
  have hl := fun d hd => (ok_pos hok d hd).1
  have hpr : szv l = l.foldr (· * ·) 1 := by rw [szv_pr hok, pr, foldl_mul]; simp
  have hin := atl_in l i 1 hl h0 (by rw [← hpr]; omega)
  have e : atv l i = ((atl l i).1, 0) := by unfold atv; rw [if_neg (by omega), if_neg (by omega)]
  rw [e]
  refine ⟨?_, rfl⟩
  unfold ixv
  rw [if_pos ⟨hok, atl_length l i⟩]
  have := ixgo_atl l i hl
  rw [show (atl l i).2 = 0 by omega] at this
  exact this

/-- how far At has come -/
def AtInv (l : List Int) (i : Int) (k : Nat) (xs : List Int) (q : Int) : Prop := xs.length = l.length ∧ xs.drop k = (atl (l.drop k) i).1 ∧ q = (atl (l.drop k) i).2
theorem atInv_start (l : List Int) (i : Int) : AtInv l i l.length (List.replicate l.length 0) i := by simp [AtInv, atl]
theorem atInv_step {l : List Int} {i q d : Int} {k : Nat} {xs : List Int} (h : AtInv l i (k + 1) xs q) (hk : k < l.length) (hd : l.getD k 0 = d) : AtInv l i k (xs.set k (q % d)) (q / d) := by
  obtain ⟨h1, h2, h3⟩ := h
  refine ⟨by simpa using h1, ?_, ?_⟩
  · rw [drop_at hk hd]
    simp only [atl]
    rw [← h3, ← h2, List.drop_eq_getElem_cons (by simp; omega)]
    simp
    exact List.drop_set_of_lt (by omega)
  · rw [drop_at hk hd]; simp only [atl]; rw [← h3]
theorem atInv_end {l : List Int} {i q : Int} {xs : List Int} (h : AtInv l i 0 xs q) : xs = (atl l i).1 := by simpa using h.2.1
theorem atInv_bd {l : List Int} {i q : Int} {k : Nat} {xs : List Int} (h : AtInv l i k xs q) (hok : okB l = true) (h0 : 0 ≤ i) (h1 : i ≤ 16384) : 0 ≤ q ∧ q ≤ 16384 := by
  rw [h.2.2]; exact (atl_bd (l.drop k) i (fun d hd => (ok_pos hok d (List.mem_of_mem_drop hd)).1) h0 h1).1
end Go.Proofs.Ytlbmllhjmgccaaa
