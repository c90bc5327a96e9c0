/- Carried over from another seat by program (portn.py). -/
import Derived.Test.YtcdkehghdhcokaaDoorNd
namespace Go.Proofs.YtcdkehghdhcokaaDoor
open Go.RowKit
set_option linter.unusedVariables false
theorem mul_bound {a y p c : Nat} (ha : a < BB) (hy : y < BB) (hp : p < BB) (hc : c < BB) : c + (a * y + p) < BB * BB := by
  have h1 : a * y ≤ (BB - 1) * (BB - 1) := Nat.mul_le_mul (by omega) (by omega)
  have h2 : (BB - 1) * (BB - 1) + 2 * (BB - 1) + 1 = BB * BB := by decide
  omega
/-- a row of the product: y times x is added at limb i -/
structure MulIn (P0 x L : List Nat) (y i k c : Nat) : Prop where
  val : nv L + BB ^ (i + k) * c = nv P0 + BB ^ i * (y * nv (x.take k))
  same : ∀ j, i + k ≤ j → L.getD j 0 = P0.getD j 0
  lt : c < BB
theorem MulIn.start (P0 x : List Nat) (y i : Nat) : MulIn P0 x P0 y i 0 0 := ⟨by simp [nv], fun _ _ => rfl, BB_pos⟩
theorem MulIn.step {P0 x L : List Nat} {y i k c a p v : Nat} (h : MulIn P0 x L y i k c) (hn : i + k < L.length) (hx : x.getD k 0 = a) (hp : P0.getD (i + k) 0 = p) (ha : a < BB) (hy : y < BB) (hpl : p < BB)
    (hv : c + (a * y + p) = v) : MulIn P0 x (L.set (i + k) (v % BB)) y i (k + 1) (v / BB) := by
  have hL : L.getD (i + k) 0 = p := (h.same _ (Nat.le_refl _)).trans hp
  refine ⟨?_, ?_, ?_⟩
  · have h1 := nv_set (y := v % BB) hn
    rw [hL] at h1
    have h2 := h.val
    have h3 := Nat.div_add_mod v BB
    rw [nv_take_succ, hx, show i + (k + 1) = (i + k) + 1 from by omega, Nat.pow_succ]
    obtain ⟨Q, hQ⟩ : ∃ Q, BB ^ (i + k) = Q := ⟨_, rfl⟩
    obtain ⟨D, hD⟩ : ∃ D, v / BB = D := ⟨_, rfl⟩
    obtain ⟨M, hM⟩ : ∃ M, v % BB = M := ⟨_, rfl⟩
    rw [hQ] at h1 h2 ⊢
    rw [hD, hM] at h3
    rw [hM] at h1
    rw [hM, hD]
    have e1 : BB ^ i * (y * (nv (x.take k) + BB ^ k * a)) = BB ^ i * (y * nv (x.take k)) + Q * (a * y) := by
      rw [Nat.mul_add, Nat.mul_add, ← hQ, Nat.pow_add]
      congr 1
      rw [Nat.mul_assoc, Nat.mul_comm y, Nat.mul_assoc]
    have e2 : Q * BB * D + Q * M = Q * v := by rw [Nat.mul_assoc, ← Nat.mul_add, h3]
    have e3 : Q * v = Q * c + (Q * (a * y) + Q * p) := by rw [← hv, Nat.mul_add, Nat.mul_add]
    rw [e1]
    omega
  · intro j hj
    rw [getD_set_ne (by omega)]
    exact h.same j (by omega)
  · have := mul_bound ha hy hpl h.lt
    rw [hv] at this
    exact Nat.div_lt_of_lt_mul this
/-- the rows before i are added -/
structure MulOut (x y L : List Nat) (i : Nat) : Prop where
  val : nv L = nv x * nv (y.take i)
  zero : ∀ j, x.length + i ≤ j → L.getD j 0 = 0
theorem MulOut.start (x y : List Nat) (n : Nat) : MulOut x y (List.replicate n 0) 0 := by
  refine ⟨?_, fun j _ => ?_⟩
  · have : nv (List.replicate n 0) = 0 := by
      induction n with
      | zero => rfl
      | succ n ih => rw [List.replicate_succ, nv, ih]; rfl
    rw [this]; simp [nv]
  · simp [List.getD_eq_getElem?_getD, List.getElem?_replicate]
    split <;> rfl
theorem MulOut.skip {x y L : List Nat} {i : Nat} (h : MulOut x y L i) (hy : y.getD i 0 = 0) : MulOut x y L (i + 1) := by
  refine ⟨?_, fun j hj => h.zero j (by omega)⟩
  rw [nv_take_succ, hy, h.val]
  simp
theorem MulOut.next {x y P0 L : List Nat} {i v c n : Nat} (h : MulOut x y P0 i) (hin : MulIn P0 x L v i n c) (hn : x.length = n) (hy : y.getD i 0 = v) (hl : i + n < L.length) : MulOut x y (L.set (i + n) c) (i + 1) := by
  have h0 : L.getD (i + n) 0 = 0 := (hin.same _ (Nat.le_refl _)).trans (h.zero _ (by omega))
  refine ⟨?_, ?_⟩
  · have h1 := nv_set (y := c) hl
    rw [h0] at h1
    have h2 := hin.val
    rw [List.take_of_length_le (by omega), h.val] at h2
    rw [nv_take_succ, hy, Nat.mul_add]
    have e : BB ^ i * (v * nv x) = nv x * (BB ^ i * v) := by rw [Nat.mul_comm (nv x), Nat.mul_assoc]
    omega
  · intro j hj
    rw [getD_set_ne (by omega), hin.same j (by omega)]
    exact h.zero j (by omega)
theorem MulOut.nextR {x y P0 L : List Nat} {i v n : Nat} (h : MulOut x y P0 i) (hin : MulIn P0 x L v i (n + 1) 0) (hn : x.length = n) (hy : y.getD i 0 = v) : MulOut x y L (i + 1) := by
  refine ⟨?_, ?_⟩
  · have h2 := hin.val
    rw [List.take_of_length_le (by omega), h.val] at h2
    rw [nv_take_succ, hy, Nat.mul_add]
    have e : BB ^ i * (v * nv x) = nv x * (BB ^ i * v) := by rw [Nat.mul_comm (nv x), Nat.mul_assoc]
    omega
  · intro j hj
    rw [hin.same j (by omega)]
    exact h.zero j (by omega)
theorem MulOut.done {x y L : List Nat} {i : Nat} (h : MulOut x y L i) (hi : y.length ≤ i) : nv L = nv x * nv y := by rw [h.val, List.take_of_length_le hi]

theorem limb_q (a : Option Addr) (len cap : Nat) (l : List Nat) (i d : Nat) (w : World) (h : Rd w a len cap l) (hd : l.getD i 0 = d) (n : Nat) :
    Calls Tryd.prog 75 #[.slice a len cap, .int .i64 i] (w.drewN n) fun e w' => e = .returned (.int .u32 (d : Nat)) ∧ w' = w.drewN n := by
  subst hd
  exact (limb_c a len cap l i _ (h.drewN n)).mono fun _ _ ⟨h1, h2⟩ => ⟨h1, h2.symm⟩
theorem wr64 {x : Nat} (h : x < 18446744073709551616) : IntKind.u64.wrap (x : Int) = x := by simp [IntKind.wrap, IntKind.bits, IntKind.signed]; omega
theorem Win.set0 {w : World} {b n : Nat} {L : List Nat} (h : Win w b 0 n L) {i : Nat} (hi : i < n) {x : Nat} (hx : x < BB) {X : Int} (hX : X = x) : Win (w.setCell ⟨b, i, none⟩ (.int .u32 X)) b 0 n (L.set i x) := by
  have := h.set' hi hx hX
  rwa [Nat.zero_add] at this
theorem NPost.ofCn {n : Nat} {w w' : World} {u : Value} (h : Cn w' u n) (hb : Below w.heap.size w w') : NPost n w (.returned u) w' := by
  obtain ⟨a, len, cap, rfl, hr⟩ := h
  have := hr.len_eq
  subst this
  exact ⟨a, cap, rfl, hr, hb⟩
end Go.Proofs.YtcdkehghdhcokaaDoor
