/- Slices of limbs in memory: how they read, what the call owns. -/
import Derived.Test.YtgoiechhhnhgaaaDoorChecked
import Derived.Test.YtgoiechhhnhgaaaDoorPlain
import Derived.WalkKit
import Derived.ProofKit
import Derived.BigQuiet
import Derived.Deep.QuietTactic
import Derived.Deep.OwnRows
import Derived.Deep.Onto
import Derived.Laws.AppendOwnNone
import Derived.WalkSpells
import Derived.Outline
import Derived.OpenShut
import Derived.Lib.Hide
namespace Go.Proofs.YtgoiechhhnhgaaaDoor
open Go.RowKit
set_option linter.unusedVariables false
/-- a slice of limbs that reads as the list l -/
structure Rd (w : World) (a : Option Addr) (len cap : Nat) (l : List Nat) : Prop where
  len_eq : l.length = len
  le_cap : len ≤ cap
  cap_le : cap ≤ 9223372036854775807
  lim : Lim l
  nilcap : a = none → cap = 0
  cells : len = 0 ∨ ∃ b off, a = some ⟨b, off, none⟩ ∧ ∀ i, i < len → w.cell? ⟨b, off + i, none⟩ = some (.int .u32 ((l.getD i 0 : Nat) : Int))
theorem Rd.below {w w' : World} {a : Option Addr} {len cap : Nat} {l : List Nat} (h : Rd w a len cap l) (hb : Below w.heap.size w w') : Rd w' a len cap l := by
  obtain ⟨h1, h2, h3, h4, h6, h5⟩ := h
  refine ⟨h1, h2, h3, h4, h6, ?_⟩
  rcases h5 with h5 | ⟨b, off, e, h5⟩
  · exact .inl h5
  · exact .inr ⟨b, off, e, fun i hi => (hb.cell (World.block_lt_of_cell? w _ (h5 i hi))).trans (h5 i hi)⟩
theorem Rd.alloc {w : World} {a : Option Addr} {len cap : Nat} {l : List Nat} (h : Rd w a len cap l) (o : Obj) : Rd (w.alloc o) a len cap l := h.below ((Below.refl _ _).alloc (Nat.le_refl _) _)
theorem Rd.drewN {w : World} {a : Option Addr} {len cap : Nat} {l : List Nat} (h : Rd w a len cap l) (n : Nat) : Rd (w.drewN n) a len cap l := ⟨h.1, h.2, h.3, h.4, h.5, h.6⟩
theorem Rd.nil (w : World) : Rd w none 0 0 [] := ⟨rfl, by omega, by omega, Lim.nil, fun _ => rfl, .inl rfl⟩
theorem Rd.take {w : World} {a : Option Addr} {len cap : Nat} {l : List Nat} (h : Rd w a len cap l) {k : Nat} (hk : k ≤ len) : Rd w a k cap (l.take k) := by
  obtain ⟨h1, h2, h3, h4, h6, h5⟩ := h
  refine ⟨by rw [List.length_take]; omega, by omega, h3, h4.take k, h6, ?_⟩
  rcases h5 with h5 | ⟨b, off, e, h5⟩
  · left; omega
  · by_cases hk0 : k = 0
    · exact .inl hk0
    · refine .inr ⟨b, off, e, fun i hi => ?_⟩
      rw [h5 i (by omega)]
      simp [List.getD_eq_getElem?_getD, List.getElem?_take_of_lt hi]
theorem Rd.trimmed {w : World} {a : Option Addr} {len cap : Nat} {l : List Nat} (h : Rd w a len cap l) : Rd w a (dig (nv l)).length cap (dig (nv l)) := by
  have h1 := dig_prefix h.lim
  have h2 := h.take (k := (dig (nv l)).length) (by rw [← h.len_eq]; exact dig_length_le h.lim)
  rwa [h1] at h2
theorem below_dN {B : Nat} {w w' : World} (h : Below B w w') (n : Nat) : Below B w (w'.drewN n) := h.trans ⟨rfl, rfl, rfl, Nat.le_refl _, fun _ _ => rfl⟩
/-- the same world but for draws -/
def Dr (w w' : World) : Prop := ∃ n, w' = w.drewN n
theorem Dr.refl (w : World) : Dr w w := ⟨0, rfl⟩
theorem Dr.cell {w w' : World} (h : Dr w w') (a : Addr) : w'.cell? a = w.cell? a := by obtain ⟨n, rfl⟩ := h; rfl
theorem Dr.rd {w w' : World} (h : Dr w w') {a : Option Addr} {len cap : Nat} {l : List Nat} (s : Rd w a len cap l) : Rd w' a len cap l := by obtain ⟨n, rfl⟩ := h; exact s.drewN n
theorem Dr.more {w w' : World} (h : Dr w w') (n : Nat) : Dr w (w'.drewN n) := by obtain ⟨m, rfl⟩ := h; exact ⟨m + n, by simp⟩
theorem Dr.below {w w' : World} (h : Dr w w') {B : Nat} {w0 : World} (hb : Below B w0 w) : Below B w0 w' := by obtain ⟨n, rfl⟩ := h; exact below_dN hb n
theorem ret_int {k : IntKind} {a b : Int} (h : a = b) : Ending.returned (.int k a) = .returned (.int k b) := by rw [h]
theorem ret_bool {a b : Bool} (h : a = b) : Ending.returned (.bool a) = .returned (.bool b) := by rw [h]
theorem own_below {w w' : World} {base : Nat} {e : TypeId} {size : Nat} {v : Value} {n : Nat} {xs : List Value} (h : w.ownsRow base e size v n xs) (hb : Below w.heap.size w w') : w'.ownsRow base e size v n xs := by
  obtain ⟨h1, h2⟩ := h
  refine ⟨h1, ?_⟩
  rcases h2 with h2 | ⟨g, cap, cur, hv, hg, hh, r⟩
  · exact .inl h2
  · refine .inr ⟨g, cap, cur, hv, hg, ?_, r⟩
    rw [hb.block g (by have := Array.getElem?_eq_some_iff.1 hh; exact this.1)]; exact hh
theorem own_slice {w : World} {base : Nat} {e : TypeId} {size : Nat} {v : Value} {n : Nat} {xs : List Value} (h : w.ownsRow base e size v n xs) : ∃ a c, v = .slice a n c := by
  rcases h.2 with ⟨rfl, rfl⟩ | ⟨g, cap, cur, rfl, _⟩
  · exact ⟨_, _, rfl⟩
  · exact ⟨_, _, rfl⟩
/-- limbs as values -/
def lv (l : List Nat) : List Value := l.map fun (x : Nat) => Value.int .u32 (x : Int)
theorem lv_length (l : List Nat) : (lv l).length = l.length := by simp [lv]
theorem lv_append (a b : List Nat) : lv (a ++ b) = lv a ++ lv b := by simp [lv]
theorem Rd.owns {w : World} {base : Nat} {T : TypeId} {v : Value} {l : List Nat} (h : w.ownsRow base T 1 v l.length (lv l)) (hl : Lim l) : ∃ a c, v = .slice a l.length c ∧ Rd w a l.length c l := by
  rcases h.2 with ⟨rfl, h0⟩ | ⟨g, cap, cur, rfl, _, _, hlc, hcm, _⟩
  · exact ⟨none, 0, by rw [h0], rfl, by omega, by omega, hl, fun _ => rfl, .inl h0⟩
  · refine ⟨some ⟨g, 0, none⟩, cap, rfl, rfl, hlc, by unfold maxLen at hcm; omega, hl, (fun h => by cases h), .inr ⟨g, 0, rfl, fun i hi => ?_⟩⟩
    rw [Nat.zero_add, h.cellAt i (by omega)]
    simp [lv, List.getD_eq_getElem?_getD, hi]
theorem Tryd.info42 : (Tryd.prog.info? 42).map (fun i => (i.zero, i.size, i.bytes)) = some (some (.int .u32 0), 1, 4) := by kernel_rfl
theorem Rd.one (w : World) (x : Nat) (hx : x < BB) (T : TypeId) : Rd (w.alloc (.cells #[.int .u32 (x : Int)] T)) (some ⟨w.heap.size, 0, none⟩) 1 1 [x] := by
  refine ⟨rfl, by omega, by omega, Lim.cons hx Lim.nil, (fun h => by cases h), .inr ⟨_, _, rfl, fun i hi => ?_⟩⟩
  match i, hi with
  | 0, _ => simp
theorem run_append_two {P : Program} (w : World) (t t' ty e e' : TypeId) (i : TypeInfo) (ht : P.underlying t = some (.slice e)) (ht' : P.underlying t' = some (.slice e')) (hi : P.info? e = some i) (a b : Option Addr) (n c m d : Nat) :
    (Builtin.append_ #[t, t'] ty #[.slice a n c, .slice b m d]).run P w = (Builtin.append_ #[t, t] ty #[.slice a n c, .slice b m d]).run P w := by
  simp [Builtin.append_, run_underlying ht, run_underlying ht', sizeOf, typeInfo, hi]
/-- append of a slice that reads as l (nil, empty or not) to a slice that the call owns -/
theorem wpList_append_rd {w : World} {ops : Array Oper} {rest : List Oper} {o : Oper} {a : Act} {Q : Exit → Act → World → Prop} (hgd : o.guard = none) (s x : Operand) (t t' : TypeId)
    (ho : o.op = .call { callee := .builtin .append, args := #[s, x], argTypes := #[t, t'] }) (ht : Tryd.prog.underlying t = some (.slice 42)) (ht' : Tryd.prog.underlying t' = some (.slice 42))
    (base : Nat) (v : Value) (n : Nat) (xs : List Value) (hs : a.eval s = v) (hown : w.ownsRow base 42 1 v n xs)
    (ad : Option Addr) (len cap : Nat) (l : List Nat) (hx : a.eval x = .slice ad len cap) (hr : Rd w ad len cap l) (hb : n + len ≤ 1073741824) (hbase : base ≤ w.heap.size)
    (h : ∀ v' w', w'.ownsRow base 42 1 v' (n + len) (xs ++ lv l) → w.grownBy w' v.ownBlock → wpList Tryd.prog ops Q rest (a.put o.dst v') w') : wpList Tryd.prog ops Q (o :: rest) a w := by
  obtain ⟨j0, hj, hy0, hy1, hy2⟩ := info_parts Tryd.info42
  refine wpList_plain hgd fun K hK => ?_
  have key : ∃ v' w', (Builtin.append_ #[t, t] o.type #[v, .slice ad len cap]).run Tryd.prog w = .ok v' w' ∧ w'.ownsRow base 42 1 v' (n + len) (xs ++ lv l) ∧ w.grownBy w' v.ownBlock := by
    cases ad with
    | none =>
      have hc := hr.nilcap rfl
      have hl0 : len = 0 := by have := hr.le_cap; omega
      subst hc
      subst hl0
      have hnil : l = [] := List.length_eq_zero_iff.1 hr.len_eq
      subst hnil
      exact ⟨v, w, run_append_owned_none (P := Tryd.prog) (w := w) base t o.type 42 j0 1 ht hj v n xs hown, by simpa [lv] using hown, World.grownBy.refl _ _⟩
    | some y =>
      obtain ⟨v', w', h1, h2, h3, _⟩ := run_append_own (P := Tryd.prog) w base t o.type 42 j0 (.int .u32 0) 1 4 ht hj hy0 hy1 hy2 rfl (by decide) v n xs hown y len cap (lv l) (by simp [lv_length, hr.len_eq])
        (by
          intro j u hu
          simp only [lv, List.getElem?_map, Option.map_eq_some_iff] at hu
          obtain ⟨m, hm, rfl⟩ := hu
          have hjl : j < l.length := (List.getElem?_eq_some_iff.1 hm).1
          have hjl2 : j < len := by rw [← hr.len_eq]; exact hjl
          rcases hr.cells with h0 | ⟨b, off, e, hc⟩
          · omega
          · simp only [Option.some.injEq] at e
            subst e
            rw [show (⟨b, off, none⟩ : Addr).add j = ⟨b, off + j, none⟩ from by unfold Addr.add; split <;> simp_all]
            rw [hc j hjl2]; simp [List.getD_eq_getElem?_getD, hm])
        (by intro u hu; simp only [lv, List.mem_map] at hu; obtain ⟨m, _, rfl⟩ := hu; rfl)
        (by unfold maxLen; omega) (by omega) hbase
      exact ⟨v', w', h1, h2, h3⟩
  obtain ⟨v', w', h1, h2, h3⟩ := key
  obtain ⟨va, vc, rfl⟩ := own_slice hown
  rw [← run_append_two w t t' o.type 42 42 j0 ht ht' hj] at h1
  unfold Oper.wp execOp
  simp only [ho, resolve, invoke, builtin, Sem.run_bind, Sem.run_pure, Result.andThen_ok, List.map_toArray, List.map_cons, List.map_nil, hs, hx, h1]
  exact hK _ _ (h v' w' h2 h3)
end Go.Proofs.YtgoiechhhnhgaaaDoor
