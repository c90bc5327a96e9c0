/- Carried over from another seat by program (portn.py). -/
import Derived.Test.YtnalmjbgkedcoaaDoorChecked
import Derived.Test.YtnalmjbgkedcoaaDoorNpl
import Derived.WalkKit
import Derived.ProofKit
import Derived.BigQuiet
import Derived.Deep.QuietTactic
import Derived.Deep.OwnRows
import Derived.Deep.Onto
import Derived.Laws.AppendOwnNone
import Derived.WalkSpells
import Derived.Outline
import Derived.OpenShut
import Derived.Lib.Hide
import Derived.Laws.BitsAllLaws
namespace Go.Proofs.YtnalmjbgkedcoaaDoor
open Go.RowKit
set_option linter.unusedVariables false
/-- a slice of limbs that reads as the list l -/
structure Rd (w : World) (a : Option Addr) (len cap : Nat) (l : List Nat) : Prop where
  len_eq : l.length = len
  le_cap : len ≤ cap
  cap_le : cap ≤ 9223372036854775807
  lim : Lim l
  nilcap : a = none → cap = 0
  cells : len = 0 ∨ ∃ b off, a = some ⟨b, off, none⟩ ∧ ∀ i, i < len → w.cell? ⟨b, off + i, none⟩ = some (.int .u32 ((l.getD i 0 : Nat) : Int))
theorem Rd.below {w w' : World} {a : Option Addr} {len cap : Nat} {l : List Nat} (h : Rd w a len cap l) (hb : Below w.heap.size w w') : Rd w' a len cap l := by
  obtain ⟨h1, h2, h3, h4, h6, h5⟩ := h
  refine ⟨h1, h2, h3, h4, h6, ?_⟩
  rcases h5 with h5 | ⟨b, off, e, h5⟩
  · exact .inl h5
  · exact .inr ⟨b, off, e, fun i hi => (hb.cell (World.block_lt_of_cell? w _ (h5 i hi))).trans (h5 i hi)⟩
theorem Rd.alloc {w : World} {a : Option Addr} {len cap : Nat} {l : List Nat} (h : Rd w a len cap l) (o : Obj) : Rd (w.alloc o) a len cap l := h.below ((Below.refl _ _).alloc (Nat.le_refl _) _)
theorem Rd.drewN {w : World} {a : Option Addr} {len cap : Nat} {l : List Nat} (h : Rd w a len cap l) (n : Nat) : Rd (w.drewN n) a len cap l := ⟨h.1, h.2, h.3, h.4, h.5, h.6⟩
theorem Rd.nil (w : World) : Rd w none 0 0 [] := ⟨rfl, by omega, by omega, Lim.nil, fun _ => rfl, .inl rfl⟩
theorem Rd.take {w : World} {a : Option Addr} {len cap : Nat} {l : List Nat} (h : Rd w a len cap l) {k : Nat} (hk : k ≤ len) : Rd w a k cap (l.take k) := by
  obtain ⟨h1, h2, h3, h4, h6, h5⟩ := h
  refine ⟨by rw [List.length_take]; omega, by omega, h3, h4.take k, h6, ?_⟩
  rcases h5 with h5 | ⟨b, off, e, h5⟩
  · left; omega
  · by_cases hk0 : k = 0
    · exact .inl hk0
    · refine .inr ⟨b, off, e, fun i hi => ?_⟩
      rw [h5 i (by omega)]
      simp [List.getD_eq_getElem?_getD, List.getElem?_take_of_lt hi]
theorem Rd.trimmed {w : World} {a : Option Addr} {len cap : Nat} {l : List Nat} (h : Rd w a len cap l) : Rd w a (dig (nv l)).length cap (dig (nv l)) := by
  have h1 := dig_prefix h.lim
  have h2 := h.take (k := (dig (nv l)).length) (by rw [← h.len_eq]; exact dig_length_le h.lim)
  rwa [h1] at h2
theorem below_dN {B : Nat} {w w' : World} (h : Below B w w') (n : Nat) : Below B w (w'.drewN n) := h.trans ⟨rfl, rfl, rfl, Nat.le_refl _, fun _ _ => rfl⟩
/-- the same world but for draws -/
def Dr (w w' : World) : Prop := ∃ n, w' = w.drewN n
theorem Dr.refl (w : World) : Dr w w := ⟨0, rfl⟩
theorem Dr.cell {w w' : World} (h : Dr w w') (a : Addr) : w'.cell? a = w.cell? a := by obtain ⟨n, rfl⟩ := h; rfl
theorem Dr.rd {w w' : World} (h : Dr w w') {a : Option Addr} {len cap : Nat} {l : List Nat} (s : Rd w a len cap l) : Rd w' a len cap l := by obtain ⟨n, rfl⟩ := h; exact s.drewN n
theorem Dr.more {w w' : World} (h : Dr w w') (n : Nat) : Dr w (w'.drewN n) := by obtain ⟨m, rfl⟩ := h; exact ⟨m + n, by simp⟩
theorem Dr.below {w w' : World} (h : Dr w w') {B : Nat} {w0 : World} (hb : Below B w0 w) : Below B w0 w' := by obtain ⟨n, rfl⟩ := h; exact below_dN hb n
theorem ret_int {k : IntKind} {a b : Int} (h : a = b) : Ending.returned (.int k a) = .returned (.int k b) := by rw [h]
theorem ret_bool {a b : Bool} (h : a = b) : Ending.returned (.bool a) = .returned (.bool b) := by rw [h]
theorem own_below {w w' : World} {base : Nat} {e : TypeId} {size : Nat} {v : Value} {n : Nat} {xs : List Value} (h : w.ownsRow base e size v n xs) (hb : Below w.heap.size w w') : w'.ownsRow base e size v n xs := by
  obtain ⟨h1, h2⟩ := h
  refine ⟨h1, ?_⟩
  rcases h2 with h2 | ⟨g, cap, cur, hv, hg, hh, r⟩
  · exact .inl h2
  · refine .inr ⟨g, cap, cur, hv, hg, ?_, r⟩
    rw [hb.block g (by have := Array.getElem?_eq_some_iff.1 hh; exact this.1)]; exact hh
theorem own_slice {w : World} {base : Nat} {e : TypeId} {size : Nat} {v : Value} {n : Nat} {xs : List Value} (h : w.ownsRow base e size v n xs) : ∃ a c, v = .slice a n c := by
  rcases h.2 with ⟨rfl, rfl⟩ | ⟨g, cap, cur, rfl, _⟩
  · exact ⟨_, _, rfl⟩
  · exact ⟨_, _, rfl⟩
/-- limbs as values -/
def lv (l : List Nat) : List Value := l.map fun (x : Nat) => Value.int .u32 (x : Int)
theorem lv_length (l : List Nat) : (lv l).length = l.length := by simp [lv]
theorem lv_append (a b : List Nat) : lv (a ++ b) = lv a ++ lv b := by simp [lv]
theorem Rd.owns {w : World} {base : Nat} {T : TypeId} {v : Value} {l : List Nat} (h : w.ownsRow base T 1 v l.length (lv l)) (hl : Lim l) : ∃ a c, v = .slice a l.length c ∧ Rd w a l.length c l := by
  rcases h.2 with ⟨rfl, h0⟩ | ⟨g, cap, cur, rfl, _, _, hlc, hcm, _⟩
  · exact ⟨none, 0, by rw [h0], rfl, by omega, by omega, hl, fun _ => rfl, .inl h0⟩
  · refine ⟨some ⟨g, 0, none⟩, cap, rfl, rfl, hlc, by unfold maxLen at hcm; omega, hl, (fun h => by cases h), .inr ⟨g, 0, rfl, fun i hi => ?_⟩⟩
    rw [Nat.zero_add, h.cellAt i (by omega)]
    simp [lv, List.getD_eq_getElem?_getD, hi]
theorem Tryd.infoU : (Tryd.prog.info? 56).map (fun i => (i.zero, i.size, i.bytes)) = some (some (.int .u32 0), 1, 4) := by kernel_rfl
theorem Rd.one (w : World) (x : Nat) (hx : x < BB) (T : TypeId) : Rd (w.alloc (.cells #[.int .u32 (x : Int)] T)) (some ⟨w.heap.size, 0, none⟩) 1 1 [x] := by
  refine ⟨rfl, by omega, by omega, Lim.cons hx Lim.nil, (fun h => by cases h), .inr ⟨_, _, rfl, fun i hi => ?_⟩⟩
  match i, hi with
  | 0, _ => simp
theorem run_append_two {P : Program} (w : World) (t t' ty e e' : TypeId) (i : TypeInfo) (ht : P.underlying t = some (.slice e)) (ht' : P.underlying t' = some (.slice e')) (hi : P.info? e = some i) (a b : Option Addr) (n c m d : Nat) :
    (Builtin.append_ #[t, t'] ty #[.slice a n c, .slice b m d]).run P w = (Builtin.append_ #[t, t] ty #[.slice a n c, .slice b m d]).run P w := by
  simp [Builtin.append_, run_underlying ht, run_underlying ht', sizeOf, typeInfo, hi]
/-- append of a slice that reads as l (nil, empty or not) to a slice that the call owns -/
theorem wpList_append_rd {w : World} {ops : Array Oper} {rest : List Oper} {o : Oper} {a : Act} {Q : Exit → Act → World → Prop} (hgd : o.guard = none) (s x : Operand) (t t' : TypeId)
    (ho : o.op = .call { callee := .builtin .append, args := #[s, x], argTypes := #[t, t'] }) (ht : Tryd.prog.underlying t = some (.slice 56)) (ht' : Tryd.prog.underlying t' = some (.slice 56))
    (base : Nat) (v : Value) (n : Nat) (xs : List Value) (hs : a.eval s = v) (hown : w.ownsRow base 56 1 v n xs)
    (ad : Option Addr) (len cap : Nat) (l : List Nat) (hx : a.eval x = .slice ad len cap) (hr : Rd w ad len cap l) (hb : n + len ≤ 1073741824) (hbase : base ≤ w.heap.size)
    (h : ∀ v' w', w'.ownsRow base 56 1 v' (n + len) (xs ++ lv l) → w.grownBy w' v.ownBlock → wpList Tryd.prog ops Q rest (a.put o.dst v') w') : wpList Tryd.prog ops Q (o :: rest) a w := by
  obtain ⟨j0, hj, hy0, hy1, hy2⟩ := info_parts Tryd.infoU
  refine wpList_plain hgd fun K hK => ?_
  have key : ∃ v' w', (Builtin.append_ #[t, t] o.type #[v, .slice ad len cap]).run Tryd.prog w = .ok v' w' ∧ w'.ownsRow base 56 1 v' (n + len) (xs ++ lv l) ∧ w.grownBy w' v.ownBlock := by
    cases ad with
    | none =>
      have hc := hr.nilcap rfl
      have hl0 : len = 0 := by have := hr.le_cap; omega
      subst hc
      subst hl0
      have hnil : l = [] := List.length_eq_zero_iff.1 hr.len_eq
      subst hnil
      exact ⟨v, w, run_append_owned_none (P := Tryd.prog) (w := w) base t o.type 56 j0 1 ht hj v n xs hown, by simpa [lv] using hown, World.grownBy.refl _ _⟩
    | some y =>
      obtain ⟨v', w', h1, h2, h3, _⟩ := run_append_own (P := Tryd.prog) w base t o.type 56 j0 (.int .u32 0) 1 4 ht hj hy0 hy1 hy2 rfl (by decide) v n xs hown y len cap (lv l) (by simp [lv_length, hr.len_eq])
        (by
          intro j u hu
          simp only [lv, List.getElem?_map, Option.map_eq_some_iff] at hu
          obtain ⟨m, hm, rfl⟩ := hu
          have hjl : j < l.length := (List.getElem?_eq_some_iff.1 hm).1
          have hjl2 : j < len := by rw [← hr.len_eq]; exact hjl
          rcases hr.cells with h0 | ⟨b, off, e, hc⟩
          · omega
          · simp only [Option.some.injEq] at e
            subst e
            rw [show (⟨b, off, none⟩ : Addr).add j = ⟨b, off + j, none⟩ from by unfold Addr.add; split <;> simp_all]
            rw [hc j hjl2]; simp [List.getD_eq_getElem?_getD, hm])
        (by intro u hu; simp only [lv, List.mem_map] at hu; obtain ⟨m, _, rfl⟩ := hu; rfl)
        (by unfold maxLen; omega) (by omega) hbase
      exact ⟨v', w', h1, h2, h3⟩
  obtain ⟨v', w', h1, h2, h3⟩ := key
  obtain ⟨va, vc, rfl⟩ := own_slice hown
  rw [← run_append_two w t t' o.type 56 56 j0 ht ht' hj] at h1
  unfold Oper.wp execOp
  simp only [ho, resolve, invoke, builtin, Sem.run_bind, Sem.run_pure, Result.andThen_ok, List.map_toArray, List.map_cons, List.map_nil, hs, hx, h1]
  exact hK _ _ (h v' w' h2 h3)

set_option maxHeartbeats 400000 in
theorem trim_c (a : Option Addr) (len cap : Nat) (l : List Nat) (w : World) (h : Rd w a len cap l) :
    Calls Tryd.prog 47 #[.slice a len cap] w fun e w' => e = .returned (.slice a (dig (nv l)).length cap) ∧ w = w' := by
  obtain ⟨hl, hlc, hcm, hlim, hnc, hc⟩ := h
  clear hnc
  have HL := Lib.hid hl; clear hl
  have HLIM := Lib.hid hlim; clear hlim
  rcases hc with rfl | ⟨b, off, rfl, hc⟩
  · have hz : Hid ((dig (nv l)).length = 0) := Lib.hid (by have h0 := List.length_eq_zero_iff.1 HL.out; rw [h0, nv, dig_zero]; rfl)
    go_enter Tryd.func47, Tryd.ntmps47
    go_wp2
    refine wp_loop_rounds 1 ?_; rw [rounds_succ]
    go_wp2
    go_ret
    exact ⟨by rw [hz.out]; rfl, rfl⟩
  · have HC := Lib.hid hc; clear hc
    go_enter Tryd.func47, Tryd.ntmps47
    go_wp2
    go_loop [0] (fun s => ∃ (k : Nat), k ≤ len ∧ s = .slice (some ⟨b, off, none⟩) k cap ∧ Hid (nv (l.take k) = nv l)) (fun s => match s with | .slice _ n _ => n | _ => 0)
    case atStart => exact ⟨len, by omega, rfl, Lib.hid (by rw [List.take_of_length_le (by rw [HL.out]; omega)])⟩
    case round =>
      obtain ⟨k, hk, rfl, hinv⟩ := hrel
      by_cases hk0 : k = 0
      · subst hk0
        have hz : Hid ((dig (nv l)).length = 0) := Lib.hid (by rw [← dig_take HLIM.out (k := 0) (by omega) hinv.out (.inl rfl)]; simp)
        go_wp2
        go_ret
        exact ⟨by rw [hz.out]; rfl, rfl⟩
      · obtain ⟨j, rfl⟩ : ∃ j, k = j + 1 := ⟨k - 1, by omega⟩
        obtain ⟨x, hx⟩ : ∃ x, l.getD j 0 = x := ⟨_, rfl⟩
        have hcell := HC.out j (by omega)
        rw [hx] at hcell
        by_cases hx0 : x = 0
        · have hinv2 : Hid (nv (l.take j) = nv l) := Lib.hid (by rw [← nv_take_zero (by rw [HL.out]; omega) (by rw [hx, hx0])]; exact hinv.out)
          subst hx0
          clear hx
          go_wp2
          go_round
          case rel => exact ⟨j, by omega, rfl, hinv2⟩
          case measure => simp
        · have hne : ((x : Int) == 0) = false := by simp; omega
          have hz : Hid ((dig (nv l)).length = j + 1) := Lib.hid (by rw [← dig_take HLIM.out (k := j + 1) (by rw [HL.out]; omega) hinv.out (.inr (by simp; rw [← List.getD_eq_getElem?_getD, hx]; exact hx0)), List.length_take, HL.out]; omega)
          clear hx hx0
          go_wp2
          go_ret
          exact ⟨by rw [hz.out]; rfl, rfl⟩

set_option maxHeartbeats 400000 in
theorem trims_c (a : Option Addr) (len cap : Nat) (l : List Nat) (w : World) (h : Rd w a len cap l) :
    Calls Tryd.prog 80 #[.slice a len cap] w fun e w' => e = .returned (.slice a (dig (nv l)).length cap) ∧ w = w' := by
  obtain ⟨hl, hlc, hcm, hlim, hnc, hc⟩ := h
  clear hnc
  have HL := Lib.hid hl; clear hl
  have HLIM := Lib.hid hlim; clear hlim
  rcases hc with rfl | ⟨b, off, rfl, hc⟩
  · have hz : Hid ((dig (nv l)).length = 0) := Lib.hid (by have h0 := List.length_eq_zero_iff.1 HL.out; rw [h0, nv, dig_zero]; rfl)
    go_enter Tryd.func80, Tryd.ntmps80
    go_wp2
    refine wp_loop_rounds 1 ?_; rw [rounds_succ]
    go_wp2
    go_ret
    exact ⟨by rw [hz.out]; rfl, rfl⟩
  · have HC := Lib.hid hc; clear hc
    go_enter Tryd.func80, Tryd.ntmps80
    go_wp2
    go_loop [0] (fun s => ∃ (k : Nat), k ≤ len ∧ s = .slice (some ⟨b, off, none⟩) k cap ∧ Hid (nv (l.take k) = nv l)) (fun s => match s with | .slice _ n _ => n | _ => 0)
    case atStart => exact ⟨len, by omega, rfl, Lib.hid (by rw [List.take_of_length_le (by rw [HL.out]; omega)])⟩
    case round =>
      obtain ⟨k, hk, rfl, hinv⟩ := hrel
      by_cases hk0 : k = 0
      · subst hk0
        have hz : Hid ((dig (nv l)).length = 0) := Lib.hid (by rw [← dig_take HLIM.out (k := 0) (by omega) hinv.out (.inl rfl)]; simp)
        go_wp2
        go_ret
        exact ⟨by rw [hz.out]; rfl, rfl⟩
      · obtain ⟨j, rfl⟩ : ∃ j, k = j + 1 := ⟨k - 1, by omega⟩
        obtain ⟨x, hx⟩ : ∃ x, l.getD j 0 = x := ⟨_, rfl⟩
        have hcell := HC.out j (by omega)
        rw [hx] at hcell
        by_cases hx0 : x = 0
        · have hinv2 : Hid (nv (l.take j) = nv l) := Lib.hid (by rw [← nv_take_zero (by rw [HL.out]; omega) (by rw [hx, hx0])]; exact hinv.out)
          subst hx0
          clear hx
          go_wp2
          go_round
          case rel => exact ⟨j, by omega, rfl, hinv2⟩
          case measure => simp
        · have hne : ((x : Int) == 0) = false := by simp; omega
          have hz : Hid ((dig (nv l)).length = j + 1) := Lib.hid (by rw [← dig_take HLIM.out (k := j + 1) (by rw [HL.out]; omega) hinv.out (.inr (by simp; rw [← List.getD_eq_getElem?_getD, hx]; exact hx0)), List.length_take, HL.out]; omega)
          clear hx hx0
          go_wp2
          go_ret
          exact ⟨by rw [hz.out]; rfl, rfl⟩

/-- a copy of limbs that the call owns -/
def CPost (l : List Nat) (w : World) (e : Ending) (w' : World) : Prop := ∃ v, e = Ending.returned v ∧ w'.ownsRow w.heap.size 56 1 v l.length (lv l) ∧ Lim l ∧ Below w.heap.size w w'
/-- a slice that reads as the canonical limbs of n -/
def NPost (n : Nat) (w : World) (e : Ending) (w' : World) : Prop := ∃ a cap, e = Ending.returned (.slice a (dig n).length cap) ∧ Rd w' a (dig n).length cap (dig n) ∧ Below w.heap.size w w'
theorem CPost.npost {l : List Nat} {n : Nat} {w : World} {e : Ending} {w' : World} (h : CPost l w e w') (hl : l = dig n) : NPost n w e w' := by
  subst hl
  obtain ⟨v, rfl, ho, hl, hb⟩ := h
  obtain ⟨a, c, rfl, hr⟩ := Rd.owns ho hl
  exact ⟨a, c, rfl, hr, hb⟩

set_option maxHeartbeats 400000 in
theorem clone_c (a : Option Addr) (len cap : Nat) (l : List Nat) (w : World) (h : Rd w a len cap l) (hb : len ≤ 1048576) :
    Calls Tryd.prog 79 #[.slice a len cap] w (CPost l w) := by
  have hq := fun w => Lib.run_eql_slice_nil (P := Tryd.prog) w 23 56 a len cap 0 0 Tryd.underlying23
  cases a with
  | none =>
    have hc := h.nilcap rfl
    have hl0 : len = 0 := by have := h.le_cap; omega
    subst hc
    subst hl0
    have hnil : l = [] := List.length_eq_zero_iff.1 h.len_eq
    subst hnil
    have hq2 : ∀ w, (binOp .eql 23 (.slice none 0 0) (.slice none 0 0)).run Tryd.prog w = .ok (.bool true) w := hq
    clear h hq
    go_enter Tryd.func79, Tryd.ntmps79
    go_wp2
    go_ret
    exact ⟨_, rfl, World.ownsRow_nil _ _ _ _, Lim.nil, Below.refl _ _⟩
  | some y =>
    have hq2 : ∀ w, (binOp .eql 23 (.slice (some y) len cap) (.slice none 0 0)).run Tryd.prog w = .ok (.bool false) w := hq
    have HL := Lib.hid h.lim
    have HLE := Lib.hid h.len_eq
    have HO := Lib.hid (World.ownsRow_lit (base := w.heap.size) (e := 56) (size := 1) w #[] 0 (Nat.le_refl _) (by decide) (by simp))
    have HR := Lib.hid (h.alloc (.cells #[] 56))
    clear h hq
    go_enter Tryd.func79, Tryd.ntmps79
    go_wp2_with (at_builtin; refine wpList_append_rd rfl _ _ 23 23 rfl Tryd.underlying23 Tryd.underlying23 w.heap.size _ 0 [] rfl HO.out _ _ _ _ rfl HR.out (by omega) (by simp) ?_)
    intro v w1 hown hgrow
    have hbel : Below w.heap.size w w1 := ((Below.refl _ _).alloc (Nat.le_refl _) _).grown hgrow (by simp) (fun k hk => by simp [Value.ownBlock] at hk; omega)
    clear hgrow
    go_wp2
    go_ret
    exact ⟨_, rfl, by rw [HLE.out]; simpa using hown, HL.out, hbel⟩

theorem make_c (a : Option Addr) (len cap : Nat) (l : List Nat) (w : World) (h : Rd w a len cap l) (hb : len ≤ 1048576) :
    Calls Tryd.prog 64 #[.slice a len cap] w (NPost (nv l) w) := by
  have H := Lib.hid h
  have H2 := Lib.hid h.trimmed
  have hle : (dig (nv l)).length ≤ 1048576 := by have := dig_length_le h.lim; rw [h.len_eq] at this; omega
  clear h
  go_enter Tryd.func64, Tryd.ntmps64
  go_wp2_with (go_at_call 80; refine (trims_c _ _ _ l _ H.out).mono ?_; rintro e w' ⟨rfl, rfl⟩)
  refine (clone_c _ _ _ _ _ H2.out hle).mono ?_
  rintro e w1 ⟨v, rfl, ho, hl, hbel⟩
  go_wp2_with fail
  go_ret
  exact CPost.npost ⟨_, rfl, ho, hl, hbel⟩ rfl

set_option maxHeartbeats 400000 in
theorem rmake_c (a : Option Addr) (len cap : Nat) (l : List Nat) (w : World) (h : Rd w a len cap l) (hb : len ≤ 1048576) :
    Calls Tryd.prog 73 #[.slice a len cap] w (NPost (nv l) w) := by
  have fin : ∀ e w', CPost (dig (nv l)) w e w' → NPost (nv l) w e w' := fun e w' h => h.npost rfl
  refine Calls.mono ?_ fin
  clear fin
  have H := Lib.hid h
  have HO := Lib.hid (World.ownsRow_lit (base := w.heap.size) (e := 56) (size := 1) w #[] 0 (Nat.le_refl _) (by decide) (by simp))
  obtain ⟨hl, hlc, hcm, hlim, hnc, hc⟩ := h
  clear hnc
  have HL := Lib.hid hl; clear hl
  have HLIM := Lib.hid hlim; clear hlim
  rcases hc with rfl | ⟨b, off, rfl, hc⟩
  · have h0 := List.length_eq_zero_iff.1 HL.out
    subst h0
    have HR := Lib.hid (H.out.alloc (.cells #[] 56))
    have hz : Hid (dig (nv []) = []) := Lib.hid (by rw [nv, dig_zero])
    go_enter Tryd.func73, Tryd.ntmps73
    go_wp2
    refine wp_loop_rounds 1 ?_; rw [rounds_succ]
    go_wp2_with (at_builtin; refine wpList_append_rd rfl _ _ 23 22 rfl Tryd.underlying23 Tryd.underlying22 w.heap.size _ 0 [] rfl HO.out _ _ _ _ rfl HR.out (by omega) (by simp) ?_)
    intro v w1 hown hgrow
    have hbel : Below w.heap.size w w1 := ((Below.refl _ _).alloc (Nat.le_refl _) _).grown hgrow (by simp) (fun k hk => by simp [Value.ownBlock] at hk; omega)
    clear hgrow
    go_wp2
    go_ret
    exact ⟨_, rfl, by rw [hz.out]; simpa using hown, by rw [hz.out]; exact Lim.nil, hbel⟩
  · have HC := Lib.hid hc; clear hc
    go_enter Tryd.func73, Tryd.ntmps73
    go_wp2
    go_loop [3] (fun s => ∃ (k : Nat), k ≤ len ∧ s = .int .i64 k ∧ Hid (nv (l.take k) = nv l)) (fun s => (intOf s).toNat)
    case atStart => exact ⟨len, by omega, rfl, Lib.hid (by rw [List.take_of_length_le (by rw [HL.out]; omega)])⟩
    case round =>
      obtain ⟨k, hk, rfl, hinv⟩ := hrel
      have tail : (k = 0 ∨ l.getD (k - 1) 0 ≠ 0) → Hid (l.take k = dig (nv l)) := fun hz => Lib.hid (dig_take HLIM.out (by rw [HL.out]; exact hk) hinv.out hz)
      have HT := Lib.hid tail
      clear tail
      have HR := Lib.hid ((H.out.take hk).alloc (.cells #[] 56))
      by_cases hk0 : k = 0
      · subst hk0
        have hz := HT.out (.inl rfl)
        go_wp2_with (at_builtin; refine wpList_append_rd rfl _ _ 23 22 rfl Tryd.underlying23 Tryd.underlying22 w.heap.size _ 0 [] rfl HO.out _ _ _ _ rfl HR.out (by omega) (by simp) ?_)
        intro v w1 hown hgrow
        have hbel : Below w.heap.size w w1 := ((Below.refl _ _).alloc (Nat.le_refl _) _).grown hgrow (by simp) (fun k hk => by simp [Value.ownBlock] at hk; omega)
        clear hgrow
        go_wp2
        go_ret
        refine ⟨_, rfl, ?_, by rw [← hz.out]; exact HLIM.out.take _, hbel⟩
        rw [← hz.out]; simpa using hown
      · obtain ⟨j, rfl⟩ : ∃ j, k = j + 1 := ⟨k - 1, by omega⟩
        obtain ⟨x, hx⟩ : ∃ x, l.getD j 0 = x := ⟨_, rfl⟩
        have hcell := HC.out j (by omega)
        rw [hx] at hcell
        by_cases hx0 : x = 0
        · have hinv2 : Hid (nv (l.take j) = nv l) := Lib.hid (by rw [← nv_take_zero (by rw [HL.out]; omega) (by rw [hx, hx0])]; exact hinv.out)
          subst hx0
          clear hx HR
          go_wp2
          go_round
          case rel => exact ⟨j, by omega, by go_num, hinv2⟩
          case measure => simp [intOf]
        · have hne : ((x : Int) == 0) = false := by simp; omega
          have hz := HT.out (.inr (by rw [Nat.add_sub_cancel, hx]; exact hx0))
          clear hx hx0
          go_wp2_with (at_builtin; refine wpList_append_rd rfl _ _ 23 22 rfl Tryd.underlying23 Tryd.underlying22 w.heap.size _ 0 [] rfl HO.out _ _ _ _ rfl HR.out (by omega) (by simp) ?_)
          intro v w1 hown hgrow
          have hbel : Below w.heap.size w w1 := ((Below.refl _ _).alloc (Nat.le_refl _) _).grown hgrow (by simp) (fun k hk => by simp [Value.ownBlock] at hk; omega)
          clear hgrow
          go_wp2
          go_ret
          refine ⟨_, rfl, ?_, by rw [← hz.out]; exact HLIM.out.take _, hbel⟩
          rw [← hz.out, List.length_take, HL.out, Nat.min_eq_left hk]; simpa using hown

/-- equal slices -/
def eqB (l t : List Nat) : Bool := l == t
def TakeEq (l t : List Nat) (k : Nat) : Prop := ∀ j, j < k → l.getD j 0 = t.getD j 0
theorem takeEq_zero (l t : List Nat) : TakeEq l t 0 := fun j hj => by omega
theorem takeEq_step {l t : List Nat} {k d x : Nat} (h : TakeEq l t k) (hd : l.getD k 0 = d) (hx : t.getD k 0 = x) (he : d = x) : TakeEq l t (k + 1) := by
  intro j hj
  by_cases hjk : j = k
  · subst hjk; rw [hd, hx, he]
  · exact h j (by omega)
theorem eqB_all {l t : List Nat} (h : l.length = t.length) (h2 : TakeEq l t l.length) : eqB l t = true := by
  unfold eqB; rw [list_ext_getD h h2]; simp
theorem eqB_at {l t : List Nat} {k d x : Nat} (hd : l.getD k 0 = d) (hx : t.getD k 0 = x) (he : ¬ d = x) : eqB l t = false := by
  unfold eqB; rw [beq_eq_false_iff_ne]; rintro rfl; exact he (hd.symm.trans hx)
theorem eqB_len {l t : List Nat} (h : l.length ≠ t.length) : eqB l t = false := by
  unfold eqB; rw [beq_eq_false_iff_ne]; rintro rfl; exact h rfl
theorem drewN_more (w : World) (n m : Nat) : ∃ k, (w.drewN n).drewN m = w.drewN k := ⟨n + m, by simp⟩
theorem eqB_dig (a b : Nat) : eqB (dig a) (dig b) = (a == b) := by
  unfold eqB
  by_cases h : a = b
  · subst h; simp
  · rw [beq_eq_false_iff_ne.2 h, beq_eq_false_iff_ne.2 (fun h2 => h (dig_inj h2))]
set_option maxHeartbeats 400000 in
theorem same_c (a a' : Option Addr) (len cap len' cap' : Nat) (l t : List Nat) (w : World) (h : Rd w a len cap l) (h' : Rd w a' len' cap' t) :
    Calls Tryd.prog 61 #[.slice a len cap, .slice a' len' cap'] w fun e w' => e = .returned (.bool (eqB l t)) ∧ ∃ n, w' = w.drewN n := by
  obtain ⟨hl, hlc, hcm, -, -, hc⟩ := h
  obtain ⟨hl', hlc', hcm', -, -, hc'⟩ := h'
  have HL := Lib.hid hl; clear hl
  have HL' := Lib.hid hl'; clear hl'
  by_cases hll : len = len'
  · subst hll
    by_cases hz : len = 0
    · subst hz
      have hfin : Hid (eqB l t = true) := Lib.hid (eqB_all (by rw [HL.out, HL'.out]) (by rw [HL.out]; exact takeEq_zero l t))
      clear hc hc'
      go_enter Tryd.func61, Tryd.ntmps61
      go_wp2
      refine wp_loop_rounds 1 ?_; rw [rounds_succ]
      go_wp2
      go_ret
      exact ⟨ret_bool hfin.out.symm, 0, rfl⟩
    rcases hc with hc | ⟨b, off, rfl, hc⟩
    · omega
    rcases hc' with hc' | ⟨b', off', rfl, hc'⟩
    · omega
    have HC := Lib.hid hc; clear hc
    have HC' := Lib.hid hc'; clear hc'
    go_enter Tryd.func61, Tryd.ntmps61
    go_wp2
    go_loopw [5] (fun i wr => ∃ (k : Nat), k ≤ len ∧ i = .int .i64 k ∧ TakeEq l t k ∧ ∃ n, wr = w.drewN n) (fun i _ => len - (intOf i).toNat)
    case atStart => exact ⟨0, by omega, rfl, takeEq_zero l t, 0, rfl⟩
    case round =>
      obtain ⟨k, hk, rfl, hinv, n, rfl⟩ := hrel
      by_cases hlt : k < len
      · obtain ⟨d, hd⟩ : ∃ d, l.getD k 0 = d := ⟨_, rfl⟩
        have hcell := HC.out k hlt
        rw [hd] at hcell
        obtain ⟨x, hx⟩ : ∃ x, t.getD k 0 = x := ⟨_, rfl⟩
        have hcell' := HC'.out k hlt
        rw [hx] at hcell'
        by_cases he : d = x
        · have hst := takeEq_step hinv hd hx he
          clear hd hx
          subst he
          go_wp2
          go_quiet (fail)
          go_wp2
          go_roundw
          case rel => exact ⟨k + 1, by omega, by go_num, hst, _, rfl⟩
          case measure => simp [intOf]; omega
        · have hfin : Hid (eqB l t = false) := Lib.hid (eqB_at hd hx he)
          clear hd hx
          have hne : ((d : Int) != (x : Int)) = true := by rw [bne_iff_ne]; omega
          go_wp2
          go_quiet (fail)
          go_wp2
          go_ret
          exact ⟨ret_bool hfin.out.symm, drewN_more _ _ _⟩
      · have hkl : k = len := by omega
        subst hkl
        have hfin : Hid (eqB l t = true) := Lib.hid (eqB_all (by rw [HL.out, HL'.out]) (by rw [HL.out]; exact hinv))
        go_wp2
        go_ret
        exact ⟨ret_bool hfin.out.symm, _, rfl⟩
  · have hfin : Hid (eqB l t = false) := Lib.hid (eqB_len (by rw [HL.out, HL'.out]; exact hll))
    have hne : ((len : Int) != (len' : Int)) = true := by rw [bne_iff_ne]; omega
    clear hc hc'
    go_enter Tryd.func61, Tryd.ntmps61
    go_wp2
    go_ret
    exact ⟨ret_bool hfin.out.symm, 0, rfl⟩

theorem limb_c (a : Option Addr) (len cap : Nat) (l : List Nat) (i : Nat) (w : World) (h : Rd w a len cap l) :
    Calls Tryd.prog 72 #[.slice a len cap, .int .i64 i] w fun e w' => e = .returned (.int .u32 ((l.getD i 0 : Nat) : Int)) ∧ w = w' := by
  obtain ⟨x, hx⟩ : ∃ x, l.getD i 0 = x := ⟨_, rfl⟩
  rw [hx]
  obtain ⟨hl, hlc, hcm, -, -, hc⟩ := h
  by_cases hi : i < len
  · rcases hc with hc | ⟨b, off, rfl, hc⟩
    · omega
    have hcell := hc i hi
    rw [hx] at hcell
    clear hc hx hl
    go_enter Tryd.func72, Tryd.ntmps72
    go_wp2
    go_ret
    exact ⟨rfl, rfl⟩
  · have hx0 : x = 0 := by rw [← hx]; exact getD_over (by rw [hl]; omega)
    subst hx0
    clear hc hx hl
    go_enter Tryd.func72, Tryd.ntmps72
    go_wp2
    go_ret
    exact ⟨rfl, rfl⟩

theorem Rd.one' (w : World) (x : Nat) (X : Int) (hX : X = x) (hx : x < BB) (T : TypeId) : Rd (w.alloc (.cells #[.int .u32 X] T)) (some ⟨w.heap.size, 0, none⟩) 1 1 [x] := by
  subst hX; exact Rd.one w x hx T
theorem Rd.two (w : World) (x y : Nat) (X Y : Int) (hX : X = x) (hY : Y = y) (hx : x < BB) (hy : y < BB) (T : TypeId) : Rd (w.alloc (.cells #[.int .u32 X, .int .u32 Y] T)) (some ⟨w.heap.size, 0, none⟩) 2 2 [x, y] := by
  subst hX; subst hY
  refine ⟨rfl, by omega, by omega, Lim.cons hx (Lim.cons hy Lim.nil), (fun h => by cases h), .inr ⟨_, _, rfl, fun i hi => ?_⟩⟩
  match i, hi with
  | 0, _ => simp
  | 1, _ => simp
theorem NPost.of {n : Nat} {w w' : World} {e : Ending} {l : List Nat} (hl : l = dig n) (a : Option Addr) (len cap : Nat) (he : e = .returned (.slice a len cap)) (h : Rd w' a len cap l) (hb : Below w.heap.size w w') : NPost n w e w' := by
  subst hl
  have := h.len_eq
  subst this
  exact ⟨a, cap, he, h, hb⟩
theorem div_lim {x : Nat} (hx : x < 18446744073709551616) : x / BB < BB := by
  rw [Nat.div_lt_iff_lt_mul BB_pos]; exact hx
theorem nv_two (x : Nat) : nv [x % BB, x / BB] = x := by
  simp only [nv, Nat.mul_zero, Nat.add_zero]; exact Nat.mod_add_div x BB
theorem dig_one {x : Nat} (h0 : x ≠ 0) (h : x < BB) : [x] = dig x := by
  rw [dig_pos h0, Nat.div_eq_of_lt h, dig_zero, Nat.mod_eq_of_lt h]
theorem dig_two {x : Nat} (h : BB ≤ x) (hx : x < 18446744073709551616) : [x % BB, x / BB] = dig x := by
  have h1 := BB_pos
  have h2 : x / BB ≠ 0 := by rw [Nat.ne_zero_iff_zero_lt, Nat.div_pos_iff]; omega
  rw [dig_pos (by omega), ← dig_one h2 (div_lim hx)]
theorem rof_c (x : Nat) (hx : x < 18446744073709551616) (w : World) :
    Calls Tryd.prog 60 #[.int .u64 x] w (NPost x w) := by
  have HR := Lib.hid (Rd.two w (x % BB) (x / BB) (↑x % 4294967296) (↑x / 4294967296) (by simp [BB_eq]) (by simp [BB_eq]) (Nat.mod_lt _ BB_pos) (div_lim hx) 56)
  go_enter Tryd.func60, Tryd.ntmps60
  go_wp2_with fail
  refine (rmake_c _ _ _ _ _ HR.out (by omega)).mono ?_
  rw [nv_two]
  rintro e w1 ⟨a, cap, rfl, hr, hb⟩
  have hb2 : Below w.heap.size w w1 := ((Below.refl _ _).alloc (Nat.le_refl _) _).trans (hb.mono (by simp))
  go_wp2_with fail
  go_ret
  exact ⟨a, cap, rfl, hr, hb2⟩
theorem of_c (x : Nat) (hx : x < 18446744073709551616) (w : World) :
    Calls Tryd.prog 53 #[.int .u64 x] w (NPost x w) := by
  have hbl : Below w.heap.size w w := Below.refl _ _
  by_cases h0 : x = 0
  · subst h0
    go_enter Tryd.func53, Tryd.ntmps53
    go_wp2
    go_ret
    exact NPost.of dig_zero.symm _ _ _ rfl (Rd.nil _) hbl
  · by_cases h1 : x < 4294967296
    · have HR := Lib.hid (Rd.one' w x ↑x rfl h1 56)
      have HD := Lib.hid (dig_one h0 h1)
      go_enter Tryd.func53, Tryd.ntmps53
      go_wp2
      go_ret
      exact NPost.of HD.out _ _ _ rfl HR.out (hbl.alloc (Nat.le_refl _) _)
    · have HR := Lib.hid (Rd.two w (x % BB) (x / BB) (↑x % 4294967296) (↑x / 4294967296) (by simp [BB_eq]) (by simp [BB_eq]) (Nat.mod_lt _ BB_pos) (div_lim hx) 56)
      have HD := Lib.hid (dig_two (x := x) (by rw [BB_eq]; omega) hx)
      go_enter Tryd.func53, Tryd.ntmps53
      go_wp2
      go_ret
      exact NPost.of HD.out _ _ _ rfl HR.out (hbl.alloc (Nat.le_refl _) _)
theorem or64 (x y : Nat) (hx : x < 4294967296) (hy : y < 4294967296) : bits BinOp.or IntKind.u64 ((y : Int) * 4294967296) (x : Int) = ((x + 4294967296 * y : Nat) : Int) := by
  rw [show ((y : Int) * 4294967296) = ((y * 4294967296 : Nat) : Int) from by omega, u64_or_nat _ _ (by omega) (by omega), nat_join 32 _ _ (by omega) (by omega)]
  omega
theorem or64' (x y : Nat) (hx : x < 4294967296) (hy : y < 4294967296) : bits BinOp.or IntKind.u64 (x : Int) ((y : Int) * 4294967296) = ((x + 4294967296 * y : Nat) : Int) := by
  rw [show ((y : Int) * 4294967296) = ((y * 4294967296 : Nat) : Int) from by omega, u64_or_nat _ _ (by omega) (by omega), Nat.or_comm, nat_join 32 _ _ (by omega) (by omega)]
  omega
theorem ret_two {a b c d : Value} (h1 : a = c) (h2 : b = d) : Ending.returned (.tuple #[a, b]) = .returned (.tuple #[c, d]) := by rw [h1, h2]
theorem val_int {k : IntKind} {a b : Int} (h : a = b) : Value.int k a = .int k b := by rw [h]
/-- what Uint answers -/
def uintV (n : Nat) : Nat := if n < 18446744073709551616 then n else 0
def uintB (n : Nat) : Bool := decide (n < 18446744073709551616)
theorem uint_two {n x y : Nat} (h : dig n = [x, y]) : n = x + 4294967296 * y ∧ n < 18446744073709551616 := by
  have h1 := nv_dig n
  have h2 := dig_lim n
  rw [h] at h1 h2
  have a := h2.head
  have b := h2.tail.head
  simp [nv, BB_eq] at h1 a b
  omega
theorem uint_one {n x : Nat} (h : dig n = [x]) : n = x ∧ n < 18446744073709551616 := by
  have h1 := nv_dig n
  have h2 := dig_lim n
  rw [h] at h1 h2
  have a := h2.head
  simp [nv, BB_eq] at h1 a
  omega
theorem uint_more {n : Nat} (h : 2 < (dig n).length) : ¬ n < 18446744073709551616 := by
  intro hn
  have := dig_len_of (n := n) (k := 2) (by simpa [BB_eq] using hn)
  omega
theorem uint_c (a : Option Addr) (len cap : Nat) (l : List Nat) (w : World) (h : Rd w a len cap l) :
    Calls Tryd.prog 24 #[.slice a len cap] w fun e w' => e = .returned (.tuple #[.int .u64 (uintV (nv l) : Nat), .bool (uintB (nv l))]) ∧ Dr w w' := by
  have H := Lib.hid h
  have HT := h.trimmed
  obtain ⟨n, hn⟩ : ∃ n, nv l = n := ⟨_, rfl⟩
  rw [hn] at HT ⊢
  obtain ⟨d, hd⟩ : ∃ d, dig n = d := ⟨_, rfl⟩
  rw [hd] at HT
  have HE : Hid ((dig (nv l)).length = d.length) := Lib.hid (by rw [hn, hd])
  clear h
  match d, hd, HT, HE with
  | [], hd, HT, HE =>
    have h0 := dig_nil_iff.1 hd
    subst h0
    clear HT hd
    go_enter Tryd.func24, Tryd.ntmps24
    go_wp2_with (go_at_call 47; refine (trim_c _ _ _ l _ H.out).mono ?_; rw [HE.out]; rintro e w' ⟨rfl, rfl⟩)
    go_ret2
    exact ⟨rfl, Dr.refl _⟩
  | [x], hd, HT, HE =>
    obtain ⟨rfl, h1⟩ := uint_one hd
    have hv : Hid (uintV n = n) := Lib.hid (if_pos h1)
    have hb : Hid (uintB n = true) := Lib.hid (decide_eq_true h1)
    obtain ⟨-, h2, h3, -, -, hc⟩ := HT
    rcases hc with hc | ⟨b, off, rfl, hc⟩
    · simp at hc
    have c0 := hc 0 (by simp)
    simp at c0
    clear hd hc
    go_enter Tryd.func24, Tryd.ntmps24
    go_wp2_with (go_at_call 47; refine (trim_c _ _ _ l _ H.out).mono ?_; rw [HE.out]; rintro e w' ⟨rfl, rfl⟩)
    go_ret2
    rw [hv.out, hb.out]
    exact ⟨rfl, Dr.refl _⟩
  | [x, y], hd, HT, HE =>
    obtain ⟨h0, h1⟩ := uint_two hd
    have hx := HT.lim.head
    have hy := HT.lim.tail.head
    rw [BB_eq] at hx hy
    have hv : Hid (uintV n = x + 4294967296 * y) := Lib.hid ((if_pos h1).trans h0)
    have hb : Hid (uintB n = true) := Lib.hid (decide_eq_true h1)
    obtain ⟨-, h2, h3, -, -, hc⟩ := HT
    rcases hc with hc | ⟨b, off, rfl, hc⟩
    · simp at hc
    have c0 := hc 0 (by simp)
    have c1 := hc 1 (by simp)
    simp at c0 c1
    clear hd hc h0 h1
    go_enter Tryd.func24, Tryd.ntmps24
    go_wp2_with (go_at_call 47; refine (trim_c _ _ _ l _ H.out).mono ?_; rw [HE.out]; rintro e w' ⟨rfl, rfl⟩)
    go_quiet (fail)
    go_wp2
    go_ret2
    rw [hv.out, hb.out]
    exact ⟨ret_two (val_int (or64 x y hx hy)) rfl, ⟨_, rfl⟩⟩
  | x :: y :: z :: r, hd, HT, HE =>
    have h1 := uint_more (n := n) (by rw [hd]; simp)
    have hv : Hid (uintV n = 0) := Lib.hid (if_neg h1)
    have hb : Hid (uintB n = false) := Lib.hid (decide_eq_false h1)
    have hne : 3 ≤ (x :: y :: z :: r).length := by simp
    obtain ⟨m, hm⟩ : ∃ m, (x :: y :: z :: r).length = m := ⟨_, rfl⟩
    rw [hm] at HE hne
    clear hd HT hm h1
    go_enter Tryd.func24, Tryd.ntmps24
    go_wp2_with (go_at_call 47; refine (trim_c _ _ _ l _ H.out).mono ?_; rw [HE.out]; rintro e w' ⟨rfl, rfl⟩)
    go_ret2
    rw [hv.out, hb.out]
    exact ⟨rfl, Dr.refl _⟩
set_option maxHeartbeats 800000 in
theorem ruint_c (a : Option Addr) (len cap : Nat) (l : List Nat) (w : World) (h : Rd w a len cap l) (hlb : len ≤ 1048576) :
    Calls Tryd.prog 91 #[.slice a len cap] w fun e w' => e = .returned (.tuple #[.int .u64 (uintV (nv l) : Nat), .bool (uintB (nv l))]) ∧ Below w.heap.size w w' := by
  have C := rmake_c _ _ _ _ _ h hlb
  obtain ⟨n, hn⟩ : ∃ n, nv l = n := ⟨_, rfl⟩
  rw [hn] at C ⊢
  have HC := Lib.hid C
  obtain ⟨d, hd⟩ : ∃ d, dig n = d := ⟨_, rfl⟩
  have HD := Lib.hid hd
  clear h hn C
  match d, hd, HD with
  | [], hd, HD =>
    have h0 := dig_nil_iff.1 hd
    subst h0
    clear hd
    go_enter Tryd.func91, Tryd.ntmps91
    go_wp2_with (go_at_call 73; refine HC.out.mono ?_; unfold NPost; rw [HD.out]; rintro e w' ⟨a', c', rfl, hr, hb⟩)
    go_ret2
    exact ⟨rfl, hb⟩
  | [x], hd, HD =>
    obtain ⟨rfl, h1⟩ := uint_one hd
    have hv : Hid (uintV n = n) := Lib.hid (if_pos h1)
    have hb : Hid (uintB n = true) := Lib.hid (decide_eq_true h1)
    clear hd
    go_enter Tryd.func91, Tryd.ntmps91
    go_wp2_with fail
    refine HC.out.mono ?_
    unfold NPost
    rw [HD.out]
    rintro e w' ⟨a', c', rfl, hr, hbl⟩
    obtain ⟨-, h2, h3, -, -, hc⟩ := hr
    rcases hc with hc | ⟨b, off, rfl, hc⟩
    · simp at hc
    have c0 := hc 0 (by simp)
    simp at c0
    clear hc
    go_wp2_with fail
    go_ret2
    rw [hv.out, hb.out]
    exact ⟨rfl, hbl⟩
  | [x, y], hd, HD =>
    obtain ⟨h0, h1⟩ := uint_two hd
    have hv : Hid (uintV n = x + 4294967296 * y) := Lib.hid ((if_pos h1).trans h0)
    have hb : Hid (uintB n = true) := Lib.hid (decide_eq_true h1)
    clear hd h0 h1
    go_enter Tryd.func91, Tryd.ntmps91
    go_wp2_with fail
    refine HC.out.mono ?_
    unfold NPost
    rw [HD.out]
    rintro e w' ⟨a', c', rfl, hr, hbl⟩
    obtain ⟨-, h2, h3, hlim, -, hc⟩ := hr
    rcases hc with hc | ⟨b, off, rfl, hc⟩
    · simp at hc
    have hx := hlim.head
    have hy := hlim.tail.head
    rw [BB_eq] at hx hy
    have c0 := hc 0 (by simp)
    have c1 := hc 1 (by simp)
    simp at c0 c1
    clear hc
    go_wp2_with fail
    go_quiet (fail)
    go_wp2
    go_ret2
    rw [hv.out, hb.out]
    exact ⟨ret_two (val_int (or64' x y hx hy)) rfl, below_dN hbl _⟩
  | x :: y :: z :: r, hd, HD =>
    have h1 := uint_more (n := n) (by rw [hd]; simp)
    have hv : Hid (uintV n = 0) := Lib.hid (if_neg h1)
    have hb : Hid (uintB n = false) := Lib.hid (decide_eq_false h1)
    have hne : 3 ≤ (x :: y :: z :: r).length := by simp
    obtain ⟨m, hm⟩ : ∃ m, (x :: y :: z :: r).length = m := ⟨_, rfl⟩
    have HE : Hid ((dig n).length = m) := Lib.hid (by rw [hd]; exact hm)
    rw [hm] at hne
    clear hd HD hm h1
    go_enter Tryd.func91, Tryd.ntmps91
    go_wp2_with fail
    refine HC.out.mono ?_
    unfold NPost
    rw [HE.out]
    rintro e w' ⟨a', c', rfl, hr, hbl⟩
    go_wp2_with fail
    go_ret2
    rw [hv.out, hb.out]
    exact ⟨rfl, hbl⟩

/-- the limbs from k on are equal -/
def TopEq (a b : List Nat) (k : Nat) : Prop := ∀ j, k ≤ j → a.getD j 0 = b.getD j 0
theorem topEq_start {a b : List Nat} {k : Nat} (ha : a.length ≤ k) (hb : b.length ≤ k) : TopEq a b k := fun j hj => by
  rw [getD_over (by omega), getD_over (by omega)]
theorem topEq_step {a b : List Nat} {k d x : Nat} (h : TopEq a b (k + 1)) (hd : a.getD k 0 = d) (hx : b.getD k 0 = x) (he : d = x) : TopEq a b k := by
  intro j hj
  by_cases hjk : j = k
  · subst hjk; rw [hd, hx, he]
  · exact h j (by omega)
theorem topEq_end {a b : List Nat} (h : TopEq a b 0) : cmpv (nv a) (nv b) = 0 := cmpv_eq (nv_ext a b fun j => h j (Nat.zero_le _))
theorem topEq_lt {a b : List Nat} {k d x : Nat} (ha : Lim a) (hb : Lim b) (h : TopEq a b (k + 1)) (hd : a.getD k 0 = d) (hx : b.getD k 0 = x) (he : d < x) : cmpv (nv a) (nv b) = -1 :=
  cmpv_lt (nv_lt_at k ha hb (fun j hj => h j (by omega)) (by rw [hd, hx]; exact he))
theorem topEq_gt {a b : List Nat} {k d x : Nat} (ha : Lim a) (hb : Lim b) (h : TopEq a b (k + 1)) (hd : a.getD k 0 = d) (hx : b.getD k 0 = x) (he : x < d) : cmpv (nv a) (nv b) = 1 :=
  cmpv_gt (nv_lt_at k hb ha (fun j hj => (h j (by omega)).symm) (by rw [hd, hx]; exact he))
theorem cmpv_neg (a b : Nat) : cmpv b a = - cmpv a b := by unfold cmpv; split <;> split <;> (try split) <;> omega
set_option maxHeartbeats 800000 in
theorem cmp_c (a a' : Option Addr) (len cap len' cap' : Nat) (l t : List Nat) (w : World) (h : Rd w a len cap l) (h' : Rd w a' len' cap' t) :
    Calls Tryd.prog 50 #[.slice a len cap, .slice a' len' cap'] w fun e w' => e = .returned (.int .i64 (cmpv (nv l) (nv t))) ∧ Dr w w' := by
  have H := Lib.hid h
  have H' := Lib.hid h'
  have HT := h.trimmed
  have HT' := h'.trimmed
  obtain ⟨x, hx⟩ : ∃ x, dig (nv l) = x := ⟨_, rfl⟩
  obtain ⟨y, hy⟩ : ∃ y, dig (nv t) = y := ⟨_, rfl⟩
  have hX : Hid (nv l = nv x) := Lib.hid (by rw [← hx, nv_dig])
  have hY : Hid (nv t = nv y) := Lib.hid (by rw [← hy, nv_dig])
  have hlt1 : x.length < y.length → nv x < nv y := fun h => by rw [← hX.out, ← hY.out]; exact dig_len_lt (by rw [hx, hy]; exact h)
  have hlt2 : y.length < x.length → nv y < nv x := fun h => by rw [← hX.out, ← hY.out]; exact dig_len_lt (by rw [hx, hy]; exact h)
  obtain ⟨n, hn⟩ : ∃ n, x.length = n := ⟨_, rfl⟩
  obtain ⟨m, hm⟩ : ∃ m, y.length = m := ⟨_, rfl⟩
  have HX : Hid ((dig (nv l)).length = n) := Lib.hid (by rw [hx, hn])
  have HY : Hid ((dig (nv t)).length = m) := Lib.hid (by rw [hy, hm])
  rw [hx, hn] at HT
  rw [hy, hm] at HT'
  rw [hn, hm] at hlt1 hlt2
  clear h h' hx hy
  by_cases hnm : n = m
  · subst hnm
    obtain ⟨-, h2, h3, hli, -, hc⟩ := HT
    obtain ⟨-, h2', h3', hli', -, hc'⟩ := HT'
    have LI := Lib.hid hli
    have LI' := Lib.hid hli'
    have HST : Hid (TopEq x y n) := Lib.hid (topEq_start (by omega) (by omega))
    clear hn hm hlt1 hlt2 hli hli'
    by_cases hz : n = 0
    · subst hz
      have hfin : Hid (cmpv (nv l) (nv t) = 0) := Lib.hid (by rw [hX.out, hY.out]; exact topEq_end HST.out)
      clear hc hc'
      go_enter Tryd.func50, Tryd.ntmps50
      go_wp2_with fail
      refine (trim_c _ _ _ l _ H.out).mono ?_
      rw [HX.out]
      rintro e w' ⟨rfl, rfl⟩
      go_wp2_with fail
      refine (trim_c _ _ _ t _ H'.out).mono ?_
      rw [HY.out]
      rintro e w' ⟨rfl, rfl⟩
      go_wp2
      refine wp_loop_rounds 1 ?_; rw [rounds_succ]
      go_wp2
      go_ret
      exact ⟨ret_int hfin.out.symm, Dr.refl _⟩
    rcases hc with hc | ⟨b, off, rfl, hc⟩
    · omega
    rcases hc' with hc' | ⟨b', off', rfl, hc'⟩
    · omega
    have HC := Lib.hid hc; clear hc
    have HC' := Lib.hid hc'; clear hc'
    go_enter Tryd.func50, Tryd.ntmps50
    go_wp2_with fail
    refine (trim_c _ _ _ l _ H.out).mono ?_
    rw [HX.out]
    rintro e w' ⟨rfl, rfl⟩
    go_wp2_with fail
    refine (trim_c _ _ _ t _ H'.out).mono ?_
    rw [HY.out]
    rintro e w' ⟨rfl, rfl⟩
    go_wp2
    go_loopw [5] (fun i wr => ∃ (k : Nat), k ≤ n ∧ i = .int .i64 ((k : Int) - 1) ∧ Hid (TopEq x y k) ∧ Dr w wr) (fun i _ => (intOf i + 1).toNat)
    case atStart => exact ⟨n, by omega, by go_num, HST, Dr.refl _⟩
    case round =>
      obtain ⟨k, hk, rfl, hinv, hdr⟩ := hrel
      by_cases hk0 : k = 0
      · subst hk0
        have hfin : Hid (cmpv (nv l) (nv t) = 0) := Lib.hid (by rw [hX.out, hY.out]; exact topEq_end hinv.out)
        go_wp2
        go_ret
        exact ⟨ret_int hfin.out.symm, hdr⟩
      obtain ⟨j, rfl⟩ : ∃ j, k = j + 1 := ⟨k - 1, by omega⟩
      have ej : ((j + 1 : Nat) : Int) - 1 = j := by omega
      rw [ej]
      obtain ⟨d, hd⟩ : ∃ d, x.getD j 0 = d := ⟨_, rfl⟩
      have hcell := HC.out j (by omega)
      rw [← hdr.cell, hd] at hcell
      obtain ⟨v, hv⟩ : ∃ v, y.getD j 0 = v := ⟨_, rfl⟩
      have hcell' := HC'.out j (by omega)
      rw [← hdr.cell, hv] at hcell'
      clear ej
      by_cases he : d = v
      · have hst := Lib.hid (topEq_step hinv.out hd hv he)
        clear hd hv
        subst he
        go_wp2
        go_quiet (fail)
        go_wp2
        go_roundw
        case rel => exact ⟨j, by omega, by go_num, hst, hdr.more _⟩
        case measure => simp [intOf]
      · have hne : ((d : Int) != (v : Int)) = true := by rw [bne_iff_ne]; omega
        by_cases hlt : d < v
        · have hfin : Hid (cmpv (nv l) (nv t) = -1) := Lib.hid (by rw [hX.out, hY.out]; exact topEq_lt LI.out LI'.out hinv.out hd hv hlt)
          have hb : decide (d < v) = true := by simpa using hlt
          clear hd hv
          go_wp2
          go_quiet (fail)
          go_wp2
          go_quiet (fail)
          go_wp2
          go_ret
          exact ⟨ret_int hfin.out.symm, (hdr.more _).more _⟩
        · have hfin : Hid (cmpv (nv l) (nv t) = 1) := Lib.hid (by rw [hX.out, hY.out]; exact topEq_gt LI.out LI'.out hinv.out hd hv (by omega))
          have hb : decide (d < v) = false := by simpa using hlt
          clear hd hv
          go_wp2
          go_quiet (fail)
          go_wp2
          go_quiet (fail)
          go_wp2
          go_ret
          exact ⟨ret_int hfin.out.symm, (hdr.more _).more _⟩
  · have hne : ((n : Int) != (m : Int)) = true := by rw [bne_iff_ne]; omega
    clear hn hm
    by_cases hlt : n < m
    · have hfin : Hid (cmpv (nv l) (nv t) = -1) := Lib.hid (by rw [hX.out, hY.out]; exact cmpv_lt (hlt1 hlt))
      clear hlt1 hlt2 HT HT'
      go_enter Tryd.func50, Tryd.ntmps50
      go_wp2_with fail
      refine (trim_c _ _ _ l _ H.out).mono ?_
      rw [HX.out]
      rintro e w' ⟨rfl, rfl⟩
      go_wp2_with fail
      refine (trim_c _ _ _ t _ H'.out).mono ?_
      rw [HY.out]
      rintro e w' ⟨rfl, rfl⟩
      go_wp2
      go_ret
      exact ⟨ret_int hfin.out.symm, Dr.refl _⟩
    · have hfin : Hid (cmpv (nv l) (nv t) = 1) := Lib.hid (by rw [hX.out, hY.out]; exact cmpv_gt (hlt2 (by omega)))
      clear hlt1 hlt2 HT HT'
      go_enter Tryd.func50, Tryd.ntmps50
      go_wp2_with fail
      refine (trim_c _ _ _ l _ H.out).mono ?_
      rw [HX.out]
      rintro e w' ⟨rfl, rfl⟩
      go_wp2_with fail
      refine (trim_c _ _ _ t _ H'.out).mono ?_
      rw [HY.out]
      rintro e w' ⟨rfl, rfl⟩
      go_wp2
      go_ret
      exact ⟨ret_int hfin.out.symm, Dr.refl _⟩
set_option maxHeartbeats 1600000 in
theorem rcmp_c (a a' : Option Addr) (len cap len' cap' : Nat) (l t : List Nat) (w : World) (h : Rd w a len cap l) (h' : Rd w a' len' cap' t) :
    Calls Tryd.prog 90 #[.slice a len cap, .slice a' len' cap'] w fun e w' => e = .returned (.int .i64 (cmpv (nv l) (nv t))) ∧ w = w' := by
  have H := Lib.hid h
  have H' := Lib.hid h'
  have hl := h.len_eq
  have ht := h'.len_eq
  have hc1 := h.le_cap
  have hc2 := h.cap_le
  have hc1' := h'.le_cap
  have hc2' := h'.cap_le
  clear h h'
  have HST : Hid (len < len' → TopEq l t len') := Lib.hid (fun h => topEq_start (by omega) (by omega))
  have HST' : Hid (¬ len < len' → TopEq l t len) := Lib.hid (fun h => topEq_start (by omega) (by omega))
  clear hl ht
  go_enter Tryd.func90, Tryd.ntmps90
  go_wp2
  all_goals
    go_loop [5] (fun i => ∃ (k : Nat), k ≤ 9223372036854775807 ∧ i = .int .i64 ((k : Int) - 1) ∧ Hid (TopEq l t k)) (fun i => (intOf i + 1).toNat)
    case atStart => first | exact ⟨len', by omega, by go_num, Lib.hid (HST.out ‹_›)⟩ | exact ⟨len, by omega, by go_num, Lib.hid (HST'.out ‹_›)⟩
    case round =>
      obtain ⟨k, hk, rfl, hinv⟩ := hrel
      by_cases hk0 : k = 0
      · subst hk0
        have hfin : Hid (cmpv (nv l) (nv t) = 0) := Lib.hid (topEq_end hinv.out)
        go_wp2
        go_ret
        exact ⟨ret_int hfin.out.symm, rfl⟩
      obtain ⟨j, rfl⟩ : ∃ j, k = j + 1 := ⟨k - 1, by omega⟩
      have ej : ((j + 1 : Nat) : Int) - 1 = j := by omega
      rw [ej]
      clear ej
      obtain ⟨d, hd⟩ : ∃ d, l.getD j 0 = d := ⟨_, rfl⟩
      have LD := Lib.hid (limb_c _ _ _ _ j w H.out)
      rw [hd] at LD
      obtain ⟨v, hv⟩ : ∃ v, t.getD j 0 = v := ⟨_, rfl⟩
      have LV := Lib.hid (limb_c _ _ _ _ j w H'.out)
      rw [hv] at LV
      have LIM := Lib.hid H.out.lim
      have LIM' := Lib.hid H'.out.lim
      by_cases he : d < v
      · have hfin : Hid (cmpv (nv l) (nv t) = -1) := Lib.hid (topEq_lt LIM.out LIM'.out hinv.out hd hv he)
        clear hd hv
        go_wp2_with fail
        refine LD.out.mono ?_
        rintro e w' ⟨rfl, rfl⟩
        go_wp2_with fail
        refine LV.out.mono ?_
        rintro e w' ⟨rfl, rfl⟩
        go_wp2_with fail
        go_ret
        exact ⟨ret_int hfin.out.symm, rfl⟩
      by_cases hgt : v < d
      · have hfin : Hid (cmpv (nv l) (nv t) = 1) := Lib.hid (topEq_gt LIM.out LIM'.out hinv.out hd hv hgt)
        clear hd hv
        go_wp2_with fail
        refine LD.out.mono ?_
        rintro e w' ⟨rfl, rfl⟩
        go_wp2_with fail
        refine LV.out.mono ?_
        rintro e w' ⟨rfl, rfl⟩
        go_wp2_with fail
        refine LD.out.mono ?_
        rintro e w' ⟨rfl, rfl⟩
        go_wp2_with fail
        refine LV.out.mono ?_
        rintro e w' ⟨rfl, rfl⟩
        go_wp2_with fail
        go_ret
        exact ⟨ret_int hfin.out.symm, rfl⟩
      · have hst := Lib.hid (topEq_step hinv.out hd hv (by omega))
        clear hd hv
        go_wp2_with fail
        refine LD.out.mono ?_
        rintro e w' ⟨rfl, rfl⟩
        go_wp2_with fail
        refine LV.out.mono ?_
        rintro e w' ⟨rfl, rfl⟩
        go_wp2_with fail
        refine LD.out.mono ?_
        rintro e w' ⟨rfl, rfl⟩
        go_wp2_with fail
        refine LV.out.mono ?_
        rintro e w' ⟨rfl, rfl⟩
        go_wp2_with fail
        go_round
        case rel => exact ⟨j, by omega, by go_num, hst⟩
        case measure => simp [intOf]
end Go.Proofs.YtnalmjbgkedcoaaDoor
