/- Bytes; appending to bytes of one's own; groups of seven bits. -/
import Derived.Test.YtcdkehghdhcokaaDoorChecked
import Derived.WalkKit
import Derived.ProofKit
import Derived.BigQuiet
import Derived.BigRegion
import Derived.Deep.QuietTactic
import Derived.Deep.MidRow
import Derived.Outline
import Derived.Lib.Hide
import Derived.Deep.AppendSrc
import Derived.Deep.Upon
import Derived.Laws.BytesArg
import Derived.Lib.SliceRun
import Derived.Below
import Derived.Laws.BytesString
import Derived.Lib.SlBytesConst
import Derived.Laws.AppendOwnNone
namespace Go.Proofs.YtcdkehghdhcokaaDoor.wr
open Go.RowKit
set_option linter.unusedVariables false
section
variable {P : Program} (w : World)
/-- appending to what is one's own, whatever is appended -/
theorem run_append_own_src (base : Nat) (t tx ty e : TypeId) (i : TypeInfo) (z : Value) (size bytes : Nat) (ht : P.underlying t = some (.slice e)) (hi : P.info? e = some i) (hz : i.zero = some z)
    (hsize : i.size = size) (hby : i.bytes = bytes) (hzs : z.cells.size = size) (hsz : 0 < size)
    (v : Value) (n : Nat) (xs : List Value) (hown : w.ownsRow base e size v n xs) (x : Value) (m : Nat) (news : List Value) (hs : Src P size tx x m news w)
    (h63 : n + m ≤ maxLen) (hbytes : (n + m) * bytes ≤ 140737488355328) (hbase : base ≤ w.heap.size) :
    ∃ v' w', (Builtin.append_ #[t, tx] ty #[v, x]).run P w = .ok v' w' ∧ w'.ownsRow base e size v' (n + m) (xs ++ news) ∧ w.grownBy w' v.ownBlock := by
  subst hsize hby
  have hsmall : n + m ≤ 9223372036854775807 := by simp only [maxLen] at h63; omega
  have hxl : xs.length = n * i.size := hown.1
  have hlen : (xs ++ news).length = (n + m) * i.size := by rw [List.length_append, hxl, hs.newsLen, Nat.add_mul]
  have grown : ∀ (old : Nat), old < n + m → ∀ (row : Option Nat),
      (w.drew.alloc (.cells ((xs ++ news).toArray ++ Builtin.zeroCells z.cells (grownCap w (n + m) old e - (n + m))) e)).ownsRow base e i.size
        (.slice (some ⟨w.heap.size, 0, none⟩) (n + m) (grownCap w (n + m) old e)) (n + m) (xs ++ news) ∧
      w.grownBy (w.drew.alloc (.cells ((xs ++ news).toArray ++ Builtin.zeroCells z.cells (grownCap w (n + m) old e - (n + m))) e)) row := by
    intro old ho row
    have hge := grownCap_ge w (n + m) old e
    have hcm : grownCap w (n + m) old e ≤ maxLen := grownCap_le_maxLen w (n + m) old e h63
    refine ⟨⟨hlen, .inr ⟨w.heap.size, _, _, rfl, hbase, heap_alloc_new w.drew _, hge, hcm, ?_, ?_⟩⟩, ⟨rfl, rfl, rfl, by simp, fun k hk _ => heap_alloc_old w.drew _ hk⟩⟩
    · rw [Array.size_append, size_zeroCells, hzs, List.size_toArray, hlen, ← Nat.add_mul, Nat.add_sub_cancel' hge]
    · rw [Array.toList_append, ← hlen]
      exact List.take_left
  rcases hown.2 with ⟨rfl, rfl⟩ | ⟨g, cap, cur, rfl, hbg, hg, hnc, hcm, hcs, htake⟩
  · have hx : xs = [] := List.eq_nil_of_length_eq_zero (by simpa using hxl)
    subst hx
    by_cases hm : m = 0
    · subst hm
      have hn : news = [] := List.eq_nil_of_length_eq_zero (by simpa using hs.newsLen)
      subst hn
      exact ⟨_, _, run_append_nothing (P := P) w t tx ty e i ht hi none 0 0 (Nat.le_refl _) x hs, World.ownsRow_nil w base e i.size, ⟨rfl, rfl, rfl, Nat.le_refl _, fun _ _ _ => rfl⟩⟩
    · have hr := run_append_grow_src (P := P) w t tx ty e i z ht hi hz none 0 0 [] (run_firstCells_none w.drew i.size 0 0 0) x m news hs (by omega) (by omega) (growslice_fits (by omega) (by omega))
      have hgr := grown 0 (by omega) (Value.ownBlock (.slice none 0 0))
      simp only [Nat.zero_add, List.nil_append] at hgr hr ⊢
      exact ⟨_, _, hr, hgr.1, hgr.2⟩
  · by_cases hroom : n + m ≤ cap
    · have hsz : ∀ j, j < news.length → n * i.size + j < cur.size := fun j hj => by
        rw [hs.newsLen] at hj
        have : (n + m) * i.size ≤ cap * i.size := Nat.mul_le_mul_right _ hroom
        rw [Nat.add_mul] at this
        omega
      have hr := run_append_room_src (P := P) w t tx ty e i ht hi g 0 n cap x m news hs hroom (fun j hj => by
        rw [Nat.zero_add, cell_of_row w g _ cur e (0, 0) hg, Array.getElem?_eq_getElem (hsz j hj)]; rfl) (fun j hj => frozen_of_row w g _ cur e hg)
      rw [Nat.zero_add] at hr
      have key : ∀ (vs : List Value) (j : Nat) (cu : Array Value) (w1 : World), w1.heap[g]? = some (.cells cu e (0, 0)) → j + vs.length ≤ cu.size →
          ∃ cu', (w1.setCells g j vs).heap[g]? = some (.cells cu' e (0, 0)) ∧ cu'.size = cu.size ∧ cu'.toList.take (j + vs.length) = cu.toList.take j ++ vs ∧ w1.grownBy (w1.setCells g j vs) (some g) := by
        intro vs
        induction vs with
        | nil => intro j cu w1 h _; exact ⟨cu, h, rfl, by simp, ⟨rfl, rfl, rfl, Nat.le_refl _, fun _ _ _ => rfl⟩⟩
        | cons u r ih =>
          intro j cu w1 h hj
          rw [List.length_cons] at hj
          obtain ⟨cu', h1, h2, h3, h4⟩ := ih (j + 1) (cu.setIfInBounds j u) (w1.setCell ⟨g, j, none⟩ u) (heap_setCell_same w1 g j cu e u h) (by simp; omega)
          refine ⟨cu', h1, by rw [h2]; simp, ?_, ⟨h4.os, h4.tape, h4.output, by have h5 := h4.size; rw [World.size_setCell] at h5; exact h5, fun k hk hne => ?_⟩⟩
          · rw [List.length_cons, show j + (r.length + 1) = j + 1 + r.length by omega, h3, Array.toList_setIfInBounds]
            have hj' : j < cu.toList.length := by simp; omega
            rw [List.take_succ_eq_append_getElem (by simpa using hj'), List.take_set_of_le (Nat.le_refl _)]
            simp
          · exact (h4.block k (by simpa using hk) hne).trans (heap_setCell_other w1 ⟨g, j, none⟩ k u (fun e => hne (by simp [e])))
      obtain ⟨cu', h1, h2, h3, h4⟩ := key news (n * i.size) cur w hg (by
        rw [hs.newsLen, hcs, ← Nat.add_mul]; exact Nat.mul_le_mul_right _ hroom)
      refine ⟨_, _, hr, ⟨hlen, .inr ⟨g, cap, cu', rfl, hbg, h1, hroom, hcm, by rw [h2, hcs], ?_⟩⟩, h4⟩
      rw [Nat.add_mul, ← hs.newsLen, h3, htake]
    · have hold := run_firstCells_some (P := P) w.drew i.size n ⟨g, 0, none⟩ n cap xs hxl (by simpa using hown.cells (g := g) rfl)
      have hr := run_append_grow_src (P := P) w t tx ty e i z ht hi hz (some ⟨g, 0, none⟩) n cap xs hold x m news hs (by omega) (by omega) (growslice_fits (by omega) (by omega))
      have hgr := grown cap (by omega) (Value.ownBlock (.slice (some ⟨g, 0, none⟩) n cap))
      exact ⟨_, _, hr, hgr.1, hgr.2⟩

theorem wpList_append_src {ops : Array Oper} {rest : List Oper} {o : Oper} {a : Act} {Q : Exit → Act → World → Prop} (hgd : o.guard = none) (s x : Operand) (t tx : TypeId)
    (ho : o.op = .call { callee := .builtin .append, args := #[s, x], argTypes := #[t, tx] })
    (base : Nat) (e : TypeId) (i : TypeInfo) (z : Value) (size bytes : Nat) (ht : P.underlying t = some (.slice e)) (hi : P.info? e = some i) (hz : i.zero = some z)
    (hsize : i.size = size) (hby : i.bytes = bytes) (hzs : z.cells.size = size) (hsz : 0 < size)
    (v : Value) (n : Nat) (xs : List Value) (hs : a.eval s = v) (hown : w.ownsRow base e size v n xs) (u : Value) (m : Nat) (news : List Value) (hx : a.eval x = u) (hsrc : Src P size tx u m news w)
    (h63 : n + m ≤ maxLen) (hbytes : (n + m) * bytes ≤ 140737488355328) (hbase : base ≤ w.heap.size)
    (h : ∀ v' w', w'.ownsRow base e size v' (n + m) (xs ++ news) → w.grownBy w' v.ownBlock → wpList P ops Q rest (a.put o.dst v') w') : wpList P ops Q (o :: rest) a w := by
  refine wpList_plain hgd fun K hK => ?_
  obtain ⟨v', w', hr, h2, h3⟩ := run_append_own_src (P := P) w base t tx o.type e i z size bytes ht hi hz hsize hby hzs hsz v n xs hown u m news hsrc h63 hbytes hbase
  unfold Oper.wp execOp
  simp only [ho, resolve, invoke, builtin, Sem.run_bind, Sem.run_pure, Result.andThen_ok, List.map_toArray, List.map_cons, List.map_nil, hs, hx, hr]
  exact hK _ _ (h v' w' h2 h3)
end

theorem below_drewN {B : Nat} {w0 w : World} (h : Below B w0 w) (n : Nat) : Below B w0 (w.drewN n) := ⟨h.os, h.tape, h.output, h.size, h.block⟩
/-- numbers of a kind -/
abbrev vals (k : IntKind) (l : List Int) : List Value := l.map (Value.int k)
theorem vals_at {k : IntKind} {l : List Int} {i : Nat} (h : i < l.length) : (vals k l)[i]? = some (.int k (l.getD i 0)) := by
  simp [vals, h]
theorem vals_one (k : IntKind) (l : List Int) : ∀ x ∈ vals k l, x.oneCell' = true := by
  intro x hx
  obtain ⟨y, _, rfl⟩ := List.mem_map.1 hx
  rfl
theorem vals_append (k : IntKind) (a b : List Int) : vals k (a ++ b) = vals k a ++ vals k b := by simp [vals]
/-- a slice of bytes that reads as l -/
def SlB (w : World) (ad : Option Addr) (n cap : Nat) (l : List Int) : Prop :=
  l.length = n ∧ n ≤ cap ∧ cap ≤ 9223372036854775807 ∧ (ad = none → n = 0 ∧ cap = 0) ∧ (n = 0 ∨ ∃ b off, ad = some ⟨b, off, none⟩ ∧ b < w.heap.size ∧ ∀ i, i < n → w.cell? ⟨b, off + i, none⟩ = some (.int .u8 (l.getD i 0)))
theorem SlB.below {w w' : World} {ad : Option Addr} {n cap : Nat} {l : List Int} (h : SlB w ad n cap l) (hb : Below w.heap.size w w') : SlB w' ad n cap l := by
  obtain ⟨h1, h2, h3, h0, h4⟩ := h
  refine ⟨h1, h2, h3, h0, ?_⟩
  rcases h4 with h4 | ⟨b, off, e, hlt, hc⟩
  · exact .inl h4
  · exact .inr ⟨b, off, e, Nat.lt_of_lt_of_le hlt hb.size, fun i hi => (hb.cell (p := ⟨b, off + i, none⟩) hlt).trans (hc i hi)⟩
theorem SlB.nil (w : World) : SlB w none 0 0 [] := ⟨rfl, Nat.le_refl _, by omega, fun _ => ⟨rfl, rfl⟩, .inl rfl⟩
theorem SlB.at {w : World} {ad : Option Addr} {n cap : Nat} {l : List Int} (h : SlB w ad n cap l) (hn : 0 < n) : ∃ b off, ad = some ⟨b, off, none⟩ ∧ b < w.heap.size ∧ ∀ i, i < n → w.cell? ⟨b, off + i, none⟩ = some (.int .u8 (l.getD i 0)) := by
  rcases h.2.2.2.2 with h | h
  · omega
  · exact h
theorem SlB.src {w : World} {y : Addr} {n c : Nat} {L : List Int} (h : SlB w (some y) n c L) : ∀ j x, (vals .u8 L)[j]? = some x → w.cell? (y.add j) = some x := fun j x hx => by
  have hj := (List.getElem?_eq_some_iff.1 hx).1
  rw [List.length_map, h.1] at hj
  obtain ⟨b, off, e, hb, hc⟩ := h.at (by omega)
  obtain rfl := Option.some.inj e
  rw [Addr.add_mid, hc j hj, ← hx, vals_at (by rw [h.1]; exact hj)]
theorem SlB.asSrc {w : World} {ad : Option Addr} {n c : Nat} {M : List Int} {tx : TypeId} (hk : Tryd.prog.underlying tx = some (.slice 5)) (h : SlB w ad n c M) : Src Tryd.prog 1 tx (.slice ad n c) n (vals .u8 M) w := by
  cases ad with
  | none =>
    obtain ⟨rfl, rfl⟩ := h.2.2.2.1 rfl
    obtain rfl : M = [] := List.eq_nil_of_length_eq_zero h.1
    exact Src.ofNil w hk 0
  | some y => exact Src.ofSlice w hk y n c _ (by rw [List.length_map, h.1, Nat.mul_one]) h.src (vals_one _ M)
theorem info8 : (Tryd.prog.info? 5).map (fun i => (i.zero, i.size, i.bytes)) = some (some (.int .u8 0), 1, 1) := by kernel_rfl
/-- a list of bytes of the call's own -/
def OwnB (w : World) (base : Nat) (v : Value) (L : List Int) : Prop := w.ownsRow base 5 1 v L.length (vals .u8 L)
theorem OwnB.slice {w : World} {base : Nat} {v : Value} {L : List Int} (h : OwnB w base v L) : ∃ a c, v = .slice a L.length c := by
  rcases h.2 with ⟨rfl, h0⟩ | ⟨g, cap, cur, rfl, _⟩
  · exact ⟨_, 0, by rw [h0]⟩
  · exact ⟨_, _, rfl⟩
theorem OwnB.below {w w' : World} {base : Nat} {v : Value} {L : List Int} (h : OwnB w base v L) (hb : Below w.heap.size w w') : OwnB w' base v L := by
  obtain ⟨h1, h2⟩ := h
  refine ⟨h1, ?_⟩
  rcases h2 with h2 | ⟨g, cap, cur, hv, hg, hh, r⟩
  · exact .inl h2
  · refine .inr ⟨g, cap, cur, hv, hg, ?_, r⟩
    rw [hb.block g (Array.getElem?_eq_some_iff.1 hh).1]; exact hh
theorem OwnB.le {w : World} {base base' : Nat} {v : Value} {L : List Int} (h : OwnB w base v L) (hb : base' ≤ base) : OwnB w base' v L :=
  ⟨h.1, h.2.elim Or.inl (fun ⟨g, cap, cur, hv, hg, r⟩ => Or.inr ⟨g, cap, cur, hv, Nat.le_trans hb hg, r⟩)⟩
theorem OwnB.nil (w : World) (base : Nat) : OwnB w base (.slice none 0 0) [] := ⟨rfl, .inl ⟨rfl, rfl⟩⟩
theorem OwnB.made {w : World} {base : Nat} (hb : base ≤ w.heap.size) (L : List Int) (hl : L.length ≤ 100000) : OwnB (w.alloc (.cells (vals .u8 L).toArray 5)) base (.slice (some ⟨w.heap.size, 0, none⟩) L.length L.length) L :=
  ⟨by simp, .inr ⟨w.heap.size, L.length, _, rfl, hb, heap_alloc_new w _, Nat.le_refl _, by unfold maxLen; omega, by simp, List.take_of_length_le (by simp)⟩⟩
theorem OwnB.sl {w : World} {base : Nat} {a : Option Addr} {n c : Nat} {L : List Int} (h : OwnB w base (.slice a n c) L) (hl : L.length = n) : SlB w a n c L := by
  rcases id h.2 with ⟨hv, h0⟩ | ⟨g, cap, cur, hv, hg, hh, h1, h2, _⟩
  · injection hv with e1 e2 e3
    subst e1; subst e3; subst e2
    obtain rfl : L = [] := List.eq_nil_of_length_eq_zero hl
    exact SlB.nil w
  · injection hv with e1 e2 e3
    subst e1; subst e3
    refine ⟨hl, by omega, by unfold maxLen at h2; omega, fun h => (by cases h), .inr ⟨g, 0, rfl, (Array.getElem?_eq_some_iff.1 hh).1, fun i hi => ?_⟩⟩
    have k0 := World.ownsRow.cells h (g := g) rfl _ _ (vals_at (k := .u8) (l := L) (i := i) (by omega))
    rw [Addr.add_mid] at k0
    exact k0
/-- what is appended to a list of bytes of one's own, whatever it is -/
theorem wpList_append_bs {w : World} {ops : Array Oper} {rest : List Oper} {o : Oper} {a : Act} {Q : Exit → Act → World → Prop} (hgd : o.guard = none) (s x : Operand) (t tx : TypeId)
    (ho : o.op = .call { callee := .builtin .append, args := #[s, x], argTypes := #[t, tx] }) (ht : Tryd.prog.underlying t = some (.slice 5))
    (base : Nat) (v : Value) (L : List Int) (hs : a.eval s = v) (hown : OwnB w base v L) (u : Value) (n : Nat) (M : List Int) (hx : a.eval x = u) (hM : Src Tryd.prog 1 tx u n (vals .u8 M) w) (hn : M.length = n)
    (hl : L.length + n ≤ 100000) (hbase : base ≤ w.heap.size)
    (h : ∀ v' w', OwnB w' base v' (L ++ M) → Below base w w' → wpList Tryd.prog ops Q rest (a.put o.dst v') w') : wpList Tryd.prog ops Q (o :: rest) a w := by
  obtain ⟨i0, hi0, hz0, hz1, hz2⟩ := info_parts info8
  refine wpList_append_src w hgd s x t tx ho base 5 i0 (.int .u8 0) 1 1 ht hi0 hz0 hz1 hz2 rfl (by decide) v L.length (vals .u8 L) hs hown _ n (vals .u8 M) hx hM (by unfold maxLen; omega) (by omega) hbase ?_
  intro v' w' ho' hg'
  refine h v' w' ?_ ((Below.refl base w).grown hg' hbase (fun j hj => (World.ownsRow.lt hown j hj).1))
  unfold OwnB
  rw [List.length_append, hn, vals_append]
  exact ho'
/-- the bytes of a block that was just made -/
theorem SlB.new (w : World) (L : List Int) (cs : Array Value) (n : Nat) (hc : cs.toList = vals .u8 L) (hn : L.length = n) (hb : n ≤ 100000) : SlB (w.alloc (.cells cs 5)) (some ⟨w.heap.size, 0, none⟩) n n L := by
  refine ⟨hn, Nat.le_refl _, by omega, fun h => (by cases h), .inr ⟨w.heap.size, 0, rfl, by simp, fun i hi => ?_⟩⟩
  have hv := vals_at (k := .u8) (l := L) (i := i) (by omega)
  rw [← hc, Array.getElem?_toList] at hv
  rw [cell_of_row _ w.heap.size _ _ 5 (0, 0) (heap_alloc_new w _), Nat.zero_add]; exact hv
/-- bytes as a text -/
theorem conv_sl {w : World} {a : Option Addr} {n cap : Nat} {l : List Int} (h : SlB w a n cap l) :
    (convert 22 9 (.slice a n cap)).run Tryd.prog w = .ok (.string (strOfNums l)) w := by
  obtain ⟨h1, h2, h3, hz, h4⟩ := h
  cases a with
  | none =>
    obtain ⟨rfl, rfl⟩ := hz rfl
    obtain rfl : l = [] := List.eq_nil_of_length_eq_zero h1
    exact run_convert_bytes_nil w 22 5 Tryd.underlying22 Tryd.underlying5 0 0 9 Tryd.underlying9
  | some x =>
    rcases h4 with rfl | ⟨b, off, e, _, hc⟩
    · obtain rfl : l = [] := List.eq_nil_of_length_eq_zero h1
      exact by
        rw [run_convert_bytes_string w 22 9 5 _ 0 cap Tryd.underlying22 Tryd.underlying5 Tryd.underlying9, run_bytesToString w x 0 cap [] (by have := run_loadCells_list (P := Tryd.prog) w x [] (fun j v h => by simp at h); simpa using this)]
        rfl
    · cases e
      exact run_convert_bytes_arg w 22 5 Tryd.underlying22 Tryd.underlying5 b off n cap l h1 hc 9 Tryd.underlying9
/-- a natural number in groups of seven bits -/
def grp (n : Nat) : List Int := if h : n < 128 then [(n : Int)] else ((n % 128 + 128 : Nat) : Int) :: grp (n / 128)
termination_by n
decreasing_by omega
theorem grp_small {n : Nat} (h : n < 128) : grp n = [(n : Int)] := by rw [grp, dif_pos h]
theorem grp_big {n : Nat} (h : ¬ n < 128) : grp n = ((n % 128 + 128 : Nat) : Int) :: grp (n / 128) := by rw [grp, dif_neg h]
theorem grp_len : ∀ (k n : Nat), n < 128 ^ (k + 1) → (grp n).length ≤ k + 1
  | 0, n, h => by rw [grp_small (by simpa using h)]; exact Nat.le_refl _
  | k + 1, n, h => by
    by_cases hs : n < 128
    · rw [grp_small hs]; simp
    · rw [grp_big hs, List.length_cons]
      have := grp_len k (n / 128) (by rw [Nat.pow_succ] at h; omega)
      omega
theorem grp_len10 {n : Nat} (h : n < 18446744073709551616) : (grp n).length ≤ 10 := by
  refine grp_len 9 n ?_
  have e : (128 : Nat) ^ (9 + 1) = 1180591620717411303424 := by decide
  rw [e]
  omega

end Go.Proofs.YtcdkehghdhcokaaDoor.wr
