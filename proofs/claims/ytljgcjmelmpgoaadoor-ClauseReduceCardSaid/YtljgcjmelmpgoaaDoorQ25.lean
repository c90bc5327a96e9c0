/- Appending to a list of one's own, whatever is appended. -/
import Derived.Test.YtljgcjmelmpgoaaDoorQ21
import Derived.Deep.AppendSrc
import Derived.Deep.Upon
namespace Go.Proofs.YtljgcjmelmpgoaaDoor
open Go.RowKit
set_option linter.unusedVariables false

section
variable {P : Program} (w : World)
/-- appending to what is one's own, whatever is appended -/
theorem run_append_own_src (base : Nat) (t tx ty e : TypeId) (i : TypeInfo) (z : Value) (size bytes : Nat) (ht : P.underlying t = some (.slice e)) (hi : P.info? e = some i) (hz : i.zero = some z)
    (hsize : i.size = size) (hby : i.bytes = bytes) (hzs : z.cells.size = size) (hsz : 0 < size)
    (v : Value) (n : Nat) (xs : List Value) (hown : w.ownsRow base e size v n xs) (x : Value) (m : Nat) (news : List Value) (hs : Src P size tx x m news w)
    (h63 : n + m ≤ maxLen) (hbytes : (n + m) * bytes ≤ 140737488355328) (hbase : base ≤ w.heap.size) :
    ∃ v' w', (Builtin.append_ #[t, tx] ty #[v, x]).run P w = .ok v' w' ∧ w'.ownsRow base e size v' (n + m) (xs ++ news) ∧ w.grownBy w' v.ownBlock := by
  subst hsize hby
  have hsmall : n + m ≤ 9223372036854775807 := by simp only [maxLen] at h63; omega
  have hxl : xs.length = n * i.size := hown.1
  have hlen : (xs ++ news).length = (n + m) * i.size := by rw [List.length_append, hxl, hs.newsLen, Nat.add_mul]
  have grown : ∀ (old : Nat), old < n + m → ∀ (row : Option Nat),
      (w.drew.alloc (.cells ((xs ++ news).toArray ++ Builtin.zeroCells z.cells (grownCap w (n + m) old e - (n + m))) e)).ownsRow base e i.size
        (.slice (some ⟨w.heap.size, 0, none⟩) (n + m) (grownCap w (n + m) old e)) (n + m) (xs ++ news) ∧
      w.grownBy (w.drew.alloc (.cells ((xs ++ news).toArray ++ Builtin.zeroCells z.cells (grownCap w (n + m) old e - (n + m))) e)) row := by
    intro old ho row
    have hge := grownCap_ge w (n + m) old e
    have hcm : grownCap w (n + m) old e ≤ maxLen := grownCap_le_maxLen w (n + m) old e h63
    refine ⟨⟨hlen, .inr ⟨w.heap.size, _, _, rfl, hbase, heap_alloc_new w.drew _, hge, hcm, ?_, ?_⟩⟩, ⟨rfl, rfl, rfl, by simp, fun k hk _ => heap_alloc_old w.drew _ hk⟩⟩
    · rw [Array.size_append, size_zeroCells, hzs, List.size_toArray, hlen, ← Nat.add_mul, Nat.add_sub_cancel' hge]
    · rw [Array.toList_append, ← hlen]
      exact List.take_left
  rcases hown.2 with ⟨rfl, rfl⟩ | ⟨g, cap, cur, rfl, hbg, hg, hnc, hcm, hcs, htake⟩
  · have hx : xs = [] := List.eq_nil_of_length_eq_zero (by simpa using hxl)
    subst hx
    by_cases hm : m = 0
    · subst hm
      have hn : news = [] := List.eq_nil_of_length_eq_zero (by simpa using hs.newsLen)
      subst hn
      exact ⟨_, _, run_append_nothing (P := P) w t tx ty e i ht hi none 0 0 (Nat.le_refl _) x hs, World.ownsRow_nil w base e i.size, ⟨rfl, rfl, rfl, Nat.le_refl _, fun _ _ _ => rfl⟩⟩
    · have hr := run_append_grow_src (P := P) w t tx ty e i z ht hi hz none 0 0 [] (run_firstCells_none w.drew i.size 0 0 0) x m news hs (by omega) (by omega) (growslice_fits (by omega) (by omega))
      have hgr := grown 0 (by omega) (Value.ownBlock (.slice none 0 0))
      simp only [Nat.zero_add, List.nil_append] at hgr hr ⊢
      exact ⟨_, _, hr, hgr.1, hgr.2⟩
  · by_cases hroom : n + m ≤ cap
    · have hsz : ∀ j, j < news.length → n * i.size + j < cur.size := fun j hj => by
        rw [hs.newsLen] at hj
        have : (n + m) * i.size ≤ cap * i.size := Nat.mul_le_mul_right _ hroom
        rw [Nat.add_mul] at this
        omega
      have hr := run_append_room_src (P := P) w t tx ty e i ht hi g 0 n cap x m news hs hroom (fun j hj => by
        rw [Nat.zero_add, cell_of_row w g _ cur e (0, 0) hg, Array.getElem?_eq_getElem (hsz j hj)]; rfl) (fun j hj => frozen_of_row w g _ cur e hg)
      rw [Nat.zero_add] at hr
      have key : ∀ (vs : List Value) (j : Nat) (cu : Array Value) (w1 : World), w1.heap[g]? = some (.cells cu e (0, 0)) → j + vs.length ≤ cu.size →
          ∃ cu', (w1.setCells g j vs).heap[g]? = some (.cells cu' e (0, 0)) ∧ cu'.size = cu.size ∧ cu'.toList.take (j + vs.length) = cu.toList.take j ++ vs ∧ w1.grownBy (w1.setCells g j vs) (some g) := by
        intro vs
        induction vs with
        | nil => intro j cu w1 h _; exact ⟨cu, h, rfl, by simp, ⟨rfl, rfl, rfl, Nat.le_refl _, fun _ _ _ => rfl⟩⟩
        | cons u r ih =>
          intro j cu w1 h hj
          rw [List.length_cons] at hj
          obtain ⟨cu', h1, h2, h3, h4⟩ := ih (j + 1) (cu.setIfInBounds j u) (w1.setCell ⟨g, j, none⟩ u) (heap_setCell_same w1 g j cu e u h) (by simp; omega)
          refine ⟨cu', h1, by rw [h2]; simp, ?_, ⟨h4.os, h4.tape, h4.output, by have h5 := h4.size; rw [World.size_setCell] at h5; exact h5, fun k hk hne => ?_⟩⟩
          · rw [List.length_cons, show j + (r.length + 1) = j + 1 + r.length by omega, h3, Array.toList_setIfInBounds]
            have hj' : j < cu.toList.length := by simp; omega
            rw [List.take_succ_eq_append_getElem (by simpa using hj'), List.take_set_of_le (Nat.le_refl _)]
            simp
          · exact (h4.block k (by simpa using hk) hne).trans (heap_setCell_other w1 ⟨g, j, none⟩ k u (fun e => hne (by simp [e])))
      obtain ⟨cu', h1, h2, h3, h4⟩ := key news (n * i.size) cur w hg (by
        rw [hs.newsLen, hcs, ← Nat.add_mul]; exact Nat.mul_le_mul_right _ hroom)
      refine ⟨_, _, hr, ⟨hlen, .inr ⟨g, cap, cu', rfl, hbg, h1, hroom, hcm, by rw [h2, hcs], ?_⟩⟩, h4⟩
      rw [Nat.add_mul, ← hs.newsLen, h3, htake]
    · have hold := run_firstCells_some (P := P) w.drew i.size n ⟨g, 0, none⟩ n cap xs hxl (by simpa using hown.cells (g := g) rfl)
      have hr := run_append_grow_src (P := P) w t tx ty e i z ht hi hz (some ⟨g, 0, none⟩) n cap xs hold x m news hs (by omega) (by omega) (growslice_fits (by omega) (by omega))
      have hgr := grown cap (by omega) (Value.ownBlock (.slice (some ⟨g, 0, none⟩) n cap))
      exact ⟨_, _, hr, hgr.1, hgr.2⟩

theorem wpList_append_src {ops : Array Oper} {rest : List Oper} {o : Oper} {a : Act} {Q : Exit → Act → World → Prop} (hgd : o.guard = none) (s x : Operand) (t tx : TypeId)
    (ho : o.op = .call { callee := .builtin .append, args := #[s, x], argTypes := #[t, tx] })
    (base : Nat) (e : TypeId) (i : TypeInfo) (z : Value) (size bytes : Nat) (ht : P.underlying t = some (.slice e)) (hi : P.info? e = some i) (hz : i.zero = some z)
    (hsize : i.size = size) (hby : i.bytes = bytes) (hzs : z.cells.size = size) (hsz : 0 < size)
    (v : Value) (n : Nat) (xs : List Value) (hs : a.eval s = v) (hown : w.ownsRow base e size v n xs) (u : Value) (m : Nat) (news : List Value) (hx : a.eval x = u) (hsrc : Src P size tx u m news w)
    (h63 : n + m ≤ maxLen) (hbytes : (n + m) * bytes ≤ 140737488355328) (hbase : base ≤ w.heap.size)
    (h : ∀ v' w', w'.ownsRow base e size v' (n + m) (xs ++ news) → w.grownBy w' v.ownBlock → wpList P ops Q rest (a.put o.dst v') w') : wpList P ops Q (o :: rest) a w := by
  refine wpList_plain hgd fun K hK => ?_
  obtain ⟨v', w', hr, h2, h3⟩ := run_append_own_src (P := P) w base t tx o.type e i z size bytes ht hi hz hsize hby hzs hsz v n xs hown u m news hsrc h63 hbytes hbase
  unfold Oper.wp execOp
  simp only [ho, resolve, invoke, builtin, Sem.run_bind, Sem.run_pure, Result.andThen_ok, List.map_toArray, List.map_cons, List.map_nil, hs, hx, hr]
  exact hK _ _ (h v' w' h2 h3)
end
theorem SlL.asSrc {w : World} {ad : Option Addr} {n c : Nat} {M : List Lt} {tx : TypeId} (hk : Tryd.prog.underlying tx = some (.slice 30)) (h : SlL w ad n c M) : Src Tryd.prog 2 tx (.slice ad n c) n (lvals M) w := by
  cases ad with
  | none =>
    have hn0 : n = 0 := by
      rcases h.2.2.2 with h | ⟨b, off, e, _⟩
      · exact h
      · cases e
    subst hn0
    obtain rfl : M = [] := List.eq_nil_of_length_eq_zero h.1
    exact Src.ofNil w hk c
  | some y => exact Src.ofSlice w hk y n c _ (by rw [lvals_len, h.1]) h.src (lvals_one M)
/-- appending literals to a list of one's own -/
theorem wpList_append_lts {w : World} {ops : Array Oper} {rest : List Oper} {o : Oper} {a : Act} {Q : Exit → Act → World → Prop} (hgd : o.guard = none) (s x : Operand) (t tx : TypeId)
    (ho : o.op = .call { callee := .builtin .append, args := #[s, x], argTypes := #[t, tx] }) (ht : Tryd.prog.underlying t = some (.slice 30)) (htx : Tryd.prog.underlying tx = some (.slice 30))
    (base : Nat) (v : Value) (L : List Lt) (hs : a.eval s = v) (hown : OwnL w base v L) (ad : Option Addr) (n c : Nat) (M : List Lt) (hx : a.eval x = .slice ad n c) (hM : SlL w ad n c M)
    (hl : L.length + n ≤ 100000) (hbase : base ≤ w.heap.size)
    (h : ∀ v' w', OwnL w' base v' (L ++ M) → Below base w w' → wpList Tryd.prog ops Q rest (a.put o.dst v') w') : wpList Tryd.prog ops Q (o :: rest) a w := by
  obtain ⟨i0, hi0, hz0, hz1, hz2⟩ := info_parts info30z
  refine wpList_append_src w hgd s x t tx ho base 30 i0 (.agg #[.int .i64 0, .bool false]) 2 16 ht hi0 hz0 hz1 hz2 rfl (by decide) v L.length (lvals L) hs hown _ n (lvals M) hx (hM.asSrc htx) (by unfold maxLen; omega) (by omega) hbase ?_
  intro v' w' ho' hg'
  refine h v' w' ?_ ((Below.refl base w).grown hg' hbase (fun j hj => (World.ownsRow.lt hown j hj).1))
  unfold OwnL
  rw [List.length_append, hM.1, lvals_append]
  exact ho'

end Go.Proofs.YtljgcjmelmpgoaaDoor
