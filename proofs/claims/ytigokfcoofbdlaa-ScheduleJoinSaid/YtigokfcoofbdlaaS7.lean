/- Deleting from a list in a block of one's own; what is asked of a step. -/
import Derived.Test.YtigokfcoofbdlaaS6
namespace Go.Proofs.Ytigokfcoofbdlaa
open Go.RowKit
set_option linter.unusedVariables false

/-- copy in a drawn region: what it leaves -/
theorem step_copy_grown {P : Program} {ops : Array Oper} {o : Oper} {a : Act} {w : World} {K : Act → World → Prop} {Q : Exit → Act → World → Prop} {E : Prop} (hgd : o.guard = none) (d s : Operand) (dT sT : TypeId)
    (ho : o.op = .call { callee := .builtin .copy, args := #[d, s], argTypes := #[dT, sT] }) (elem : TypeId) (hu : P.underlying dT = some (.slice elem)) (hsz : (P.info? elem).map (·.size) = some 1)
    (dp sp : Option Addr) (dLen dCap sLen sCap : Nat) (hd : a.eval d = .slice dp dLen dCap) (hs : a.eval s = .slice sp sLen sCap)
    (g off : Nat) (cur : List Value) (t : TypeId) (hg : w.heap[g]? = some (.cells cur.toArray t (0, 0))) (cs : List Value) (hn : cs.length = Nat.min sLen dLen)
    (hpos : 0 < cs.length → dp = some ⟨g, off, none⟩ ∧ ∃ ad, sp = some ad ∧ ∀ j v, cs[j]? = some v → w.cell? (ad.add j) = some v)
    (hfit : off + cs.length ≤ cur.length) (h1 : ∀ v ∈ cs, v.oneCell' = true)
    (h : ∀ w', Hid (w'.heap[g]? = some (.cells (splice cur off cs).toArray t (0, 0))) → Hid (w.grownBy w' (some g)) → K (a.put o.dst (goInt cs.length)) w') :
    if Region.wanted o (yielded ops a.tmps) = true then Oper.wp P o a w K Q else E := by
  have hw : Region.wanted o (yielded ops a.tmps) = true := by simp [Region.wanted, hgd]
  rw [if_pos hw]
  by_cases h0 : cs.length = 0
  · obtain rfl : cs = [] := List.eq_nil_of_length_eq_zero h0
    have hrun := run_copy_none (P := P) w dT sT o.type elem dp sp dLen dCap sLen sCap hu hsz (by simpa using hn.symm)
    unfold Oper.wp
    simp [execOp, ho, resolve, invoke, builtin, hd, hs, hrun, Result.andThen]
    exact h w (show _ = _ by simpa [splice] using hg) (show World.grownBy _ _ _ from ⟨rfl, rfl, rfl, Nat.le_refl _, fun _ _ _ => rfl⟩)
  · obtain ⟨rfl, ad, rfl, hsrc⟩ := hpos (by omega)
    have hrun := run_copy_row (P := P) w dT sT o.type elem g off dLen dCap ad sLen sCap cur.toArray t cs hu hsz hg hn hsrc (by simpa using hfit) h1
    unfold Oper.wp
    simp [execOp, ho, resolve, invoke, builtin, hd, hs, hrun, Result.andThen]
    exact h _ (show _ = _ by simpa [splice] using setRow_heap w g _ _ t _ hg) (show World.grownBy _ _ _ from ⟨rfl, rfl, rfl, by simp [World.setRow], fun k _ hk => setRow_other w g k _ (fun e => hk (by rw [e]))⟩)
/-- block u of n cells begins with the numbers l -/
def UB (w : World) (u n : Nat) (l : List Nat) : Prop := ∃ cur : List Value, w.heap[u]? = some (.cells cur.toArray 3 (0, 0)) ∧ cur.length = n ∧ cur.take l.length = ivals (ints l)
theorem UB.len {w : World} {u n : Nat} {l : List Nat} (h : UB w u n l) : l.length ≤ n := by
  obtain ⟨cur, _, h2, h3⟩ := h
  have := congrArg List.length h3
  simp [ints] at this
  omega
theorem UB.lt {w : World} {u n : Nat} {l : List Nat} (h : UB w u n l) : u < w.heap.size := by
  obtain ⟨cur, h1, _⟩ := h
  exact (Array.getElem?_eq_some_iff.1 h1).1
theorem UB.cell {w : World} {u n i : Nat} {l : List Nat} (h : UB w u n l) (hi : i < l.length) : w.cell? ⟨u, i, none⟩ = some (.int .i64 (l.getD i 0 : Nat)) := by
  have hl := h.len
  obtain ⟨cur, h1, h2, h3⟩ := h
  rw [cell_of_row w u i cur.toArray 3 (0, 0) h1]
  have := congrArg (fun x => x[i]?) h3
  simp only [List.getElem?_take, if_pos hi] at this
  rw [List.getElem?_toArray, this, iv_at (by rw [ints_len]; exact hi), ints_at]
theorem UB.frozen {w : World} {u n : Nat} {l : List Nat} (h : UB w u n l) (i : Nat) : w.frozen? ⟨u, i, none⟩ = false := by
  obtain ⟨cur, h1, _⟩ := h
  exact frozen_of_row w u i cur.toArray 3 h1
theorem UB.of {w w' : World} {u n : Nat} {l : List Nat} (h : UB w u n l) (he : w'.heap[u]? = w.heap[u]?) : UB w' u n l := by
  obtain ⟨cur, h1, h2⟩ := h
  exact ⟨cur, by rw [he]; exact h1, h2⟩
theorem UB.spare {w : World} {u n i : Nat} {l : List Nat} (h : UB w u n l) (hi : i < n) : ∃ v, w.cell? ⟨u, i, none⟩ = some v := by
  obtain ⟨cur, h1, h2, _⟩ := h
  exact ⟨cur[i], by rw [cell_of_row w u i cur.toArray 3 (0, 0) h1]; simp [h2, hi]⟩
theorem UB.put {w : World} {u n i : Nat} {l : List Nat} (h : UB w u n l) (hl : l.length = i) (hi : i < n) (x : Nat) : UB (w.setCell ⟨u, i, none⟩ (.int .i64 (x : Nat))) u n (l ++ [x]) := by
  obtain ⟨cur, h1, h2, h3⟩ := h
  refine ⟨cur.set i (.int .i64 (x : Nat)), ?_, by simp [h2], ?_⟩
  · rw [heap_setCell_same w u i cur.toArray 3 _ h1]; simp
  · rw [List.length_append, hl]
    rw [hl] at h3
    simp only [List.length_cons, List.length_nil, Nat.zero_add]
    rw [List.take_succ_eq_append_getElem (by simp; omega), List.take_set_of_le (Nat.le_refl _), h3]
    simp [ivals, ints]
theorem UB.cut {w : World} {u n k : Nat} {l : List Nat} {cur : List Value} (h2 : cur.length = n) (h3 : cur.take l.length = ivals (ints l)) (hk : k < l.length) (hn : l.length ≤ n)
    (h1 : w.heap[u]? = some (.cells (splice cur k ((ivals (ints l)).drop (k + 1))).toArray 3 (0, 0))) : UB w u n (l.take k ++ l.drop (k + 1)) := by
  refine ⟨_, h1, ?_, ?_⟩
  · rw [length_splice]
    · exact h2
    · simp [ints]; omega
  · unfold splice
    have e1 : cur.take k = (ivals (ints l)).take k := by rw [← h3, List.take_take, Nat.min_eq_left (by omega)]
    have ex : (l.take k ++ l.drop (k + 1)).length = (List.take k cur ++ List.drop (k + 1) (ivals (ints l))).length := by simp [ints]; omega
    rw [ex, ← List.append_assoc, List.take_append_of_le_length (Nat.le_refl _), List.take_of_length_le (Nat.le_refl _), e1]
    simp [ivals, ints]
theorem grown_drew (w : World) (r : Option Nat) : w.grownBy w.drew r := ⟨rfl, rfl, rfl, Nat.le_refl _, fun _ _ _ => rfl⟩
theorem grown_set (w : World) (u i : Nat) (v : Value) : w.grownBy (w.setCell ⟨u, i, none⟩ v) (some u) :=
  ⟨rfl, rfl, rfl, by simp [World.setCell], fun k _ hk => Below.heap_setCell _ _ _ _ (fun e => hk (by rw [e]))⟩
theorem grown_trans {a b c : World} {r : Option Nat} (h : a.grownBy b r) (k : b.grownBy c r) : a.grownBy c r :=
  ⟨k.os.trans h.os, k.tape.trans h.tape, k.output.trans h.output, Nat.le_trans h.size k.size, fun i hi hr => (k.block i (Nat.lt_of_lt_of_le hi h.size) hr).trans (h.block i hi hr)⟩
/-- what run asks of a step of worker i, called as function g with what it captured: I says what holds of the world, of the counts that are left and of the steps made; u is a block of run's own -/
structure StepOk (g : Nat) (lb : Array Value) (w0 : World) (u : Nat) (I : World → List Nat → List Nat → Prop) : Prop where
  step : ∀ (W : World) (L out : List Nat) (i : Nat), I W L out → i < L.length → 0 < L.getD i 0 → L.sum + out.length ≤ 600 → u < W.heap.size →
    Calls Try.prog g (#[.int .i64 (i : Nat)] ++ lb) W fun e w' => e = .returned (.bool (decide (L.getD i 0 = 1))) ∧ I w' (dec L i) (out ++ [i]) ∧ w'.heap[u]? = W.heap[u]? ∧ W.heap.size ≤ w'.heap.size
  keep : ∀ (W W' : World) (L out : List Nat), I W L out → W.grownBy W' (some u) → I W' L out
  below : ∀ (W : World) (L out : List Nat), I W L out → Below w0.heap.size w0 W
theorem unf_all {L : List Nat} (h : ∀ i, i < L.length → 0 < L.getD i 0) : unf L = List.range L.length := by
  unfold unf
  rw [List.filter_eq_self.2]
  intro i hi
  have := h i (by simpa using hi)
  simpa using this
theorem unf_nodup (L : List Nat) : (unf L).Nodup := (unf_sorted L).imp (fun h => Nat.ne_of_lt h)
theorem unf_gone {L : List Nat} {k : Nat} (h : k < (unf L).length) (h1 : L.getD ((unf L).getD k 0) 0 = 1) : unf (dec L ((unf L).getD k 0)) = (unf L).take k ++ (unf L).drop (k + 1) := by
  have hm : (unf L).getD k 0 ∈ unf L := by simp [h]
  rw [unf_last (mem_unf.1 hm).1 h1]
  have hs := unf_sorted L
  have e := split_at h
  have hg : (unf L).getD k 0 = (unf L)[k] := by simp [h]
  rw [hg]
  rw [e] at hs
  have := filter_split hs
  rw [← e] at this
  exact this

end Go.Proofs.Ytigokfcoofbdlaa
