/- Blocks one after the other; a hash in memory. -/
import Derived.Test.YtacahgcbkgapdaaA4
namespace Go.Proofs.Ytacahgcbkgapdaa
open Go.RowKit
set_option linter.unusedVariables false

/-- all whole blocks are processed; what is left -/
def runB (st l : List Int) : List Int × List Int :=
  if h : 64 ≤ l.length then runB (blk st (l.take 64)) (l.drop 64) else (st, l)
termination_by l.length
decreasing_by simp; omega
theorem runB_short {st l : List Int} (h : l.length < 64) : runB st l = (st, l) := by rw [runB, dif_neg (by omega)]
theorem runB_long {st l : List Int} (h : 64 ≤ l.length) : runB st l = runB (blk st (l.take 64)) (l.drop 64) := by rw [runB, dif_pos h]
theorem runB_block {st B l : List Int} (h : B.length = 64) : runB st (B ++ l) = runB (blk st B) l := by
  rw [runB_long (by simp [h])]
  rw [List.take_append_of_le_length (by omega), List.take_of_length_le (by omega), List.drop_append_of_le_length (by omega), List.drop_of_length_le (by omega)]; rfl
theorem runB_left (st l : List Int) : (runB st l).2.length < 64 := by
  induction st, l using runB.induct with
  | case1 st l h ih => rw [runB_long h]; exact ih
  | case2 st l h => rw [runB_short (by omega)]; simp; omega
theorem blk_len (st B : List Int) : (blk st B).length = st.length := by unfold blk; rw [addTo_len]
theorem runB_state (st l : List Int) : (runB st l).1.length = st.length := by
  induction st, l using runB.induct with
  | case1 st l h ih => rw [runB_long h, ih, blk_len]
  | case2 st l h => rw [runB_short (by omega)]
theorem runB_append (st a b : List Int) : runB (runB st a).1 ((runB st a).2 ++ b) = runB st (a ++ b) := by
  induction st, a using runB.induct with
  | case1 st l h ih =>
    rw [runB_long h, ih]
    have : l ++ b = l.take 64 ++ (l.drop 64 ++ b) := by rw [← List.append_assoc, List.take_append_drop]
    rw [this, runB_block (B := l.take 64) (l := l.drop 64 ++ b) (by simp; omega)]
  | case2 st l h => rw [runB_short (st := st) (l := l) (by omega)]
/-- the hash in block H: its state, the bytes behind the last block, the number of all bytes -/
def HAt (w : World) (H : Nat) (st buf : List Int) (t : Int) : Prop :=
  st.length = 8 ∧ buf.length < 64 ∧ ∃ B : List Int, B.length = 64 ∧ B.take buf.length = buf ∧ Row w H 41 (hcells st B buf.length t)
theorem HAt.below {w w' : World} {H : Nat} {st buf : List Int} {t : Int} {B : Nat} (h : HAt w H st buf t) (hb : Below B w w') (hlt : H < B) : HAt w' H st buf t :=
  ⟨h.1, h.2.1, h.2.2.choose, h.2.2.choose_spec.1, h.2.2.choose_spec.2.1, h.2.2.choose_spec.2.2.below hb hlt⟩
theorem HAt.lt {w : World} {H : Nat} {st buf : List Int} {t : Int} (h : HAt w H st buf t) : H < w.heap.size := h.2.2.choose_spec.2.2.lt
/-- the cells behind some bytes that were copied in -/
theorem hcells_splice {st B : List Int} {u t : Int} (hs : st.length = 8) (hB : B.length = 64) {n : Nat} {cs : List Int} (h : n + cs.length ≤ 64) :
    splice (hcells st B u t) (8 + n) (vals .u8 cs) = hcells st (B.take n ++ (cs ++ B.drop (n + cs.length))) u t := by
  unfold splice hcells
  simp only [vals, List.length_map]
  have h8 : (st.map (Value.int .u32)).length = 8 := by simpa using hs
  have h64 : (B.map (Value.int .u8)).length = 64 := by simpa using hB
  rw [List.append_assoc, List.take_append, List.drop_append]
  rw [List.take_of_length_le (by omega), List.drop_of_length_le (by omega)]
  rw [h8, show 8 + n - 8 = n by omega, show 8 + n + cs.length - 8 = n + cs.length by omega]
  rw [List.take_append_of_le_length (by omega), List.drop_append_of_le_length (by omega)]
  simp [List.map_take, List.map_drop]
theorem step_copy_exact {P : Program} {ops : Array Oper} {o : Oper} {a : Act} {w : World} {K : Act → World → Prop} {Q : Exit → Act → World → Prop} {E : Prop} (hgd : o.guard = none) (d s : Operand) (dT sT : TypeId)
    (ho : o.op = .call { callee := .builtin .copy, args := #[d, s], argTypes := #[dT, sT] }) (elem : TypeId) (hu : P.underlying dT = some (.slice elem)) (hsz : (P.info? elem).map (·.size) = some 1)
    (g off dLen dCap : Nat) (ad : Addr) (sLen sCap : Nat) (hd : a.eval d = .slice (some ⟨g, off, none⟩) dLen dCap) (hs : a.eval s = .slice (some ad) sLen sCap)
    (cur : List Value) (t : TypeId) (hg : Row w g t cur) (cs : List Value) (hn : cs.length = Nat.min sLen dLen)
    (hsrc : ∀ j v, cs[j]? = some v → w.cell? (ad.add j) = some v) (hfit : off + cs.length ≤ cur.length) (h1 : ∀ v ∈ cs, v.oneCell' = true)
    (h : K (a.put o.dst (goInt cs.length)) (w.setRow g (splice cur off cs).toArray)) :
    if Region.wanted o (yielded ops a.tmps) = true then Oper.wp P o a w K Q else E := by
  have hw : Region.wanted o (yielded ops a.tmps) = true := by simp [Region.wanted, hgd]
  rw [if_pos hw]
  have hrun := run_copy_row (P := P) w dT sT o.type elem g off dLen dCap ad sLen sCap cur.toArray t cs hu hsz hg hn hsrc (by simpa using hfit) h1
  unfold Oper.wp
  simp [execOp, ho, resolve, invoke, builtin, hd, hs, hrun, Result.andThen]
  rw [Oper.upon_value]
  simpa [splice] using h
theorem info5 : (Try.prog.info? 5).map (·.size) = some 1 := by kernel_rfl

end Go.Proofs.Ytacahgcbkgapdaa
