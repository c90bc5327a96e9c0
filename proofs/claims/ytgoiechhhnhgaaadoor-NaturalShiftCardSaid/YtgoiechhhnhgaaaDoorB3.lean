/- make and copy of limbs, as laws; Add. -/
import Derived.Test.YtgoiechhhnhgaaaDoorB2
import Derived.Laws.IdiomCopy
namespace Go.Proofs.YtgoiechhhnhgaaaDoor
open Go.RowKit
set_option linter.unusedVariables false
theorem Tryd.size42 : (Tryd.prog.info? 42).map (·.size) = some 1 := by kernel_rfl
theorem Only.setCells (b lo up : Nat) : ∀ (vs : List Value) (o : Nat) (w : World), lo ≤ o → o + vs.length ≤ up → Only b lo up w (w.setCells b o vs)
  | [], _, w, _, _ => Only.refl _ _ _ _
  | v :: r, o, w, h1, h2 => by
    simp only [List.length_cons] at h2
    exact ((Only.refl b lo up w).set (j := o) h1 (by omega) v).trans (Only.setCells b lo up r (o + 1) _ (by omega) (by omega))
/-- limbs 0 -/
def zer (n : Nat) : List Nat := List.replicate n 0
theorem zer_length (n : Nat) : (zer n).length = n := by simp [zer]
theorem zer_getD (n j : Nat) : (zer n).getD j 0 = 0 := by
  simp [zer, List.getD_eq_getElem?_getD, List.getElem?_replicate]; split <;> rfl
theorem nv_zer (n : Nat) : nv (zer n) = 0 := by
  have := nv_ext (zer n) [] (fun j => by rw [zer_getD]; simp)
  rw [this]; rfl
theorem zer_lim (n : Nat) : Lim (zer n) := by
  intro x hx
  have := List.eq_of_mem_replicate hx
  rw [this]; exact BB_pos
theorem wpList_make_win (w : World) {ops : Array Oper} {rest : List Oper} {o : Oper} {a : Act} {Q : Exit → Act → World → Prop}
    (hg : o.guard = none) (l c : Operand) (t : TypeId) (hop : o.op = Op.makeSlice t l c) (ht : Tryd.prog.underlying t = some (.slice 42))
    (X : Int) (n : Nat) (hl : a.eval l = .int .i64 X) (hc : a.eval c = .int .i64 X) (hX : X = n) (hb : n ≤ 1073741824)
    (hK : ∀ w', Hid (Win w' w.heap.size 0 n (zer n)) → Below w.heap.size w w' → w'.heap.size = w.heap.size + 1 → wpList Tryd.prog ops Q rest (a.put o.dst (.slice (some ⟨w.heap.size, 0, none⟩) n n)) w') :
    wpList Tryd.prog ops Q (o :: rest) a w := by
  subst hX
  refine wpList_plain hg fun K hK' => ?_
  have hrun := run_make_row' (P := Tryd.prog) t 42 (.int .u32 0) 4 ht Tryd.info42 rfl .i64 .i64 n (by omega) (by omega) w
  have hr := World.rowIs_made w (.int .u32 0) n 42
  unfold Oper.wp
  simp [execOp, hop, hl, hc, hrun, Result.andThen]
  refine hK' _ _ (hK _ (Lib.hid ⟨zer_length n, zer_lim n, fun i hi => ?_, fun i hi => ?_⟩) ((Below.refl _ _).alloc (Nat.le_refl _) _) (by simp))
  · rw [Nat.zero_add, hr.cell hi, zer_getD]; rfl
  · rw [Nat.zero_add]; exact hr.frozen i
theorem wpList_copy_win {w : World} {ops : Array Oper} {rest : List Oper} {o : Oper} {a : Act} {Q : Exit → Act → World → Prop} (hgd : o.guard = none) (d s : Operand) (dT sT : TypeId)
    (ho : o.op = .call { callee := .builtin .copy, args := #[d, s], argTypes := #[dT, sT] }) (hu : Tryd.prog.underlying dT = some (.slice 42))
    (b off n cap : Nat) (L : List Nat) (ad : Option Addr) (len sc : Nat) (l : List Nat) (hd : a.eval d = .slice (some ⟨b, off, none⟩) n cap) (hs : a.eval s = .slice ad len sc)
    (hw : Win w b off n L) (hr : Rd w ad len sc l) (hle : len ≤ n)
    (h : ∀ w', Hid (Win w' b off n (l ++ L.drop len)) → Hid (Only b off (off + n) w w') → wpList Tryd.prog ops Q rest (a.put o.dst (goInt len)) w') :
    wpList Tryd.prog ops Q (o :: rest) a w := by
  refine wpList_plain hgd fun K hK => ?_
  have key : ∃ w', (Builtin.copy_ #[dT, sT] o.type #[.slice (some ⟨b, off, none⟩) n cap, .slice ad len sc]).run Tryd.prog w = .ok (goInt len) w' ∧ Win w' b off n (l ++ L.drop len) ∧ Only b off (off + n) w w' := by
    by_cases h0 : len = 0
    · subst h0
      have hnil : l = [] := List.length_eq_zero_iff.1 hr.len_eq
      subst hnil
      exact ⟨w, run_copy_none (P := Tryd.prog) w dT sT o.type 42 _ _ _ _ _ _ hu Tryd.size42 (by simp), by simpa using hw, Only.refl _ _ _ _⟩
    · rcases hr.cells with h1 | ⟨b', off', rfl, h1⟩
      · exact absurd h1 h0
      have hle2 := hr.len_eq
      refine ⟨w.setCells b off (lv l), ?_, ?_, Only.setCells _ _ _ _ _ _ (Nat.le_refl _) (by rw [lv_length]; omega)⟩
      · have := run_copy_cells (P := Tryd.prog) w dT sT o.type 42 b off n cap ⟨b', off', none⟩ len sc (lv l) hu Tryd.size42 (by rw [lv_length, hle2]; exact (Nat.min_eq_left hle).symm)
          (by
            intro j v hv
            simp only [lv, List.getElem?_map, Option.map_eq_some_iff] at hv
            obtain ⟨m, hm, rfl⟩ := hv
            have hjl : j < l.length := (List.getElem?_eq_some_iff.1 hm).1
            rw [show (⟨b', off', none⟩ : Addr).add j = ⟨b', off' + j, none⟩ from by unfold Addr.add; split <;> simp_all]
            rw [h1 j (by omega)]; simp [List.getD_eq_getElem?_getD, hm])
          (fun j hj => by rw [lv_length] at hj; rw [hw.cell j (by omega)]; rfl) (fun j hj => by rw [lv_length] at hj; exact hw.free j (by omega))
          (by intro u hu; simp only [lv, List.mem_map] at hu; obtain ⟨m, _, rfl⟩ := hu; rfl)
        rw [lv_length, hle2] at this
        exact this
      · have hl2 := hw.len_eq
        refine ⟨by simp; omega, hr.lim.append (hw.lim.drop _), fun i hi => ?_, fun i hi => by rw [World.frozen?_setCells]; exact hw.free i hi⟩
        by_cases hi2 : i < len
        · rw [World.cell?_setCells_in b (lv l) off w (fun j hj => by rw [lv_length] at hj; rw [hw.cell j (by omega)]; rfl) i (by rw [lv_length]; omega)]
          simp [lv, List.getD_eq_getElem?_getD, List.getElem?_append, hle2, hi2]
        · rw [World.cell?_setCells_out b (lv l) off w _ (fun _ _ => .inr (by rw [lv_length]; simp; omega)), hw.cell i hi]
          simp [List.getD_eq_getElem?_getD, List.getElem?_append, hle2, hi2, show len + (i - len) = i by omega]
  obtain ⟨w', h1, h2, h3⟩ := key
  unfold Oper.wp
  simp [execOp, ho, resolve, invoke, builtin, hd, hs, h1, Result.andThen]
  exact hK _ _ (h w' (Lib.hid h2) (Lib.hid h3))
end Go.Proofs.YtgoiechhhnhgaaaDoor
