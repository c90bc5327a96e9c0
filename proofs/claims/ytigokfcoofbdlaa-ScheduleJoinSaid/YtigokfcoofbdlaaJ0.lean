/- The law ScheduleJoin: its workers. -/
import Derived.Test.YtigokfcoofbdlaaS19
namespace Go.Proofs.Ytigokfcoofbdlaa
open Go.RowKit
set_option linter.unusedVariables false

/-- how many steps worker j makes -/
def mst (l : List Int) (j : Nat) : Nat := (max 1 (l.getD j 0)).toNat
def tot (l : List Int) : Nat → Nat
  | 0 => 0
  | r + 1 => tot l r + mst l r
def wantl (l : List Int) : Nat → List Nat
  | 0 => []
  | r + 1 => wantl l r ++ List.replicate (mst l r) r
theorem wantl_len (l : List Int) : ∀ r, (wantl l r).length = tot l r
  | 0 => rfl
  | r + 1 => by show (wantl l r ++ List.replicate (mst l r) r).length = _; rw [List.length_append, wantl_len l r, List.length_replicate]; rfl
theorem mst_pos (l : List Int) (j : Nat) : 1 ≤ mst l j := by unfold mst; omega
theorem tot_lt (l : List Int) : ∀ {r n : Nat}, r < n → tot l r < tot l n
  | r, n + 1, h => by
    have hm := mst_pos l n
    show tot l r < tot l n + mst l n
    rcases Nat.lt_or_ge r n with h1 | h1
    · have := tot_lt l h1; omega
    · have : r = n := by omega
      subst this; omega
theorem tot_le {l : List Int} (h : ∀ j, l.getD j 0 ≤ 50) : ∀ r, tot l r ≤ 50 * r
  | 0 => by simp [tot]
  | r + 1 => by
    have := tot_le h r
    have h1 := h r
    have : mst l r ≤ 50 := by unfold mst; omega
    show tot l r + mst l r ≤ _
    omega
/-- a worker of the law as a value: the function with its variables k, log, i, n -/
def jval (bl h : Nat) : Value := .iface 45 (.func (.func 17) #[] #[.pointer (some ⟨h + 2, 0, none⟩), .pointer (some ⟨bl, 0, none⟩), .pointer (some ⟨h, 0, none⟩), .pointer (some ⟨h + 1, 0, none⟩)])
def jvals (bl : Nat) (Hs : List Nat) : List Value := Hs.map (jval bl)
theorem jvals_len (bl : Nat) (Hs : List Nat) : (jvals bl Hs).length = Hs.length := by simp [jvals]
theorem jvals_at {bl i : Nat} {Hs : List Nat} (h : i < Hs.length) : (jvals bl Hs)[i]? = some (jval bl (Hs.getD i 0)) := by simp [jvals, h]
/-- a variable in a block of its own -/
def VarB (w : World) (b : Nat) (x : Int) : Prop := w.heap[b]? = some (.cells #[.int .i64 x] 3 (0, 0))
theorem VarB.lt {w : World} {b : Nat} {x : Int} (h : VarB w b x) : b < w.heap.size := lt_of_block h
theorem VarB.of {w w' : World} {b : Nat} {x : Int} (h : VarB w b x) (e : w'.heap[b]? = w.heap[b]?) : VarB w' b x := by unfold VarB; rw [e]; exact h
/-- the variables of worker i -/
def JBlk (w : World) (h i : Nat) (nn : Int) (k : Nat) : Prop := VarB w h (i : Nat) ∧ VarB w (h + 1) nn ∧ VarB w (h + 2) (k : Nat)
/-- what a call of the law's function leaves -/
def JMid (W : World) (U bl h : Nat) (vo : Value) (out : List Nat) (i k : Nat) (w' : World) : Prop :=
  ∃ vo', w'.heap[bl]? = some (.cells #[vo'] 22 (0, 0)) ∧ OwnI w' U vo' (ints (out ++ [i])) ∧ VarB w' (h + 2) ((k + 1 : Nat) : Int) ∧
    (∀ b, b < U → b ≠ bl → b ≠ h + 2 → w'.heap[b]? = W.heap[b]?) ∧ W.heap.size ≤ w'.heap.size ∧ (w'.os = W.os ∧ w'.tape = W.tape ∧ w'.output = W.output)
set_option maxHeartbeats 2000000 in
set_option maxRecDepth 100000 in
theorem jfun_c (U bl h i k : Nat) (nn : Int) (vo : Value) (out : List Nat) (W : World) (hb : W.heap[bl]? = some (.cells #[vo] 22 (0, 0))) (hO : OwnI W U vo (ints out)) (hj : JBlk W h i nn k) (hU : h + 2 < U) (hbU : bl < U) (hUW : U ≤ W.heap.size) (hk : k ≤ 50) (ho : out.length ≤ 600) :
    Calls Try.prog 17 #[.pointer (some ⟨h + 2, 0, none⟩), .pointer (some ⟨bl, 0, none⟩), .pointer (some ⟨h, 0, none⟩), .pointer (some ⟨h + 1, 0, none⟩)] W fun e w' => e = .returned (.bool (decide (nn ≤ (k : Int) + 1))) ∧ JMid W U bl h vo out i k w' := by
  obtain ⟨i0, hi0, hz0, hz1, hz2⟩ := info_parts info3z
  obtain ⟨h1, h2, h3⟩ := hj
  obtain ⟨oa, oc, rfl⟩ := hO.slice
  rw [ints_len] at *
  have ow : Hid (W.ownsRow U 3 1 (.slice oa out.length oc) out.length (ivals (ints out))) := Lib.hid (by have := hO; unfold OwnI at this; rwa [ints_len] at this)
  have k3 := cell_of_one h3
  have f3 := free_of_one h3
  have hblh : bl ≠ h + 2 := fun e => by unfold VarB at h3; rw [← e] at h3; have := cells_type hb h3; cases this
  have H4 : Hid ((W.setCell ⟨h + 2, 0, none⟩ (.int .i64 ((k : Int) + 1))).heap[bl]? = some (.cells #[.slice oa out.length oc] 22 (0, 0))) := Lib.hid (by rw [Below.heap_setCell _ _ _ _ hblh]; exact hb)
  have V4 : Hid (VarB (W.setCell ⟨h + 2, 0, none⟩ (.int .i64 ((k : Int) + 1))) (h + 2) ((k : Int) + 1)) := Lib.hid (one_setCell h3)
  have I4 : Hid (VarB (W.setCell ⟨h + 2, 0, none⟩ (.int .i64 ((k : Int) + 1))) h (i : Nat)) := Lib.hid (h1.of (Below.heap_setCell _ _ _ _ (by show h ≠ h + 2; omega)))
  have N4 : Hid (VarB (W.setCell ⟨h + 2, 0, none⟩ (.int .i64 ((k : Int) + 1))) (h + 1) nn) := Lib.hid (h2.of (Below.heap_setCell _ _ _ _ (by show h + 1 ≠ h + 2; omega)))
  have O4 : Hid (OwnI (W.setCell ⟨h + 2, 0, none⟩ (.int .i64 ((k : Int) + 1))) U (.slice oa out.length oc) (ints out)) := Lib.hid (hO.other hU _)
  have A4 : Hid (∀ b, b ≠ h + 2 → (W.setCell ⟨h + 2, 0, none⟩ (.int .i64 ((k : Int) + 1))).heap[b]? = W.heap[b]?) := Lib.hid (fun b hb => Below.heap_setCell _ _ _ _ hb)
  have Z4 : Hid ((W.setCell ⟨h + 2, 0, none⟩ (.int .i64 ((k : Int) + 1))).heap.size = W.heap.size) := Lib.hid (by simp [World.setCell])
  have R4 : Hid ((W.setCell ⟨h + 2, 0, none⟩ (.int .i64 ((k : Int) + 1))).os = W.os ∧ (W.setCell ⟨h + 2, 0, none⟩ (.int .i64 ((k : Int) + 1))).tape = W.tape ∧ (W.setCell ⟨h + 2, 0, none⟩ (.int .i64 ((k : Int) + 1))).output = W.output) := Lib.hid ⟨rfl, rfl, rfl⟩
  have HBL := Lib.hid hblh
  clear h1 h2 h3 hb hO hblh
  go_enter Try.func17, Try.ntmps17
  go_upto_region 2 with fail
  obtain ⟨w4, hw4⟩ : ∃ x, W.setCell ⟨h + 2, 0, none⟩ (.int .i64 ((k : Int) + 1)) = x := ⟨_, rfl⟩
  rw [hw4] at H4 V4 I4 N4 O4 A4 Z4 R4 ⊢
  clear hw4 k3 f3 ow
  have zw4 : U ≤ w4.heap.size := by rw [Z4.out]; exact hUW
  have cb := cell_of_one H4.out
  have ci := cell_of_one I4.out
  have ow : Hid (w4.ownsRow U 3 1 (.slice oa out.length oc) out.length (ivals (ints out))) := Lib.hid (by have := O4.out; unfold OwnI at this; rwa [ints_len] at this)
  go_upto_region 3 with (at_builtin; refine wpList_append_own _ rfl (.tmp 7) (.tmp 9) 22 rfl U 3 i0 (.int .i64 0) 1 8 Try.underlying22 hi0 hz0 hz1 hz2 rfl (by decide) (.slice oa out.length oc) out.length (ivals (ints out)) rfl (ow.out.alloc _) ⟨w4.heap.size, 0, none⟩ 1 1 [.int .i64 i] rfl rfl (one_newi rfl) one_celli (by unfold maxLen; omega) (by omega) (by rw [World.size_alloc]; omega) ?_; intro v2 w5 O2 G2 _; have OH2 := Lib.hid O2; have GH2 := Lib.hid G2; clear O2 G2; have HB5 : Hid (w5.heap[bl]? = some (.cells #[.slice oa out.length oc] 22 (0, 0))) := Lib.hid (by rw [GH2.out.block bl (by rw [World.size_alloc]; omega) (fun e => by have := (ow.out.lt bl e.symm).1; omega), Below.heap_alloc _ _ _ (by omega)]; exact H4.out); have hown : OwnI w5 U v2 (ints (out ++ [i])) := (by rw [ints_append]; exact OwnI.push OH2.out (ints_len out)); have hlen : (ints (out ++ [i])).length = out.length + 1 := (by rw [ints_len, List.length_append]; rfl); obtain ⟨va, vc, rfl⟩ := hown.slice; rw [hlen] at hown ⊢; have HOWN := Lib.hid hown; have co5 := cell_of_one HB5.out; have fo5 := free_of_one HB5.out; clear hown hlen)
  have rb : ∀ k, (Value.slice oa out.length oc).ownBlock = some k → U ≤ k := fun k e => (ow.out.lt k e).1
  have A5 : Hid (∀ b, b < U → b ≠ bl → (w5.setCell ⟨bl, 0, none⟩ (.slice va (out.length + 1) vc)).heap[b]? = w4.heap[b]?) := Lib.hid (fun b hb hbl => by
    rw [Below.heap_setCell _ _ _ _ hbl, GH2.out.block b (by rw [World.size_alloc]; omega) (fun e => by have := rb b e.symm; omega), Below.heap_alloc _ _ _ (by omega)])
  have L5 : Hid ((w5.setCell ⟨bl, 0, none⟩ (.slice va (out.length + 1) vc)).heap[bl]? = some (.cells #[.slice va (out.length + 1) vc] 22 (0, 0))) := Lib.hid (one_setCell HB5.out)
  have O5 : Hid (OwnI (w5.setCell ⟨bl, 0, none⟩ (.slice va (out.length + 1) vc)) U (.slice va (out.length + 1) vc) (ints (out ++ [i]))) := Lib.hid (HOWN.out.other hbU _)
  have Z5 : Hid (w4.heap.size ≤ (w5.setCell ⟨bl, 0, none⟩ (.slice va (out.length + 1) vc)).heap.size) := Lib.hid (by have := GH2.out.size; rw [World.size_alloc] at this; simp [World.setCell]; omega)
  have R5 : Hid ((w5.setCell ⟨bl, 0, none⟩ (.slice va (out.length + 1) vc)).os = w4.os ∧ (w5.setCell ⟨bl, 0, none⟩ (.slice va (out.length + 1) vc)).tape = w4.tape ∧ (w5.setCell ⟨bl, 0, none⟩ (.slice va (out.length + 1) vc)).output = w4.output) := Lib.hid ⟨GH2.out.os, GH2.out.tape, GH2.out.output⟩
  obtain ⟨w6, hw6⟩ : ∃ x, w5.setCell ⟨bl, 0, none⟩ (.slice va (out.length + 1) vc) = x := ⟨_, rfl⟩
  rw [hw6] at A5 L5 O5 Z5 R5 ⊢
  clear hw6 co5 fo5 HB5 OH2 GH2 HOWN cb ci rb ow
  have hn1 : h + 1 ≠ bl := fun e => by have h1 := N4.out; have h2 := H4.out; unfold VarB at h1; rw [e] at h1; have := cells_type h1 h2; cases this
  have kk := cell_of_one (show w6.heap[h + 2]? = _ from (by rw [A5.out (h + 2) hU (Ne.symm HBL.out)]; exact V4.out))
  have kn := cell_of_one (show w6.heap[h + 1]? = _ from (by rw [A5.out (h + 1) (by omega) hn1]; exact N4.out))
  have JM : Hid (JMid W U bl h (.slice oa out.length oc) out i k w6) := Lib.hid ⟨_, L5.out, O5.out, by
      have := V4.out.of (A5.out (h + 2) hU (Ne.symm HBL.out))
      exact this, fun b h1 h2 h3 => by rw [A5.out b h1 h2, A4.out b h3], by have := Z5.out; have := Z4.out; omega, ⟨R5.out.1.trans R4.out.1, R5.out.2.1.trans R4.out.2.1, R5.out.2.2.trans R4.out.2.2⟩⟩
  clear hn1
  go_wp2
  refine bodyPost_ret (results_tmp rfl _ _ _) rfl ?_
  exact ⟨rfl, JM.out⟩

end Go.Proofs.Ytigokfcoofbdlaa
