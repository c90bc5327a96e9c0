/- A step of a counter. -/
import Derived.Test.YtigokfcoofbdlaaS14
import Derived.Deep.AppendLies
namespace Go.Proofs.Ytigokfcoofbdlaa
open Go.RowKit
set_option linter.unusedVariables false

/-- what the first statement of a counter's step leaves: the log has grown -/
def Mid (W : World) (base bg c i : Nat) (x : Int) (vo : Value) (out : List Nat) (wx : World) : Prop :=
  ∃ (g cap : Nat), wx.heap[bg]? = some (.cells #[.slice (some ⟨g, 0, none⟩) (out.length + 1) cap] 22 (0, 0)) ∧ OwnI wx base (.slice (some ⟨g, 0, none⟩) (out.length + 1) cap) (ints (out ++ [i])) ∧ CBlk wx bg c i x ∧
    (∀ k, k < W.heap.size → k ≠ bg → some k ≠ vo.ownBlock → wx.heap[k]? = W.heap[k]?) ∧ W.heap.size ≤ wx.heap.size ∧ (wx.os = W.os ∧ wx.tape = W.tape ∧ wx.output = W.output) ∧ (vo.ownBlock = some g ∨ W.heap.size ≤ g)
theorem cells_type {w : World} {k : Nat} {a b : Array Value} {s t : TypeId} {f g : Nat × Nat} (h1 : w.heap[k]? = some (.cells a s f)) (h2 : w.heap[k]? = some (.cells b t g)) : s = t := by
  rw [h1] at h2
  injection h2 with h2
  injection h2
theorem own_type {w : World} {base k n : Nat} {e : TypeId} {v : Value} {xs : List Value} {a : Array Value} {t : TypeId} {f : Nat × Nat} (h : w.ownsRow base e 1 v n xs) (hk : v.ownBlock = some k) (h2 : w.heap[k]? = some (.cells a t f)) : e = t := by
  rcases h.2 with ⟨rfl, _⟩ | ⟨g, cap, cur, rfl, _, hh, _⟩
  · cases hk
  · have e1 : g = k := Option.some.inj hk
    rw [e1] at hh
    exact cells_type hh h2
theorem mid_of {W w3 : World} {base bg c i g cap : Nat} {x : Int} {vo : Value} {out : List Nat} {o : Obj} (hO : OwnI W base vo (ints out)) (hb : W.heap[bg]? = some (.cells #[vo] 22 (0, 0))) (hc : CBlk W bg c i x)
    (h1 : w3.ownsRow base 3 1 (.slice (some ⟨g, 0, none⟩) (out.length + 1) cap) (out.length + 1) (ivals (ints out) ++ [.int .i64 (i : Nat)])) (hg : (W.drew.alloc o).grownBy w3 vo.ownBlock) (ha : vo.ownBlock = some g ∨ g = W.heap.size + 1) :
    Mid W base bg c i x vo out (w3.setCell ⟨bg, 0, none⟩ (.slice (some ⟨g, 0, none⟩) (out.length + 1) cap)) ∧ w3.heap[bg]? = some (.cells #[vo] 22 (0, 0)) ∧ CBlk w3 bg c i x := by
  have lb := lt_of_block hb
  have lc := hc.lt
  have nb : ∀ k, vo.ownBlock = some k → k ≠ bg := fun k hk e => by
    rw [e] at hk
    have := own_type hO hk hb
    cases this
  have nc : ∀ k, vo.ownBlock = some k → k ≠ c := fun k hk e => by
    rw [e] at hk
    have := own_type hO hk hc
    cases this
  have ncb : c ≠ bg := fun e => by
    unfold CBlk at hc
    rw [e] at hc
    have := cells_type hb hc
    cases this
  have k3 : ∀ k, k < W.heap.size → some k ≠ vo.ownBlock → w3.heap[k]? = W.heap[k]? := fun k hk hn => by
    rw [hg.block k (by rw [World.size_alloc]; show k < W.heap.size + 1; omega) hn]; exact Below.heap_alloc W.drew o k hk
  have b3 : w3.heap[bg]? = some (.cells #[vo] 22 (0, 0)) := by rw [k3 bg lb (fun e => nb bg e.symm rfl)]; exact hb
  have c3 : CBlk w3 bg c i x := hc.of (k3 c lc (fun e => nc c e.symm rfl))
  have hgb : g ≠ bg := by
    rcases ha with h | h
    · exact nb g h
    · omega
  have sz : W.heap.size + 1 ≤ w3.heap.size := by have := hg.size; rw [World.size_alloc] at this; exact this
  refine ⟨⟨g, cap, one_setCell b3, ?_, c3.of (Below.heap_setCell _ _ _ _ ncb), fun k hk h1 h2 => by rw [Below.heap_setCell _ _ _ _ h1]; exact k3 k hk h2, by simp [World.setCell]; omega, ⟨hg.os, hg.tape, hg.output⟩, ?_⟩, b3, c3⟩
  · have h5 := OwnI.push h1 (ints_len out)
    have h6 : OwnI w3 base (.slice (some ⟨g, 0, none⟩) (out.length + 1) cap) (ints (out ++ [i])) := by rw [ints_append]; exact h5
    exact ownsRow_setCell_other h6 (a := ⟨bg, 0, none⟩) (fun e => hgb (Option.some.inj e)) _
  · rcases ha with h | h
    · exact .inl h
    · exact .inr (by omega)
theorem news_one {W : World} {x : Int} {t : TypeId} : ∀ j u, [Value.int .i64 x][j]? = some u → (W.drew.alloc (.cells #[.int .i64 x] t)).cell? ((⟨W.heap.size, 0, none⟩ : Addr).add j) = some u :=
  wone_new (w := W.drew) rfl rfl t
set_option maxHeartbeats 4000000 in
set_option maxRecDepth 100000 in
theorem count_c (base bg c i y : Nat) (vo : Value) (out : List Nat) (W : World) (hb : W.heap[bg]? = some (.cells #[vo] 22 (0, 0))) (hO : OwnI W base vo (ints out)) (hc : CBlk W bg c i (y : Nat)) (hy0 : 0 < y) (hy : y ≤ 600) (ho : out.length ≤ 600) (hbase : base ≤ W.heap.size) :
    Calls Try.prog 47 #[.pointer (some ⟨c, 0, none⟩)] W fun e w' => e = .returned (.bool (decide (y = 1))) ∧ ∃ w1, Mid W base bg c i (y : Nat) vo out w1 ∧ w' = w1.setCell ⟨c, 1, none⟩ (.int .i64 ((y : Int) - 1)) := by
  obtain ⟨i0, hi0, hz0, hz1, hz2⟩ := info_parts info3z
  obtain ⟨oa, oc, hvo⟩ := hO.slice
  rw [ints_len] at hvo
  subst hvo
  have ow : Hid (W.ownsRow base 3 1 (.slice oa out.length oc) out.length (ivals (ints out))) := Lib.hid (by have := hO; unfold OwnI at this; rwa [ints_len] at this)
  have cb := cell_of_one hb
  have k0 : W.cell? ⟨c, 0, none⟩ = some (.int .i64 (i : Nat)) := by rw [cell_of_row W c 0 _ 54 (0, 0) hc]; rfl
  have k2 : W.cell? ⟨c, 2, none⟩ = some (.pointer (some ⟨bg, 0, none⟩)) := by rw [cell_of_row W c 2 _ 54 (0, 0) hc]; rfl
  have lc := hc.lt
  have lb := lt_of_block hb
  have HB := Lib.hid hb; have HO := Lib.hid hO; have HC := Lib.hid hc
  clear hb hO hc
  go_enter Try.func47, Try.ntmps47
  go_upto_region 1 with fail
  go_cut [18] (fun _ wx => Mid W base bg c i (y : Nat) (.slice oa out.length oc) out wx)
  case first =>
    go_region_law (refine step_append_lies (w := W.drew.alloc (.cells #[.int .i64 (i : Nat)] 3)) rfl (.tmp 12) (.tmp 17) 22 rfl base 3 i0 (.int .i64 0) 1 8 Try.underlying22 hi0 hz0 hz1 hz2 rfl (by decide) (.slice oa out.length oc) out.length (ivals (ints out)) (by simp [Act.eval]) ((World.ownsRow.drew ow.out).alloc _) ⟨W.heap.size, 0, none⟩ 1 1 [.int .i64 (i : Nat)] (by simp [Act.eval]) rfl news_one one_celli (by decide) (by unfold maxLen; omega) (by omega) (by simp; omega) (W.heap.size + 1) (by simp) ?_; intro g2 cap2 w3 O2 G2 A2 L2; obtain ⟨M1, M2, M3⟩ := mid_of HO.out HB.out HC.out O2 G2 A2; have co3 := cell_of_one M2; have fo3 := free_of_one M2; have k23 : w3.cell? ⟨c, 2, none⟩ = some (.pointer (some ⟨bg, 0, none⟩)) := (by rw [cell_of_row w3 c 2 _ 54 (0, 0) M3]; rfl); have MM := Lib.hid M1; clear M1 M2 M3 O2 G2 A2 L2)
    all_goals
      go_wp2_with fail
      go_meet
      case rel => exact MM.out
  case rest =>
    have MM := Lib.hid hcut
    clear hcut cb k0 k2
    have hcx : CBlk wc bg c i (y : Nat) := by obtain ⟨_, _, _, _, h, _⟩ := MM.out; exact h
    have k1 : wc.cell? ⟨c, 1, none⟩ = some (.int .i64 (y : Nat)) := by rw [cell_of_row wc c 1 _ 54 (0, 0) hcx]; rfl
    have f1 : wc.frozen? ⟨c, 1, none⟩ = false := frozen_of_row wc c 1 _ 54 hcx
    clear hcx
    have pw : wrap64 ((y : Int) - 1) = (y : Int) - 1 := by unfold wrap64; omega
    by_cases h1 : y = 1
    · have HT : Hid (decide (y = 1) = true) := Lib.hid (by rw [h1]; rfl)
      have hle : (y : Int) - 1 ≤ 0 := by omega
      clear h1
      go_wp2
      refine bodyPost_ret (results_tmp rfl _ _ _) rfl ?_
      exact ⟨by rw [HT.out]; rfl, wc, MM.out, rfl⟩
    · have HT : Hid (decide (y = 1) = false) := Lib.hid (by rw [decide_eq_false_iff_not]; exact h1)
      have hle : ¬ (y : Int) - 1 ≤ 0 := by omega
      clear h1
      go_wp2
      refine bodyPost_ret (results_tmp rfl _ _ _) rfl ?_
      exact ⟨by rw [HT.out]; rfl, wc, MM.out, rfl⟩

end Go.Proofs.Ytigokfcoofbdlaa
