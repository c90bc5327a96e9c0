/- The program: a step of Order's workers. -/
import Derived.Test.YtigokfcoofbdlaaS8
import Derived.OneCell
namespace Go.Proofs.Ytigokfcoofbdlaa
open Go.RowKit
set_option linter.unusedVariables false

/-- what holds between the steps of Order's workers: the blocks of its variables left and order, and the lists in them -/
structure IOrd (w0 : World) (bl bo : Nat) (la : Option Addr) (n lc u : Nat) (W : World) (L out : List Nat) : Prop where
  bel : Below w0.heap.size w0 W
  size : u < W.heap.size + 1
  ord : ∃ vo, W.heap[bo]? = some (.cells #[vo] 22 (0, 0)) ∧ OwnI W (u + 1) vo (ints out)
  left : W.heap[bl]? = some (.cells #[.slice la n lc] 22 (0, 0))
  own : OwnI W w0.heap.size (.slice la n lc) (ints L)
  len : L.length = n
theorem OwnI.keep {w w' : World} {base : Nat} {v : Value} {l : List Int} {r : Option Nat} (h : OwnI w base v l) (hg : w.grownBy w' r) (hr : v.ownBlock = none ∨ v.ownBlock ≠ r) : OwnI w' base v l := World.ownsRow.kept h hg hr
theorem OwnI.lt {w : World} {base : Nat} {v : Value} {l : List Int} (h : OwnI w base v l) : ∀ k, v.ownBlock = some k → base ≤ k ∧ k < w.heap.size := World.ownsRow.lt h
set_option maxHeartbeats 2000000 in
set_option maxRecDepth 100000 in
theorem step_c (w0 : World) (bl bo : Nat) (la : Option Addr) (n lc u : Nat) (hb1 : w0.heap.size ≤ bl) (hb2 : bl < bo) (hb3 : bo < u) (hla : ∀ k, (Value.slice la n lc).ownBlock = some k → k < bl) (W : World) (L out : List Nat) (i : Nat) (hI : IOrd w0 bl bo la n lc u W L out) (hi : i < L.length) (hp : 0 < L.getD i 0) (hs : L.sum + out.length ≤ 600) (hu : u < W.heap.size) :
    Calls Try.prog 24 (#[.int .i64 (i : Nat)] ++ #[.pointer (some ⟨bo, 0, none⟩), .pointer (some ⟨bl, 0, none⟩)]) W fun e w' => e = .returned (.bool (decide (L.getD i 0 = 1))) ∧ IOrd w0 bl bo la n lc u w' (dec L i) (out ++ [i]) ∧ w'.heap[u]? = W.heap[u]? ∧ W.heap.size ≤ w'.heap.size := by
  obtain ⟨i0, hi0, hz0, hz1, hz2⟩ := info_parts info3z
  obtain ⟨hbel, hsz, ⟨vo, ho1, ho2⟩, hl1, hl2, hln⟩ := hI
  rw [hln] at hi
  obtain ⟨g, rfl⟩ := own_some hl2 (by omega)
  have hgb := hla g rfl
  have hg0 := (hl2.lt g rfl).1
  have HLN := Lib.hid hln
  have hyl : L.getD i 0 ≤ 600 := by have := getD_le_sum L i; omega
  obtain ⟨y, hy⟩ : ∃ y, L.getD i 0 = y := ⟨_, rfl⟩
  have HY := Lib.hid hy
  rw [hy] at hp hyl ⊢
  have hol : out.length ≤ 600 := by omega
  clear hy hs hla hln
  have co := cell_of_one ho1
  have fo := free_of_one ho1
  have BEL := Lib.hid hbel; have HO1 := Lib.hid ho1; have HO2 := Lib.hid ho2; have HL1 := Lib.hid hl1; have HL2 := Lib.hid hl2
  clear hbel ho1 ho2 hl1 hl2
  obtain ⟨oa, oc, rfl⟩ := HO2.out.slice
  rw [ints_len] at *
  show Calls Try.prog 24 #[.int .i64 (i : Nat), .pointer (some ⟨bo, 0, none⟩), .pointer (some ⟨bl, 0, none⟩)] W _
  go_enter Try.func24, Try.ntmps24
  have ow : Hid (W.ownsRow (u + 1) 3 1 (.slice oa out.length oc) out.length (ivals (ints out))) := Lib.hid (by have := HO2.out; unfold OwnI at this; rwa [ints_len] at this)
  go_upto_region 2 with (at_builtin; refine wpList_append_own _ rfl (.tmp 5) (.tmp 7) 22 rfl (u + 1) 3 i0 (.int .i64 0) 1 8 Try.underlying22 hi0 hz0 hz1 hz2 rfl (by decide) _ _ _ rfl (ow.out.alloc _) ⟨W.heap.size, 0, none⟩ 1 1 [.int .i64 i] rfl rfl (one_newi rfl) one_celli (by unfold maxLen; omega) (by omega) (by rw [World.size_alloc]; omega) ?_; intro v2 w3 O2 G2 _; have OH2 := Lib.hid O2; have GH2 := Lib.hid G2; clear O2 G2; have HB3 : Hid (w3.heap[bo]? = some (.cells #[.slice oa out.length oc] 22 (0, 0))) := Lib.hid (by rw [GH2.out.block bo (by rw [World.size_alloc]; omega) (fun e => by have := (ow.out.lt bo e.symm).1; omega), Below.heap_alloc _ _ _ (by omega)]; exact HO1.out); have hown : OwnI w3 (u + 1) v2 (ints (out ++ [i])) := (by rw [ints_append]; exact OwnI.push OH2.out (ints_len out)); have hlen : (ints (out ++ [i])).length = out.length + 1 := (by rw [ints_len, List.length_append]; rfl); obtain ⟨va, vc, rfl⟩ := hown.slice; rw [hlen] at hown ⊢; have HOWN := Lib.hid hown; have co3 := cell_of_one HB3.out; have fo3 := free_of_one HB3.out; clear hown hlen)
  have rb : ∀ k, some k = (Value.slice oa out.length oc).ownBlock → u + 1 ≤ k := fun k e => (ow.out.lt k e.symm).1
  have A4 : Hid (∀ k, k < W.heap.size → k ≤ u → k ≠ bo → (w3.setCell ⟨bo, 0, none⟩ (.slice va (out.length + 1) vc)).heap[k]? = W.heap[k]?) := Lib.hid (fun k h1 h2 h3 => by
    rw [Below.heap_setCell _ _ _ _ h3, GH2.out.block k (by rw [World.size_alloc]; omega) (fun e => by have := rb k e; omega), Below.heap_alloc _ _ _ h1])
  have SZ4 : Hid (W.heap.size ≤ (w3.setCell ⟨bo, 0, none⟩ (.slice va (out.length + 1) vc)).heap.size) := Lib.hid (by have := GH2.out.size; rw [World.size_alloc] at this; simp [World.setCell]; omega)
  have BEL4 : Hid (Below w0.heap.size w0 (w3.setCell ⟨bo, 0, none⟩ (.slice va (out.length + 1) vc))) := Lib.hid
    (((BEL.out.alloc (o := .cells #[.int .i64 i] 3) BEL.out.size).grown GH2.out (by rw [World.size_alloc]; have := BEL.out.size; omega) (by intro k hk; have := rb k hk.symm; omega)).setCell (p := ⟨bo, 0, none⟩) (by show w0.heap.size ≤ bo; omega) _)
  have HO4 : Hid ((w3.setCell ⟨bo, 0, none⟩ (.slice va (out.length + 1) vc)).heap[bo]? = some (.cells #[.slice va (out.length + 1) vc] 22 (0, 0))) := Lib.hid (one_setCell HB3.out)
  have OWN4 : Hid (OwnI (w3.setCell ⟨bo, 0, none⟩ (.slice va (out.length + 1) vc)) (u + 1) (.slice va (out.length + 1) vc) (ints (out ++ [i]))) := Lib.hid (ownsRow_setCell_other HOWN.out (a := ⟨bo, 0, none⟩) (fun e => by have := (HOWN.out.lt bo e).1; omega) _)
  have L4 : Hid (OwnI (w3.setCell ⟨bo, 0, none⟩ (.slice va (out.length + 1) vc)) w0.heap.size (.slice (some ⟨g, 0, none⟩) n lc) (ints L)) := Lib.hid (ownsRow_setCell_other (OwnI.grown (HL2.out.below ((Below.refl _ _).alloc (Nat.le_refl _) _)) GH2.out (fun k hk e => by have h1 := rb k hk.symm; have e' : g = k := Option.some.inj e; omega)) (a := ⟨bo, 0, none⟩) (fun e => by have e' : g = bo := Option.some.inj e; omega) _)
  obtain ⟨w4, hw4⟩ : ∃ x, w3.setCell ⟨bo, 0, none⟩ (.slice va (out.length + 1) vc) = x := ⟨_, rfl⟩
  rw [hw4] at A4 SZ4 BEL4 HO4 OWN4 L4 ⊢
  clear hw4 co fo co3 fo3 HB3 OH2 GH2 HOWN ow rb
  have HB4 : Hid (w4.heap[bl]? = some (.cells #[.slice (some ⟨g, 0, none⟩) n lc] 22 (0, 0))) := Lib.hid (by rw [A4.out bl (by omega) (by omega) (by omega)]; exact HL1.out)
  have cl4 := cell_of_one HB4.out
  have kl := own_cell L4.out (by rw [ints_len, HLN.out]) hi
  rw [ints_at, HY.out] at kl
  have fl := own_frozen L4.out i
  have pw : wrap64 ((y : Int) - 1) = (y : Int) - 1 := by unfold wrap64; omega
  go_upto_region 3 with fail
  have B5 : Hid (Below w0.heap.size w0 (w4.setCell ⟨g, i, none⟩ (.int .i64 ((y : Int) - 1)))) := Lib.hid (BEL4.out.setCell (p := ⟨g, i, none⟩) hg0 _)
  have A5 : Hid (∀ k, k ≠ g → (w4.setCell ⟨g, i, none⟩ (.int .i64 ((y : Int) - 1))).heap[k]? = w4.heap[k]?) := Lib.hid (fun k h1 => Below.heap_setCell _ _ _ _ h1)
  have SZ5 : Hid (w4.heap.size ≤ (w4.setCell ⟨g, i, none⟩ (.int .i64 ((y : Int) - 1))).heap.size) := Lib.hid (by simp [World.setCell])
  have L5 : Hid (OwnI (w4.setCell ⟨g, i, none⟩ (.int .i64 ((y : Int) - 1))) w0.heap.size (.slice (some ⟨g, 0, none⟩) n lc) (ints (dec L i))) := Lib.hid (by rw [ints_dec (by rw [HY.out]; exact hp), HY.out]; exact L4.out.set (by rw [ints_len, HLN.out]) hi _)
  have O5 : Hid (OwnI (w4.setCell ⟨g, i, none⟩ (.int .i64 ((y : Int) - 1))) (u + 1) (.slice va (out.length + 1) vc) (ints (out ++ [i]))) := Lib.hid (OWN4.out.other (by omega) _)
  have gn : Hid (bo ≠ g ∧ bl ≠ g ∧ u ≠ g) := Lib.hid ⟨by omega, by omega, by omega⟩
  have kl5 := own_cell L5.out (by rw [ints_len, dec_len, HLN.out]) hi
  rw [ints_at, dec_at (by rw [HLN.out]; exact hi), if_pos rfl, HY.out] at kl5
  obtain ⟨w5, hw5⟩ : ∃ x, w4.setCell ⟨g, i, none⟩ (.int .i64 ((y : Int) - 1)) = x := ⟨_, rfl⟩
  rw [hw5] at B5 A5 SZ5 L5 O5 kl5 ⊢
  clear hw5 kl fl cl4
  have HB5 : Hid (w5.heap[bl]? = some (.cells #[.slice (some ⟨g, 0, none⟩) n lc] 22 (0, 0))) := Lib.hid (by rw [A5.out bl gn.out.2.1]; exact HB4.out)
  have HO5 : Hid (w5.heap[bo]? = some (.cells #[.slice va (out.length + 1) vc] 22 (0, 0))) := Lib.hid (by rw [A5.out bo gn.out.1]; exact HO4.out)
  have cl5 := cell_of_one HB5.out
  have hz : Hid (w5.heap[u]? = W.heap[u]? ∧ W.heap.size ≤ w5.heap.size) := Lib.hid ⟨by rw [A5.out u gn.out.2.2, A4.out u hu (Nat.le_refl _) (by omega)], Nat.le_trans SZ4.out SZ5.out⟩
  have hyy : ((y - 1 : Nat) : Int) = (y : Int) - 1 := by omega
  rw [hyy] at kl5
  clear hyy HB4 HO4 A4 A5 L4 OWN4 BEL4 SZ4 BEL HL1 HL2 HO1 HO2 hb1 hb2 hb3 hsz
  by_cases h1 : y = 1
  · have ht : decide (y = 1) = true := by rw [h1]; rfl
    have HT := Lib.hid ht
    have hyi : (y : Int) - 1 = 0 := by omega
    rw [hyi] at kl5
    clear h1 ht hyi
    go_wp2
    refine bodyPost_ret (results_tmp rfl _ _ _) rfl ?_
    exact ⟨by rw [HT.out]; rfl, ⟨B5.out, by have := hz.out.2; omega, ⟨_, HO5.out, O5.out⟩, HB5.out, L5.out, by rw [dec_len]; exact HLN.out⟩, hz.out.1, hz.out.2⟩
  · have ht : decide (y = 1) = false := by rw [decide_eq_false_iff_not]; exact h1
    have HT := Lib.hid ht
    obtain ⟨q, hq⟩ : ∃ q : Nat, (y : Int) - 1 = (q : Int) := ⟨y - 1, by omega⟩
    have hq0 : ((q : Int) == 0) = false := by rw [beq_eq_false_iff_ne]; omega
    rw [hq] at kl5 ⊢
    clear h1 ht hq
    go_wp2
    refine bodyPost_ret (results_tmp rfl _ _ _) rfl ?_
    exact ⟨by rw [HT.out]; rfl, ⟨B5.out, by have := hz.out.2; omega, ⟨_, HO5.out, O5.out⟩, HB5.out, L5.out, by rw [dec_len]; exact HLN.out⟩, hz.out.1, hz.out.2⟩

end Go.Proofs.Ytigokfcoofbdlaa
