/- The program: Join and Clone over workers. -/
import Derived.Test.YtigokfcoofbdlaaJ1
namespace Go.Proofs.Ytigokfcoofbdlaa
open Go.RowKit
set_option linter.unusedVariables false

set_option maxHeartbeats 2000000 in
set_option maxRecDepth 100000 in
theorem jstep0_c (bj : Nat) (ra : Option Addr) (rc : Nat) (W : World) (hb : W.heap[bj]? = some (.cells #[.slice ra 0 rc] 60 (0, 0))) :
    Calls Try.prog 48 #[.pointer (some ⟨bj, 0, none⟩)] W fun e w' => e = .returned (.bool true) ∧ W = w' := by
  have kj := cell_of_one hb
  clear hb
  go_enter Try.func48, Try.ntmps48
  go_wp2
  refine bodyPost_ret (results_tmp rfl _ _ _) rfl ?_
  exact ⟨rfl, rfl⟩
/-- what a copy of workers is -/
def WClone (w : World) (n : Nat) (V : List Value) (e : Ending) (w' : World) : Prop := ∃ a c, e = .returned (.slice a n c) ∧ SlV w' a n c V ∧ (∀ x, a = some x → x.block < w'.heap.size) ∧ Below w.heap.size w w'
set_option maxHeartbeats 2000000 in
set_option maxRecDepth 100000 in
theorem wclone_c (ad : Option Addr) (n cap : Nat) (V : List Value) (w : World) (hV : V.length = n) (h1 : ∀ u ∈ V, u.oneCell' = true) (hz : ad = none → n = 0 ∧ cap = 0) (hsrc : ∀ x, ad = some x → ∀ j u, V[j]? = some u → w.cell? (x.add j) = some u) (hn : n ≤ 1000) :
    Calls Try.prog 29 #[.slice ad n cap] w fun e w' => WClone w n V e w' := by
  obtain ⟨i0, hi, hz0, hz1, hz2⟩ := info_parts info38z
  have HZ := Lib.hid hz
  have HS := Lib.hid hsrc
  have H1 := Lib.hid h1
  have HV := Lib.hid hV
  clear hz hsrc h1 hV
  have qT : ∀ (w : World) (a : Option Addr) (n c n' c' : Nat), (binOp .eql 31 (.slice a n c) (.slice none n' c')).run Try.prog w = .ok (.bool a.isNone) w := fun w a n c n' c' => Lib.run_eql_slice_nil w _ _ a n c n' c' Try.underlying31
  cases ad with
  | none =>
    obtain ⟨rfl, rfl⟩ := HZ.out rfl
    obtain rfl : V = [] := List.eq_nil_of_length_eq_zero HV.out
    go_enter Try.func29, Try.ntmps29
    go_wp2
    refine bodyPost_ret (results_tmp rfl _ _ _) rfl ?_
    exact ⟨none, 0, rfl, ⟨rfl, by omega, by omega, .inl rfl⟩, (fun x hx => by cases hx), Below.refl _ _⟩
  | some y =>
    have OH : Hid ((w.alloc (.cells #[] 38)).ownsRow w.heap.size 38 1 (.slice (some ⟨w.heap.size, 0, none⟩) 0 0) 0 []) := Lib.hid (World.ownsRow_made w #[] 0 (Nat.le_refl _) (by unfold maxLen; omega) rfl)
    have SA : Hid (∀ j u, V[j]? = some u → (w.alloc (.cells #[] 38)).cell? (y.add j) = some u) := Lib.hid (fun j u hu => by
      have := HS.out y rfl j u hu
      rw [World.cell?_alloc_some _ _ _ (by rw [this]; rfl)]; exact this)
    have HL : Hid (V.length = n * 1) := Lib.hid (by rw [HV.out]; omega)
    go_enter Try.func29, Try.ntmps29
    go_wp2_with (at_builtin; refine wpList_append_own _ rfl (.tmp 5) (.tmp 6) 31 rfl w.heap.size 38 i0 .nilIface 1 16 Try.underlying31 hi hz0 hz1 hz2 rfl (by decide) (.slice (some ⟨w.heap.size, 0, none⟩) 0 0) 0 [] rfl OH.out y n cap V rfl HL.out SA.out H1.out (by unfold maxLen; omega) (by omega) (by rw [World.size_alloc]; omega) ?_; intro v1 w2 O1 G1 _; rw [Nat.zero_add, List.nil_append] at O1; have OA := Lib.hid O1; have BA : Hid (Below w.heap.size w w2) := Lib.hid (((Below.refl w.heap.size w).alloc (o := .cells #[] 38) (Nat.le_refl _)).grown G1 (by rw [World.size_alloc]; omega) (fun k hk => by have e' := Option.some.inj (show some w.heap.size = some k from hk); omega)); clear O1 G1)
    have hf : ∃ va vc, v1 = .slice va n vc ∧ SlV w2 va n vc V ∧ ∀ x, va = some x → x.block < w2.heap.size := by
      have hO := OA.out
      rcases id hO.2 with ⟨hv, h0⟩ | ⟨g, cp, cur, hv, hg, hh, r1, r2, _⟩
      · have hn0 : n = 0 := h0
        subst hn0
        exact ⟨none, 0, hv, ⟨HV.out, by omega, by omega, .inl rfl⟩, fun x hx => by cases hx⟩
      · refine ⟨some ⟨g, 0, none⟩, cp, hv, ⟨HV.out, r1, by unfold maxLen at r2; omega, .inr ⟨g, 0, cur, rfl, hh, fun i hi => ?_⟩⟩, fun x hx => by cases hx; exact lt_of_block hh⟩
        have := World.ownsRow.cells hO (g := g) (by rw [hv]; rfl) i (V.getD i .nilIface) (by have := HV.out; rw [List.getD_eq_getElem?_getD, List.getElem?_eq_getElem (by omega)]; rfl)
        rw [Addr.add_mid] at this
        exact this
    obtain ⟨va, vc, rfl, hsv, hlt⟩ := hf
    have HSV := Lib.hid hsv
    have HLT := Lib.hid hlt
    clear hsv hlt OA OH
    go_wp2
    refine bodyPost_ret (results_tmp rfl _ _ _) rfl ?_
    exact ⟨va, vc, rfl, HSV.out, HLT.out, BA.out⟩
/-- what Join answers -/
def JoinSays (w : World) (n : Nat) (V : List Value) (e : Ending) (w' : World) : Prop :=
  ∃ bj ra rc, e = .returned (.iface 57 (.pointer (some ⟨bj, 0, none⟩))) ∧ w'.heap[bj]? = some (.cells #[.slice ra n rc] 60 (0, 0)) ∧ SlV w' ra n rc V ∧ (∀ x, ra = some x → x.block < bj) ∧ Below w.heap.size w w' ∧ w.heap.size ≤ bj ∧ w'.heap.size = bj + 1
set_option maxHeartbeats 2000000 in
set_option maxRecDepth 100000 in
theorem join_c (ad : Option Addr) (n cap : Nat) (V : List Value) (w : World) (hV : V.length = n) (h1 : ∀ u ∈ V, u.oneCell' = true) (hz : ad = none → n = 0 ∧ cap = 0) (hsrc : ∀ x, ad = some x → ∀ j u, V[j]? = some u → w.cell? (x.add j) = some u) (hn : n ≤ 1000) :
    Calls Try.prog 18 #[.slice ad n cap] w fun e w' => JoinSays w n V e w' := by
  have HC := Lib.hid (wclone_c ad n cap V w hV h1 hz hsrc hn)
  clear hV h1 hz hsrc hn
  go_enter Try.func18, Try.ntmps18
  go_wp2_with fail
  refine HC.out.mono ?_
  rintro e w1 ⟨a, c, rfl, hsv, hlt, hb⟩
  have JS1 : Hid (JoinSays w n V (.returned (.iface 57 (.pointer (some ⟨w1.heap.size, 0, none⟩)))) (w1.alloc (.cells #[.slice a n c] 60))) := Lib.hid
    ⟨w1.heap.size, a, c, rfl, heap_alloc_new w1 _, hsv.of (fun g o hg => Below.heap_alloc _ _ _ (hlt _ hg)), hlt, hb.alloc hb.size _, hb.size, by simp⟩
  clear hsv hlt hb HC
  go_wp2
  refine bodyPost_ret (results_tmp rfl _ _ _) rfl ?_
  exact JS1.out

end Go.Proofs.Ytigokfcoofbdlaa
