/- The law's crew of counters. -/
import Derived.Test.YtigokfcoofbdlaaS13
import Derived.Handy
namespace Go.Proofs.Ytigokfcoofbdlaa
open Go.RowKit
set_option linter.unusedVariables false

theorem info38z : (Try.prog.info? 38).map (fun i => (i.zero, i.size, i.bytes)) = some (some .nilIface, 1, 16) := by kernel_rfl
/-- the workers as values: counters in the blocks C -/
def wvals (C : List Nat) : List Value := C.map fun c => .iface 52 (.pointer (some ⟨c, 0, none⟩))
theorem wvals_len (C : List Nat) : (wvals C).length = C.length := by simp [wvals]
theorem wvals_at {C : List Nat} {i : Nat} (h : i < C.length) : (wvals C)[i]? = some (.iface 52 (.pointer (some ⟨C.getD i 0, 0, none⟩))) := by simp [wvals, h]
/-- counter i in block c -/
def CBlk (w : World) (bg c i : Nat) (x : Int) : Prop := w.heap[c]? = some (.cells #[.int .i64 (i : Nat), .int .i64 x, .pointer (some ⟨bg, 0, none⟩)] 54 (0, 0))
theorem CBlk.of {w w' : World} {bg c i : Nat} {x : Int} (h : CBlk w bg c i x) (e : w'.heap[c]? = w.heap[c]?) : CBlk w' bg c i x := by unfold CBlk; rw [e]; exact h
theorem CBlk.lt {w : World} {bg c i : Nat} {x : Int} (h : CBlk w bg c i x) : c < w.heap.size := (Array.getElem?_eq_some_iff.1 h).1
/-- what crew has made of the first i counts -/
structure CrewP (w : World) (bg : Nat) (l : List Int) (C : List Nat) (W : World) : Prop where
  bel : Below w.heap.size w W
  log : W.heap[bg]? = some (.cells #[.slice (some ⟨w.heap.size, 0, none⟩) 0 0] 22 (0, 0))
  owl : OwnI W w.heap.size (.slice (some ⟨w.heap.size, 0, none⟩) 0 0) []
  cnt : ∀ k, k < C.length → bg < C.getD k 0 ∧ CBlk W bg (C.getD k 0) k (l.getD k 0)
  inj : ∀ j k, j < C.length → k < C.length → C.getD j 0 = C.getD k 0 → j = k
theorem CrewP.keep {w W W' : World} {bg : Nat} {l : List Int} {C : List Nat} {r : Option Nat} (h : CrewP w bg l C W) (hg : W.grownBy W' r) (hw : w.heap.size ≤ W.heap.size) (hbg : bg = w.heap.size + 1) (hr : ∀ k, r = some k → bg < k ∧ ∀ j, j < C.length → C.getD j 0 ≠ k) : CrewP w bg l C W' := by
  have hr2 : ∀ k, r = some k → bg < k := fun k e => (hr k e).1
  refine ⟨h.bel.grown hg hw (fun k hk => by have := hr2 k hk; omega), ?_, ?_, fun k hk => ⟨(h.cnt k hk).1, (h.cnt k hk).2.of ?_⟩, h.inj⟩
  · rw [hg.block bg (lt_of_block h.log) (fun e => by have := hr2 bg e.symm; omega)]; exact h.log
  · exact h.owl.keep hg (.inr (fun e => by have h1 := hr2 _ e.symm; have h2 : bg < w.heap.size := h1; omega))
  · exact hg.block _ (h.cnt k hk).2.lt (fun e => (hr _ e.symm).2 k hk rfl)
/-- what crew answers -/
def CrewSays (w : World) (bg : Nat) (l : List Int) (n : Nat) (e : Ending) (w' : World) : Prop := ∃ (C : List Nat) (a : Option Addr) (c : Nat), e = .returned (.tuple #[.slice a n c, .pointer (some ⟨bg, 0, none⟩)]) ∧ C.length = n ∧ CrewP w bg l C w' ∧ w'.ownsRow (bg + 1) 38 1 (.slice a n c) n (wvals C)
theorem wone_new {w : World} {v : Value} {g : Nat} (hv : v.oneCell' = true) (hg : g = w.heap.size) (t : TypeId) : ∀ j u, [v][j]? = some u → (w.alloc (.cells #[v] t)).cell? ((⟨g, 0, none⟩ : Addr).add j) = some u := by
  subst hg
  intro j u h
  match j, h with
  | 0, h =>
    simp at h; subst h
    rw [Addr.add_mid, cell_of_row _ w.heap.size 0 #[v] t (0, 0) (heap_alloc_new w _)]; rfl
set_option maxHeartbeats 2000000 in
set_option maxRecDepth 100000 in
theorem crew_c (ad : Option Addr) (n cap : Nat) (l : List Int) (w : World) (hs : SlI w ad n cap l) (hn : n ≤ 12) :
    Calls Try.prog 14 #[.slice ad n cap] w fun e w' => CrewSays w (w.heap.size + 1) l n e w' := by
  obtain ⟨i0, hi, hz0, hz1, hz2⟩ := info_parts info38z
  have HS := Lib.hid hs; clear hs
  obtain ⟨bg, hbg⟩ : ∃ x, w.heap.size + 1 = x := ⟨_, rfl⟩
  rw [hbg]
  have HBG := Lib.hid hbg; clear hbg
  go_enter Try.func14, Try.ntmps14
  go_wp2
  rw [HBG.out]
  go_loopw [5, 12] (fun s5 s wr => ∃ (i : Nat) (C : List Nat) (a : Option Addr) (c : Nat), i ≤ n ∧ s5 = .slice a i c ∧ s = .int .i64 (i : Nat) ∧ Hid (C.length = i) ∧ Hid (CrewP w bg l C wr) ∧ Hid (wr.ownsRow (bg + 1) 38 1 (.slice a i c) i (wvals C)) ∧ bg < wr.heap.size) (fun _ s _ => n - (intOf s).toNat)
  case atStart =>
    refine ⟨0, [], none, 0, by omega, rfl, rfl, Lib.hid rfl, Lib.hid ?_, Lib.hid ⟨rfl, .inl ⟨rfl, rfl⟩⟩, by simp; have := HBG.out; omega⟩
    refine ⟨((Below.refl _ _).alloc (Nat.le_refl _) _).alloc (by simp) _, ?_, ?_, fun k hk => absurd hk (Nat.not_lt_zero _), fun j k hj _ => absurd hj (Nat.not_lt_zero _)⟩
    · rw [← HBG.out]
      simpa using heap_alloc_new (w.alloc (.cells #[] 3)) (.cells #[.slice (some ⟨w.heap.size, 0, none⟩) 0 0] 22)
    · have : OwnI (w.alloc (.cells #[] 3)) w.heap.size (.slice (some ⟨w.heap.size, 0, none⟩) 0 0) [] := World.ownsRow_made w #[] 0 (Nat.le_refl _) (by unfold maxLen; omega) rfl
      exact this.below ((Below.refl _ _).alloc (Nat.le_refl _) _)
  case round =>
    obtain ⟨i, C, a, c, hi2, rfl, rfl, HC, HP, HO, hsz⟩ := hrel
    by_cases hlt : i < n
    · obtain ⟨p0, o0, rfl, hc0⟩ := (HS.out.below HP.out.bel).at (by omega)
      have k0 := hc0 i hlt
      clear hc0
      obtain ⟨x, hx⟩ : ∃ y, l.getD i 0 = y := ⟨_, rfl⟩
      rw [hx] at k0
      have HX := Lib.hid hx
      clear hx
      have ow : Hid (((wr.alloc (.cells #[.int .i64 (i : Nat), .int .i64 x, .pointer (some ⟨bg, 0, none⟩)] 54)).alloc (.cells #[.iface 52 (.pointer (some ⟨wr.heap.size, 0, none⟩))] 38)).ownsRow (bg + 1) 38 1 (.slice a i c) i (wvals C)) := Lib.hid ((HO.out.alloc _).alloc _)
      have rb : Hid (∀ k, some k = (Value.slice a i c).ownBlock → bg < k ∧ k < wr.heap.size ∧ ∀ j, j < C.length → C.getD j 0 ≠ k) := Lib.hid (fun k e => by
        refine ⟨(HO.out.lt k e.symm).1, (HO.out.lt k e.symm).2, fun j hj ej => ?_⟩
        have hb := (HP.out.cnt j hj).2
        rw [ej] at hb
        rcases HO.out.2 with ⟨hv, _⟩ | ⟨g, cp, cur, hv, _, hh, _⟩
        · rw [hv] at e; cases e
        · rw [hv] at e
          have : k = g := Option.some.inj e
          rw [this] at hb
          rw [hb] at hh
          cases hh)
      have one := wone_new (w := wr.alloc (.cells #[.int .i64 (i : Nat), .int .i64 x, .pointer (some ⟨bg, 0, none⟩)] 54)) (v := .iface 52 (.pointer (some ⟨wr.heap.size, 0, none⟩))) (g := wr.heap.size + 1) rfl (by simp) 38
      have HONE := Lib.hid one; clear one
      have h1c : Hid (∀ u ∈ [Value.iface 52 (.pointer (some ⟨wr.heap.size, 0, none⟩))], u.oneCell' = true) := Lib.hid (by intro u h; simp at h; subst h; rfl)
      have hbg' := HBG.out
      have hwz : w.heap.size ≤ wr.heap.size := HP.out.bel.size
      clear hbg'
      go_wp2_with (at_builtin; refine wpList_append_own _ rfl (.tmp 17) (.tmp 24) 31 rfl (bg + 1) 38 i0 .nilIface 1 16 Try.underlying31 hi hz0 hz1 hz2 rfl (by decide) _ _ _ rfl ow.out ⟨wr.heap.size + 1, 0, none⟩ 1 1 [.iface 52 (.pointer (some ⟨wr.heap.size, 0, none⟩))] rfl rfl HONE.out h1c.out (by unfold maxLen; omega) (by omega) (by simp; omega) ?_; intro v2 w3 O2 G2 _; have OH2 := Lib.hid O2; have GH2 := Lib.hid G2; clear O2 G2)
      have hC1 : (wvals C ++ [Value.iface 52 (.pointer (some ⟨wr.heap.size, 0, none⟩))]) = wvals (C ++ [wr.heap.size]) := by simp [wvals]
      have HO3 : Hid (w3.ownsRow (bg + 1) 38 1 v2 (i + 1) (wvals (C ++ [wr.heap.size]))) := Lib.hid (by rw [← hC1]; exact OH2.out)
      clear hC1 OH2
      obtain ⟨va, vc, rfl⟩ : ∃ va vc, v2 = .slice va (i + 1) vc := by
        rcases HO3.out.2 with ⟨hv, h0⟩ | ⟨g, cp, cur, hv, _⟩
        · omega
        · exact ⟨_, _, hv⟩
      have HP3 : Hid (CrewP w bg l (C ++ [wr.heap.size]) w3) := Lib.hid (by
        have P1 := HP.out.keep (World.grownBy_alloc wr (.cells #[.int .i64 (i : Nat), .int .i64 x, .pointer (some ⟨bg, 0, none⟩)] 54) none) hwz HBG.out.symm (fun k e => by cases e)
        have P2 := P1.keep (World.grownBy_alloc _ (.cells #[.iface 52 (.pointer (some ⟨wr.heap.size, 0, none⟩))] 38) none) (by simp; omega) HBG.out.symm (fun k e => by cases e)
        have P3 := P2.keep GH2.out (by simp; omega) HBG.out.symm (fun k e => ⟨(rb.out k e.symm).1, (rb.out k e.symm).2.2⟩)
        have hc := HC.out
        refine ⟨P3.bel, P3.log, P3.owl, fun k hk => ?_, fun j k hj hk => ?_⟩
        · rw [List.length_append] at hk
          simp at hk
          by_cases e : k < C.length
          · rw [List.getD_eq_getElem?_getD, List.getElem?_append_left e, ← List.getD_eq_getElem?_getD]
            exact P3.cnt k e
          · obtain rfl : k = i := by omega
            rw [List.getD_eq_getElem?_getD, List.getElem?_append_right (by omega), hc, Nat.sub_self]
            refine ⟨hsz, ?_⟩
            show w3.heap[wr.heap.size]? = _
            rw [GH2.out.block _ (by simp; omega) (fun e => by have := (rb.out _ e).2.1; omega), Below.heap_alloc _ _ _ (by simp), heap_alloc_new, HX.out]
        · rw [List.length_append] at hj hk
          simp at hj hk
          have hlt : ∀ m, m < C.length → C.getD m 0 < wr.heap.size := fun m hm => (HP.out.cnt m hm).2.lt
          have g1 : ∀ m, m < C.length → (C ++ [wr.heap.size]).getD m 0 = C.getD m 0 := fun m hm => by rw [List.getD_eq_getElem?_getD, List.getElem?_append_left hm, ← List.getD_eq_getElem?_getD]
          have g2 : (C ++ [wr.heap.size]).getD C.length 0 = wr.heap.size := by rw [List.getD_eq_getElem?_getD, List.getElem?_append_right (Nat.le_refl _), Nat.sub_self]; rfl
          rcases Nat.lt_or_ge j C.length with h1 | h1 <;> rcases Nat.lt_or_ge k C.length with h2 | h2
          · rw [g1 j h1, g1 k h2]; exact HP.out.inj j k h1 h2
          · obtain rfl : k = C.length := by omega
            rw [g1 j h1, g2]; intro e; have := hlt j h1; omega
          · obtain rfl : j = C.length := by omega
            rw [g1 k h2, g2]; intro e; have := hlt k h2; omega
          · intro _; omega)
      have sz3 : bg < w3.heap.size := by have := GH2.out.size; simp at this; omega
      clear GH2 rb ow HONE h1c HO
      go_roundw
      case rel => exact ⟨i + 1, C ++ [wr.heap.size], va, vc, by omega, rfl, by go_num, Lib.hid (by rw [List.length_append, HC.out]; rfl), HP3, HO3, sz3⟩
      case measure => simp [intOf]; omega
    · have hin : i = n := by omega
      subst hin
      go_wp2
      refine bodyPost_ret (results_tmp2 rfl _ _ _) rfl ?_
      exact ⟨C, a, c, rfl, HC.out, HP.out, HO.out⟩

end Go.Proofs.Ytigokfcoofbdlaa
