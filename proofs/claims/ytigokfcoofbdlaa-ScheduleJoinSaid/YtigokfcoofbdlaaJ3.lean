/- The law ScheduleJoin. -/
import Derived.Test.YtigokfcoofbdlaaJ2
import Derived.Deep.AppendLies
namespace Go.Proofs.Ytigokfcoofbdlaa
open Go.RowKit
set_option linter.unusedVariables false

/-- the variables of the workers made so far, apart from the list want (vw) -/
structure JL0 (w0 : World) (bl : Nat) (l : List Int) (Hs : List Nat) (vw : Value) (W : World) : Prop where
  bel : Below w0.heap.size w0 W
  log : W.heap[bl]? = some (.cells #[.slice none 0 0] 22 (0, 0))
  vars : ∀ j, j < Hs.length → JBlk W (Hs.getD j 0) j (l.getD j 0) 0 ∧ bl < Hs.getD j 0
  gap : ∀ j k, j < k → k < Hs.length → Hs.getD j 0 + 2 < Hs.getD k 0
  ne : ∀ k, vw.ownBlock = some k → ∀ j, j < Hs.length → k < Hs.getD j 0 ∨ Hs.getD j 0 + 2 < k
theorem OwnI.type3 {w : World} {base k : Nat} {v : Value} {l : List Int} (h : OwnI w base v l) (hk : v.ownBlock = some k) {a : Array Value} {t : TypeId} {f : Nat × Nat} (h2 : w.heap[k]? = some (.cells a t f)) : t = 3 := (own_type h hk h2).symm
theorem JBlk.of {w w' : World} {h i k : Nat} {nn : Int} (hj : JBlk w h i nn k) (he : ∀ b, b = h ∨ b = h + 1 ∨ b = h + 2 → w'.heap[b]? = w.heap[b]?) : JBlk w' h i nn k :=
  ⟨hj.1.of (he _ (.inl rfl)), hj.2.1.of (he _ (.inr (.inl rfl))), hj.2.2.of (he _ (.inr (.inr rfl)))⟩
theorem JL0.grow {w0 W W' : World} {bl : Nat} {l : List Int} {Hs : List Nat} {vw : Value} {r : Option Nat} (h : JL0 w0 bl l Hs vw W) (hg : W.grownBy W' r) (h0 : w0.heap.size ≤ bl) (hr : ∀ k, r = some k → bl + 1 ≤ k ∧ ∀ j, j < Hs.length → k < Hs.getD j 0 ∨ Hs.getD j 0 + 2 < k) : JL0 w0 bl l Hs vw W' := by
  refine ⟨h.bel.grown hg h.bel.size (fun k hk => by have := (hr k hk).1; omega), ?_, fun j hj => ⟨(h.vars j hj).1.of (fun b hb' => ?_), (h.vars j hj).2⟩, h.gap, h.ne⟩
  · rw [hg.block bl (lt_of_block h.log) (fun e => by have := (hr bl e.symm).1; omega)]; exact h.log
  · have hv := (h.vars j hj).1
    have hlt : b < W.heap.size := by
      rcases hb' with e | e | e
      · rw [e]; exact hv.1.lt
      · rw [e]; exact hv.2.1.lt
      · rw [e]; exact hv.2.2.lt
    exact hg.block b hlt (fun e => by have := (hr b e.symm).2 j hj; omega)
theorem JL0.alloc {w0 W : World} {bl : Nat} {l : List Int} {Hs : List Nat} {vw : Value} (h : JL0 w0 bl l Hs vw W) (h0 : w0.heap.size ≤ bl) (o : Obj) : JL0 w0 bl l Hs vw (W.alloc o) := h.grow (World.grownBy_alloc W o none) h0 (fun k e => by cases e)
theorem JL0.own_var {w0 W : World} {base bl : Nat} {l : List Int} {Hs : List Nat} {vw vl : Value} {n : Nat} {xs : List Value} (h : JL0 w0 bl l Hs vw W) (ho : W.ownsRow base 38 1 vl n xs) : ∀ k, vl.ownBlock = some k → ∀ j, j < Hs.length → k < Hs.getD j 0 ∨ Hs.getD j 0 + 2 < k := fun k hk j hj => by
  have hv := (h.vars j hj).1
  have nt : ∀ (b : Nat) (x : Int), VarB W b x → k ≠ b := fun b x hx e => by
    unfold VarB at hx
    rw [← e] at hx
    have := own_type ho hk hx
    cases this
  have h1 := nt _ _ hv.1
  have h2 := nt _ _ hv.2.1
  have h3 := nt _ _ hv.2.2
  omega
theorem snoc_old {Hs : List Nat} {h m : Nat} (hm : m < Hs.length) : (Hs ++ [h]).getD m 0 = Hs.getD m 0 := by rw [List.getD_eq_getElem?_getD, List.getElem?_append_left hm, ← List.getD_eq_getElem?_getD]
theorem snoc_new {Hs : List Nat} {h : Nat} : (Hs ++ [h]).getD Hs.length 0 = h := by rw [List.getD_eq_getElem?_getD, List.getElem?_append_right (Nat.le_refl _), Nat.sub_self]; rfl
/-- ahead of step t of the joined worker -/
def JP (w w2 : World) (bj bl n : Nat) (Hs : List Nat) (l : List Int) (t : Nat) (W : World) : Prop :=
  (n = 0 ∧ W = w2) ∨ (0 < n ∧ ∃ r k, JS w w2 (bj + 1) bj bl Hs l W r k (wantl l r ++ List.replicate k r) ∧ t = tot l r + k ∧ ((r < n ∧ k < mst l r) ∨ (r = n ∧ k = 0)))
theorem tot_mono (l : List Int) {r n : Nat} (h : r ≤ n) : tot l r ≤ tot l n := by
  rcases Nat.lt_or_ge r n with h1 | h1
  · exact Nat.le_of_lt (tot_lt l h1)
  · have : r = n := by omega
    rw [this]; exact Nat.le_refl _
theorem jp_step {w w2 W : World} {bj bl n : Nat} {Hs : List Nat} {l : List Int} {t T : Nat} (F : JF w (bj + 1) bj bl Hs) (hn : Hs.length = n) (hn12 : n ≤ 12) (hl : ∀ j, l.getD j 0 ≤ 50) (hT : T = max 1 (tot l n)) (ht : t < T) {ra : Option Addr} {rc : Nat} (h2 : n = 0 → w2.heap[bj]? = some (.cells #[.slice ra 0 rc] 60 (0, 0))) (h : JP w w2 bj bl n Hs l t W) :
    Calls Try.prog 48 #[.pointer (some ⟨bj, 0, none⟩)] W fun e w' => e = .returned (.bool (decide (t + 1 = T))) ∧ JP w w2 bj bl n Hs l (t + 1) w' := by
  rcases h with ⟨h0, rfl⟩ | ⟨h0, r, k, hJ, htk, hrk⟩
  · refine (jstep0_c bj ra rc W (h2 h0)).mono ?_
    rintro e w' ⟨rfl, rfl⟩
    subst h0
    have hT1 : T = 1 := by rw [hT]; rfl
    exact ⟨by rw [decide_eq_true (by omega)], .inl ⟨rfl, rfl⟩⟩
  · have hr : r < n ∧ k < mst l r := by
      rcases hrk with h | h
      · exact h
      · have h3 : 1 ≤ tot l n := by have := tot_lt l h0; omega
        rw [h.1, h.2] at htk
        omega
    have hm50 : mst l r ≤ 50 := by have := hl r; unfold mst; omega
    have htot := tot_le hl n
    have htr : tot l (r + 1) = tot l r + mst l r := rfl
    have htn := tot_mono l (show r + 1 ≤ n by omega)
    have hlen : (wantl l r ++ List.replicate k r).length ≤ 600 := by rw [List.length_append, wantl_len, List.length_replicate]; omega
    refine (jstep_c w w2 (bj + 1) bj bl Hs l W r k _ F hJ (by omega) (by omega) hlen).mono ?_
    intro e w' hst
    unfold JStep at hst
    have hTn : T = tot l n := by have := tot_lt l h0; omega
    by_cases hge : l.getD r 0 ≤ (k : Int) + 1
    · rw [if_pos hge] at hst
      obtain ⟨rfl, hJ2⟩ := hst
      have hk1 : k + 1 = mst l r := by have := hr.2; unfold mst at this ⊢; omega
      refine ⟨?_, .inr ⟨h0, r + 1, 0, ?_, by rw [htr]; omega, ?_⟩⟩
      · have : decide (r + 1 = Hs.length) = decide (t + 1 = T) := by
          rw [decide_eq_decide, hn, hTn]
          constructor
          · intro e; rw [← e, htr]; omega
          · intro e
            rcases Nat.lt_or_ge (r + 1) n with h1 | h1
            · have := tot_lt l h1; omega
            · omega
        rw [this]
      · have e1 : wantl l r ++ List.replicate k r ++ [r] = wantl l (r + 1) ++ List.replicate 0 (r + 1) := by
          show _ = (wantl l r ++ List.replicate (mst l r) r) ++ []
          rw [← hk1, List.replicate_succ', List.append_nil, List.append_assoc]
        rw [← e1]; exact hJ2
      · rcases Nat.lt_or_ge (r + 1) n with h1 | h1
        · exact .inl ⟨h1, mst_pos l _⟩
        · exact .inr ⟨by omega, rfl⟩
    · rw [if_neg hge] at hst
      obtain ⟨rfl, hJ2⟩ := hst
      have hk1 : k + 1 < mst l r := by unfold mst; omega
      refine ⟨?_, .inr ⟨h0, r, k + 1, ?_, by omega, .inl ⟨hr.1, hk1⟩⟩⟩
      · rw [decide_eq_false (by omega)]
      · rw [List.replicate_succ', ← List.append_assoc]; exact hJ2
/-- a further worker -/
theorem JL0.add {w0 W : World} {bl h : Nat} {l : List Int} {Hs : List Nat} {vw : Value} (hL : JL0 w0 bl l Hs vw W) (hv : JBlk W h Hs.length (l.getD Hs.length 0) 0) (hbl : bl < h) (hgap : ∀ j, j < Hs.length → Hs.getD j 0 + 2 < h) (hw : ∀ k, vw.ownBlock = some k → k < h) : JL0 w0 bl l (Hs ++ [h]) vw W := by
  have hl : (Hs ++ [h]).length = Hs.length + 1 := by simp
  refine ⟨hL.bel, hL.log, fun j hj => ?_, fun j k hjk hk => ?_, fun k hk j hj => ?_⟩
  · rw [hl] at hj
    rcases Nat.lt_or_ge j Hs.length with h1 | h1
    · rw [snoc_old h1]; exact hL.vars j h1
    · obtain rfl : j = Hs.length := by omega
      rw [snoc_new]; exact ⟨hv, hbl⟩
  · rw [hl] at hk
    rw [snoc_old (by omega)]
    rcases Nat.lt_or_ge k Hs.length with h1 | h1
    · rw [snoc_old h1]; exact hL.gap j k hjk h1
    · obtain rfl : k = Hs.length := by omega
      rw [snoc_new]; exact hgap j (by omega)
  · rw [hl] at hj
    rcases Nat.lt_or_ge j Hs.length with h1 | h1
    · rw [snoc_old h1]; exact hL.ne k hk j h1
    · obtain rfl : j = Hs.length := by omega
      rw [snoc_new]; exact .inl (hw k hk)
/-- want has grown -/
theorem JL0.want {w0 W W' : World} {bl g : Nat} {l : List Int} {Hs : List Nat} {vw vw' : Value} (h : JL0 w0 bl l Hs vw W) (hg : W.grownBy W' vw.ownBlock) (h0 : w0.heap.size ≤ bl) (hb : ∀ k, vw.ownBlock = some k → bl + 1 ≤ k) (hv : vw'.ownBlock = some g) (ha : vw.ownBlock = some g ∨ W.heap.size ≤ g) : JL0 w0 bl l Hs vw' W' := by
  obtain ⟨q1, q2, q3, q4, q5⟩ := h.grow hg h0 (fun k hk => ⟨hb k hk, h.ne k hk⟩)
  refine ⟨q1, q2, q3, q4, fun k hk j hj => ?_⟩
  rw [hv] at hk
  have e : g = k := Option.some.inj hk
  subst e
  rcases ha with h1 | h1
  · exact h.ne g h1 j hj
  · have := (h.vars j hj).1.2.2.lt
    omega
set_option maxHeartbeats 8000000 in
set_option maxRecDepth 100000 in
theorem law_join (a0 : Option Addr) (n0 c0 : Nat) (l0 : List Int) (w : World) (h0 : SlI w a0 n0 c0 l0) (z0 : a0 = none → n0 = 0 ∧ c0 = 0) :
    Calls Try.prog 8 #[.slice a0 n0 c0] w fun e w' => e = .returned (.bool true) ∧ Below w.heap.size w w' := by
  obtain ⟨i0, hi, hz0, hz1, hz2⟩ := info_parts info3z
  obtain ⟨q0, hq, hqz, hq1, hq2⟩ := info_parts info38z
  have H0 := Lib.hid h0; clear h0 z0
  go_enter Try.func8, Try.ntmps8
  go_wp2_with fail
  refine (awake_c w).mono ?_
  rintro e w1 ⟨rfl, hb1⟩
  have B1 := Lib.hid hb1; clear hb1
  go_wp2_with fail
  refine (large_c a0 n0 c0 l0 none 0 0 w1 (H0.out.below B1.out)).mono ?_
  rintro e w' ⟨⟨b, rfl, hb⟩, rfl⟩
  cases b with
  | true =>
    clear hb
    go_wp2
    refine bodyPost_ret (results_tmp rfl _ _ _) rfl ?_
    exact ⟨rfl, B1.out⟩
  | false =>
    obtain ⟨hn0, _, hle⟩ := hb rfl
    have HLE : Hid (∀ j, l0.getD j 0 ≤ 50) := Lib.hid (fun j => by
      rcases Nat.lt_or_ge j n0 with h | h
      · exact hle j h
      · rw [List.getD_eq_getElem?_getD, List.getElem?_eq_none (by rw [H0.out.1]; exact h)]; simp)
    clear hb hle
    obtain ⟨bl, hbl⟩ : ∃ x, w1.heap.size = x := ⟨_, rfl⟩
    have lbl : w.heap.size ≤ bl := by rw [← hbl]; exact B1.out.size
    have L1 : Hid (JL0 w bl l0 [] (.slice none 0 0) (w1.alloc (.cells #[.slice none 0 0] 22))) := Lib.hid
      ⟨B1.out.alloc B1.out.size _, by rw [← hbl]; exact heap_alloc_new w1 _, fun j hj => absurd hj (Nat.not_lt_zero _), fun j k _ hk => absurd hk (Nat.not_lt_zero _), fun k hk => by cases hk⟩
    go_wp2
    clear hbl
    go_loopw [3, 4, 19] (fun s3 s4 s wr => ∃ (i nw : Nat) (Hs : List Nat) (aw al : Option Addr) (cw cl : Nat), i ≤ n0 ∧ s = .int .i64 (i : Nat) ∧ s3 = .slice aw nw cw ∧ s4 = .slice al i cl ∧ nw ≤ 50 * i ∧ Hid (tot l0 i = nw) ∧ Hid (Hs.length = i) ∧ Hid (OwnI wr (bl + 1) (.slice aw nw cw) (ints (wantl l0 i))) ∧ Hid (JL0 w bl l0 Hs (.slice aw nw cw) wr) ∧ Hid (wr.ownsRow (bl + 1) 38 1 (.slice al i cl) i (jvals bl Hs)) ∧ bl < wr.heap.size) (fun _ _ s _ => n0 - (intOf s).toNat)
    case atStart => exact ⟨0, 0, [], none, none, 0, 0, by omega, rfl, rfl, rfl, by omega, Lib.hid rfl, Lib.hid rfl, Lib.hid ⟨rfl, .inl ⟨rfl, rfl⟩⟩, L1, Lib.hid ⟨rfl, .inl ⟨rfl, rfl⟩⟩, lt_of_block L1.out.log⟩
    case round =>
      clear L1
      obtain ⟨i, nw, Hs, aw, al, cw, cl, hi2, rfl, rfl, rfl, hnw, HT, HH, HO, HL, HWL, lbw⟩ := hrel
      by_cases hlt : i < n0
      · obtain ⟨p0, o0, rfl, hc0⟩ := (H0.out.below HL.out.bel).at (by omega)
        have k0 := hc0 i hlt
        clear hc0
        obtain ⟨nn, hnn⟩ : ∃ y, l0.getD i 0 = y := ⟨_, rfl⟩
        rw [hnn] at k0
        have hn50 : nn ≤ 50 := by rw [← hnn]; exact HLE.out i
        have HNN := Lib.hid hnn
        clear hnn
        go_upto_region 12 with fail
        obtain ⟨h, hh⟩ : ∃ x, wr.heap.size = x := ⟨_, rfl⟩
        have LA : Hid (JL0 w bl l0 Hs (.slice aw nw cw) (((wr.alloc (.cells #[.int .i64 (i : Nat)] 3)).alloc (.cells #[.int .i64 nn] 3)).alloc (.cells #[.int .i64 0] 3))) := Lib.hid (((HL.out.alloc lbl _).alloc lbl _).alloc lbl _)
        have OA : Hid (OwnI (((wr.alloc (.cells #[.int .i64 (i : Nat)] 3)).alloc (.cells #[.int .i64 nn] 3)).alloc (.cells #[.int .i64 0] 3)) (bl + 1) (.slice aw nw cw) (ints (wantl l0 i))) := Lib.hid (((HO.out.below ((Below.refl _ _).alloc (Nat.le_refl _) _)).below ((Below.refl _ _).alloc (Nat.le_refl _) _)).below ((Below.refl _ _).alloc (Nat.le_refl _) _))
        have WA : Hid ((((wr.alloc (.cells #[.int .i64 (i : Nat)] 3)).alloc (.cells #[.int .i64 nn] 3)).alloc (.cells #[.int .i64 0] 3)).ownsRow (bl + 1) 38 1 (.slice al i cl) i (jvals bl Hs)) := Lib.hid (((HWL.out.alloc _).alloc _).alloc _)
        have JA : Hid (JBlk (((wr.alloc (.cells #[.int .i64 (i : Nat)] 3)).alloc (.cells #[.int .i64 nn] 3)).alloc (.cells #[.int .i64 0] 3)) h i nn 0) := Lib.hid (by
          subst hh
          refine ⟨?_, ?_, ?_⟩
          · unfold VarB
            rw [Below.heap_alloc _ _ _ (by simp; omega), Below.heap_alloc _ _ _ (by simp), heap_alloc_new]
          · unfold VarB
            rw [Below.heap_alloc _ _ _ (by simp)]
            have := heap_alloc_new (wr.alloc (.cells #[.int .i64 (i : Nat)] 3)) (.cells #[.int .i64 nn] 3)
            rw [World.size_alloc] at this
            exact this
          · unfold VarB
            have := heap_alloc_new ((wr.alloc (.cells #[.int .i64 (i : Nat)] 3)).alloc (.cells #[.int .i64 nn] 3)) (.cells #[.int .i64 0] 3)
            rw [World.size_alloc, World.size_alloc] at this
            exact this)
        have ZA : Hid ((((wr.alloc (.cells #[.int .i64 (i : Nat)] 3)).alloc (.cells #[.int .i64 nn] 3)).alloc (.cells #[.int .i64 0] 3)).heap.size = h + 3) := Lib.hid (by simp [hh])
        have HGP : Hid (∀ j, j < Hs.length → Hs.getD j 0 + 2 < h) := Lib.hid (fun j hj => by rw [← hh]; exact (HL.out.vars j hj).1.2.2.lt)
        have HWB : Hid (∀ k, (Value.slice aw nw cw).ownBlock = some k → bl + 1 ≤ k ∧ k < h) := Lib.hid (fun k hk => by rw [← hh]; exact HO.out.lt k hk)
        rw [hh]
        rw [hh] at lbw
        obtain ⟨wA, hwA⟩ : ∃ x, ((wr.alloc (.cells #[.int .i64 (i : Nat)] 3)).alloc (.cells #[.int .i64 nn] 3)).alloc (.cells #[.int .i64 0] 3) = x := ⟨_, rfl⟩
        rw [hwA] at LA OA WA JA ZA ⊢
        rw [show h + 1 + 1 = h + 2 from rfl]
        clear hwA hh HL HO HWL k0
        have one := wone_new (w := wA) (v := jval bl h) (g := wA.heap.size) rfl rfl 38
        have HONE := Lib.hid one
        have h1c : Hid (∀ u ∈ [jval bl h], u.oneCell' = true) := Lib.hid (by intro u h; simp at h; subst h; rfl)
        have zA : bl + 1 ≤ wA.heap.size := by rw [ZA.out]; omega
        clear one
        go_upto_region 13 with (at_builtin; refine wpList_append_own _ rfl (.tmp 24) (.tmp 27) 31 rfl (bl + 1) 38 q0 .nilIface 1 16 Try.underlying31 hq hqz hq1 hq2 rfl (by decide) (.slice al i cl) i (jvals bl Hs) rfl (WA.out.alloc _) ⟨wA.heap.size, 0, none⟩ 1 1 [jval bl h] rfl rfl HONE.out h1c.out (by unfold maxLen; omega) (by omega) (by rw [World.size_alloc]; omega) ?_; intro v2 w2 O2 G2 _; have OH2 := Lib.hid O2; have GH2 := Lib.hid G2; clear O2 G2)
        have hji : Hid (jvals bl Hs ++ [jval bl h] = jvals bl (Hs ++ [h])) := Lib.hid (by simp [jvals])
        have W2 : w2.ownsRow (bl + 1) 38 1 v2 (i + 1) (jvals bl (Hs ++ [h])) := by rw [← hji.out]; exact OH2.out
        have sf : ∃ va vc, v2 = .slice va (i + 1) vc := by
          rcases W2.2 with ⟨hv, h0⟩ | ⟨g, cp, cur, hv, _⟩
          · omega
          · exact ⟨some ⟨g, 0, none⟩, cp, hv⟩
        obtain ⟨va, vc, rfl⟩ := sf
        have LB := LA.out.alloc lbl (.cells #[jval bl h] 38)
        have WB := WA.out.alloc (.cells #[jval bl h] 38)
        have JB : JBlk (wA.alloc (.cells #[jval bl h] 38)) h i nn 0 := JA.out.of (fun b hb => Below.heap_alloc _ _ _ (by rw [ZA.out]; omega))
        have L2 : Hid (JL0 w bl l0 (Hs ++ [h]) (.slice aw nw cw) w2) := Lib.hid (by
          have h1 := LB.grow GH2.out lbl (fun k hk => ⟨(WB.lt k hk).1, LB.own_var WB k hk⟩)
          refine h1.add ?_ lbw HGP.out (fun k hk => (HWB.out k hk).2)
          rw [HH.out, HNN.out]
          refine JB.of (fun b hb => GH2.out.block b ?_ (fun e => ?_))
          · rw [World.size_alloc, ZA.out]; omega
          · have hv : ∃ x, VarB (wA.alloc (.cells #[jval bl h] 38)) b x := by
              rcases hb with e | e | e
              · rw [e]; exact ⟨_, JB.1⟩
              · rw [e]; exact ⟨_, JB.2.1⟩
              · rw [e]; exact ⟨_, JB.2.2⟩
            obtain ⟨x, hx⟩ := hv
            unfold VarB at hx
            have := own_type WB e.symm hx
            cases this)
        have O2 : Hid (OwnI w2 (bl + 1) (.slice aw nw cw) (ints (wantl l0 i))) := Lib.hid ((OA.out.below ((Below.refl _ _).alloc (Nat.le_refl _) (.cells #[jval bl h] 38))).keep GH2.out (by
          cases hv : (Value.slice aw nw cw).ownBlock with
          | none => exact .inl rfl
          | some k =>
            right
            intro e
            have hOB := OA.out.below ((Below.refl _ _).alloc (Nat.le_refl _) (.cells #[jval bl h] 38))
            rcases WB.2 with ⟨hv2, _⟩ | ⟨g, cp, cur, hv2, _, hh2, _⟩
            · rw [hv2] at e; cases e
            · rw [hv2] at e
              have e1 : k = g := Option.some.inj e
              rw [← e1] at hh2
              have := OwnI.type3 hOB hv hh2
              cases this))
        have W2' := Lib.hid W2
        have lb2 : bl < w2.heap.size := lt_of_block L2.out.log
        have v7 := (L2.out.vars Hs.length (by simp)).1.2.1
        rw [snoc_new, HH.out, HNN.out] at v7
        have k7 := cell_of_one v7
        obtain ⟨M, hM⟩ : ∃ M : Nat, max 1 nn = (M : Int) := ⟨(max 1 nn).toNat, by omega⟩
        have hMM : Hid (mst l0 i = M) := Lib.hid (by unfold mst; rw [HNN.out, hM]; rfl)
        have hM50 : M ≤ 50 := by omega
        have HMI := Lib.hid hM
        clear hM LB WB JB LA OA WA JA ZA OH2 GH2 W2 v7 HONE h1c zA hji
        go_cut [30, 31] (fun s30 s31 wc => s30 = .int .i64 (M : Nat) ∧ s31 = .int .i64 0 ∧ w2 = wc)
        case first =>
          have hmi := HMI.out
          by_cases hn1 : 1 < nn
          · have hnM : nn = (M : Int) := by omega
            have HNM := Lib.hid hnM
            clear hmi hnM
            go_wp2_with fail
            go_meet
            case rel => exact ⟨by rw [HNM.out], rfl, rfl⟩
          · have hnM : (M : Int) = 1 := by omega
            have HNM := Lib.hid hnM
            clear hmi hnM
            go_wp2_with fail
            go_meet
            case rel => exact ⟨by rw [HNM.out], rfl, rfl⟩
        obtain ⟨rfl, rfl, rfl⟩ := hcut
        clear k7
        go_wp2
        go_loopw [3, 31] (fun s3 s wr => ∃ (t : Nat) (aw' : Option Addr) (cw' : Nat), t ≤ M ∧ s = .int .i64 (t : Nat) ∧ s3 = .slice aw' (nw + t) cw' ∧ Hid (OwnI wr (bl + 1) (.slice aw' (nw + t) cw') (ints (wantl l0 i ++ List.replicate t i))) ∧ Hid (JL0 w bl l0 (Hs ++ [h]) (.slice aw' (nw + t) cw') wr) ∧ Hid (wr.ownsRow (bl + 1) 38 1 (.slice va (i + 1) vc) (i + 1) (jvals bl (Hs ++ [h]))) ∧ bl < wr.heap.size) (fun _ s _ => M - (intOf s).toNat)
        case atStart => exact ⟨0, aw, cw, by omega, rfl, rfl, Lib.hid (by simpa using O2.out), L2, W2', lb2⟩
        case round =>
          clear O2 L2 W2' lb2
          obtain ⟨t, aw', cw', ht2, rfl, rfl, HO, HL, HWL, lbw2⟩ := hrel
          by_cases hltM : t < M
          · have v6 := (HL.out.vars Hs.length (by simp)).1.1
            rw [snoc_new, HH.out] at v6
            have k6 := cell_of_one v6
            clear v6
            have hnl : (wantl l0 i ++ List.replicate t i).length = nw + t := by rw [List.length_append, wantl_len, HT.out, List.length_replicate]
            have ow : Hid (wr.ownsRow (bl + 1) 3 1 (.slice aw' (nw + t) cw') (nw + t) (ivals (ints (wantl l0 i ++ List.replicate t i)))) := Lib.hid (by have := HO.out; unfold OwnI at this; rwa [ints_len, hnl] at this)
            have HNL := Lib.hid hnl
            clear hnl
            go_wp2_with (at_builtin; refine wpList_append_lies _ rfl (.tmp 33) (.tmp 35) 22 rfl (bl + 1) 3 i0 (.int .i64 0) 1 8 Try.underlying22 hi hz0 hz1 hz2 rfl (by decide) (.slice aw' (nw + t) cw') (nw + t) (ivals (ints (wantl l0 i ++ List.replicate t i))) rfl (ow.out.alloc _) ⟨wr.heap.size, 0, none⟩ 1 1 [.int .i64 i] rfl rfl (one_newi rfl) one_celli (by omega) (by unfold maxLen; omega) (by omega) (by rw [World.size_alloc]; omega) (wr.heap.size + 1) (World.size_alloc _ _) ?_; intro g2 p2 w5 O2 G2 A2 L2; have OH2 := Lib.hid O2; have GH2 := Lib.hid G2; have AH2 := Lib.hid A2; clear O2 G2 A2 L2)
            have O5 : Hid (OwnI w5 (bl + 1) (.slice (some ⟨g2, 0, none⟩) (nw + (t + 1)) p2) (ints (wantl l0 i ++ List.replicate (t + 1) i))) := Lib.hid (by
              have h1 := OwnI.push OH2.out (by rw [ints_len, HNL.out])
              rw [List.replicate_succ', ← List.append_assoc, ints_append]
              exact h1)
            have L5 : Hid (JL0 w bl l0 (Hs ++ [h]) (.slice (some ⟨g2, 0, none⟩) (nw + (t + 1)) p2) w5) := Lib.hid ((HL.out.alloc lbl _).want GH2.out lbl (fun k hk => (ow.out.lt k hk).1) rfl (by
              rcases AH2.out with h1 | h1
              · exact .inl h1
              · right; rw [World.size_alloc]; show wr.heap.size + 1 ≤ g2; omega))
            have W5 : Hid (w5.ownsRow (bl + 1) 38 1 (.slice va (i + 1) vc) (i + 1) (jvals bl (Hs ++ [h]))) := Lib.hid (World.ownsRow.kept (HWL.out.alloc _) GH2.out (by
              cases hv : (Value.slice va (i + 1) vc).ownBlock with
              | none => exact .inl rfl
              | some k =>
                right
                intro e
                rcases ow.out.2 with ⟨hv2, _⟩ | ⟨g, cp, cur, hv2, _, hh2, _⟩
                · rw [hv2] at e; cases e
                · rw [hv2] at e
                  have e1 : k = g := Option.some.inj e
                  rw [← e1] at hh2
                  have := own_type HWL.out hv hh2
                  cases this))
            have lb5 : bl < w5.heap.size := lt_of_block L5.out.log
            clear OH2 GH2 AH2 ow HO HL HWL k6 HNL
            go_roundw
            case rel => exact ⟨t + 1, some ⟨g2, 0, none⟩, p2, by omega, by go_num, rfl, O5, L5, W5, lb5⟩
            case measure => simp [intOf]; omega
          · have htM : t = M := by omega
            subst htM
            have O9 : Hid (OwnI wr (bl + 1) (.slice aw' (nw + t) cw') (ints (wantl l0 (i + 1)))) := Lib.hid (by
              have h1 := HO.out
              rw [← hMM.out] at h1 ⊢
              exact h1)
            clear HO
            go_wp2
            go_roundw
            case rel => exact ⟨i + 1, nw + t, Hs ++ [h], aw', va, cw', vc, by omega, by go_num, rfl, rfl, by omega, Lib.hid (by show tot l0 i + mst l0 i = _; rw [HT.out, hMM.out]), Lib.hid (by rw [List.length_append, HH.out]; rfl), O9, HL, HWL, lbw2⟩
            case measure => simp [intOf]; omega
      · have hin : i = n0 := by omega
        subst hin
        have hV : Hid ((jvals bl Hs).length = i) := Lib.hid (by rw [jvals_len, HH.out])
        have h1c : Hid (∀ u ∈ jvals bl Hs, u.oneCell' = true) := Lib.hid (by intro u hu; obtain ⟨x, _, rfl⟩ := List.mem_map.1 hu; rfl)
        have hz : Hid (al = none → i = 0 ∧ cl = 0) := Lib.hid (fun e => by
          subst e
          rcases HWL.out.2 with ⟨hv, _⟩ | ⟨g, cap, cur, hv, _⟩
          · injection hv with _ e1 e2; exact ⟨e1, e2⟩
          · cases hv)
        have hsrc : Hid (∀ x, al = some x → ∀ j u, (jvals bl Hs)[j]? = some u → wr.cell? (x.add j) = some u) := Lib.hid (fun x hx j u hu => by
          subst hx
          rcases id HWL.out.2 with ⟨hv, _⟩ | ⟨g, cap, cur, hv, _⟩
          · cases hv
          · injection hv with e1
            cases e1
            exact World.ownsRow.cells HWL.out (g := g) rfl j u hu)
        go_wp2_with fail
        refine (join_c al i cl (jvals bl Hs) wr hV.out h1c.out hz.out hsrc.out (by omega)).mono ?_
        rintro e w2 ⟨bj, ra, rc, rfl, hbj, hsv, hra, hb2, hbj0, hz2⟩
        have FF : Hid (JF w (bj + 1) bj bl Hs) := Lib.hid (by
          have hs := HL.out.bel.size
          exact ⟨by omega, by omega, lbl, by omega, fun j hj => ⟨by have := (HL.out.vars j hj).2; omega, by have := (HL.out.vars j hj).1.2.2.lt; omega⟩, HL.out.gap⟩)
        have lw2 : bl < w2.heap.size := by omega
        have J0 : Hid (JP w w2 bj bl i Hs l0 0 w2) := Lib.hid (by
          rcases Nat.eq_zero_or_pos i with h0 | h0
          · exact .inl ⟨h0, rfl⟩
          · refine .inr ⟨h0, 0, 0, ?_, rfl, .inl ⟨h0, mst_pos _ _⟩⟩
            refine ⟨HL.out.bel.trans (hb2.mono HL.out.bel.size), by omega, ⟨ra, rc, ?_, ?_, fun x hx => by have := hra x hx; omega⟩, fun j _ hj => ?_, ⟨.slice none 0 0, ?_, ⟨rfl, .inl ⟨rfl, rfl⟩⟩⟩, fun b _ _ _ _ => rfl⟩
            · rw [Nat.sub_zero, HH.out]; exact hbj
            · rw [Nat.sub_zero, HH.out]; exact hsv
            · have hv := (HL.out.vars j hj).1
              have : (if j = 0 then 0 else 0) = 0 := by split <;> rfl
              rw [this]
              exact hv.of (fun b hb => hb2.block b (by
                rcases hb with e | e | e
                · rw [e]; exact hv.1.lt
                · rw [e]; exact hv.2.1.lt
                · rw [e]; exact hv.2.2.lt))
            · rw [hb2.block bl lbw]; exact HL.out.log)
        have LG2 : Hid (w2.heap[bl]? = some (.cells #[.slice none 0 0] 22 (0, 0))) := Lib.hid (by rw [hb2.block bl lbw]; exact HL.out.log)
        have BJ2 : Hid (i = 0 → w2.heap[bj]? = some (.cells #[.slice ra 0 rc] 60 (0, 0))) := Lib.hid (fun e => by have h := hbj; rw [e] at h; exact h)
        have O2 : Hid (OwnI w2 (bl + 1) (.slice aw nw cw) (ints (wantl l0 i))) := Lib.hid (HO.out.below hb2)
        have HWB : Hid (∀ k, (Value.slice aw nw cw).ownBlock = some k → bl + 1 ≤ k ∧ k < bj ∧ ∀ j, j < Hs.length → k ≠ Hs.getD j 0 + 2) := Lib.hid (fun k hk => ⟨(HO.out.lt k hk).1, by have := (HO.out.lt k hk).2; omega, fun j hj => by have := HL.out.ne k hk j hj; omega⟩)
        have B2 : Hid (Below w.heap.size w w2) := Lib.hid (HL.out.bel.trans (hb2.mono HL.out.bel.size))
        obtain ⟨T, hT⟩ : ∃ T : Nat, T = max 1 nw := ⟨_, rfl⟩
        have hT1 : 1 ≤ T := by omega
        have hT2 : T ≤ 600 := by omega
        have HTT := Lib.hid hT
        clear hT hV h1c hz hsrc hbj hsv hra hb2 hz2 HL HO HWL
        go_upto_region 21 with fail
        go_cut [10] (fun s10 wc => s10 = .int .i64 (T : Nat) ∧ w2 = wc)
        case first =>
          have hmi := HTT.out
          by_cases hn1 : 1 < nw
          · have hn1i : (1 : Int) < (nw : Int) := by omega
            have hnM : nw = T := by omega
            have HNM := Lib.hid hnM
            clear hmi hnM
            go_wp2_with fail
            go_meet
            case rel => exact ⟨by rw [HNM.out], rfl⟩
          · have hn1i : ¬ (1 : Int) < (nw : Int) := by omega
            have hnM : T = 1 := by omega
            have HNM := Lib.hid hnM
            clear hmi hnM
            go_wp2_with fail
            go_meet
            case rel => exact ⟨by rw [HNM.out]; rfl, rfl⟩
        obtain ⟨rfl, rfl⟩ := hcut
        go_wp2
        go_loopw [47] (fun s wr => ∃ t : Nat, t ≤ T ∧ s = .int .i64 (t : Nat) ∧ Hid (JP w w2 bj bl i Hs l0 t wr)) (fun s _ => T - (intOf s).toNat)
        case atStart => exact ⟨0, by omega, rfl, J0⟩
        case round =>
          clear J0
          obtain ⟨t, ht2, rfl, HJ⟩ := hrel
          by_cases hltT : t < T
          · have hst := jp_step FF.out HH.out hn0 HLE.out (by rw [HT.out]; exact HTT.out) hltT BJ2.out HJ.out
            obtain ⟨d, hd⟩ : ∃ d, decide (t + 1 = T) = d := ⟨_, rfl⟩
            rw [hd] at hst
            have hdI : ((t : Int) == (T : Int) - 1) = d := by
              rw [← hd, Bool.eq_iff_iff]
              simp only [beq_iff_eq, decide_eq_true_eq]
              omega
            have HST := Lib.hid hst
            clear hst hd HJ
            go_wp2_with fail
            refine HST.out.mono ?_
            rintro e w5 ⟨rfl, hj5⟩
            have HJ5 := Lib.hid hj5
            clear hj5 HST
            go_wp2
            go_roundw
            case rel => exact ⟨t + 1, by omega, by go_num, HJ5⟩
            case measure => simp [intOf]; omega
          · have htT : t = T := by omega
            subst htT
            have TAIL : ∃ oa oc, wr.heap[bl]? = some (.cells #[.slice oa nw oc] 22 (0, 0)) ∧ SlI wr oa nw oc (ints (wantl l0 i)) ∧ SlI wr aw nw cw (ints (wantl l0 i)) ∧ Below w.heap.size w wr := by
              have hwl : (ints (wantl l0 i)).length = nw := by rw [ints_len, wantl_len, HT.out]
              rcases HJ.out with ⟨h0, rfl⟩ | ⟨h0, r, k, hJ, htk, hrk⟩
              · have hn0' : nw = 0 := by rw [← HT.out, h0]; rfl
                have hnil : ints (wantl l0 i) = [] := List.eq_nil_of_length_eq_zero (by rw [hwl]; exact hn0')
                refine ⟨none, 0, by rw [hn0']; exact LG2.out, ?_, O2.out.sl hwl, B2.out⟩
                rw [hnil, hn0']; exact SlI.nil _ _ _ (by omega)
              · have hpos := tot_lt l0 h0
                rw [HT.out] at hpos
                have htn : t = nw := by have := HTT.out; omega
                have hri : r = i ∧ k = 0 := by
                  rcases hrk with h | h
                  · have h1 := tot_mono l0 (show r + 1 ≤ i by omega)
                    have h2 : tot l0 (r + 1) = tot l0 r + mst l0 r := rfl
                    rw [HT.out] at h1
                    omega
                  · exact h
                obtain ⟨rfl, rfl⟩ := hri
                obtain ⟨vo, hv1, hv2⟩ := hJ.log
                rw [List.replicate_zero, List.append_nil] at hv2
                obtain ⟨oa, oc, rfl⟩ := hv2.slice
                rw [hwl] at hv1 hv2
                refine ⟨oa, oc, hv1, hv2.sl hwl, ?_, hJ.bel⟩
                have hOw : OwnI wr (bl + 1) (.slice aw nw cw) (ints (wantl l0 r)) := own_of O2.out (fun g hg => by
                  have h3 := HWB.out g hg
                  exact hJ.kept g (by omega) (by omega) (by omega) h3.2.2)
                exact hOw.sl hwl
            obtain ⟨oa, oc, t1, t2, t3, t4⟩ := TAIL
            have kv := cell_of_one t1
            have T2 := Lib.hid t2; have T3 := Lib.hid t3; have T4 := Lib.hid t4
            clear t1 t2 t3 t4 HJ
            go_wp2_with fail
            refine (same_c oa nw oc (ints (wantl l0 i)) aw nw cw (ints (wantl l0 i)) wr T2.out T3.out).mono ?_
            rintro e w5 ⟨rfl, hb5⟩
            rw [decide_eq_true rfl]
            have B5 := Lib.hid (T4.out.trans (hb5.mono T4.out.size))
            clear hb5
            go_wp2_with fail
            refine (fnil_c w5).mono ?_
            rintro e w' ⟨rfl, rfl⟩
            have hs2 : Hid (∀ x, some (⟨w5.heap.size, 0, none⟩ : Addr) = some x → ∀ j u, [Value.nilIface, Value.nilIface][j]? = some u → (w5.alloc (.cells #[.nilIface, .nilIface] 38)).cell? (x.add j) = some u) := Lib.hid (fun x hx j u hu => by
              cases hx
              rw [Addr.add_mid, Nat.zero_add]
              have := cells_new w5 [Value.nilIface, Value.nilIface] 38 j
              exact this.trans hu)
            go_wp2_with fail
            refine (join_c (some ⟨w5.heap.size, 0, none⟩) 2 2 [.nilIface, .nilIface] _ rfl (by intro u hu; simp at hu; subst hu; rfl) (fun h => by cases h) hs2.out (by omega)).mono ?_
            rintro e w6 ⟨bj2, ra2, rc2, rfl, _, _, _, hb6, _, _⟩
            have B6 : Hid (Below w.heap.size w w6) := Lib.hid ((B5.out.alloc B5.out.size _).trans (hb6.mono (by simp; have := B5.out.size; omega)))
            clear hb6
            go_wp2
            refine bodyPost_ret (results_tmp rfl _ _ _) rfl ?_
            exact ⟨rfl, B6.out⟩

end Go.Proofs.Ytigokfcoofbdlaa
