/- The reference: insert. -/
import Derived.Test.YtljgcjmelmpgoaaDoorQ13
namespace Go.Proofs.YtljgcjmelmpgoaaDoor
open Go.RowKit
set_option linter.unusedVariables false

/-- what insert answers -/
def InsSays (w : World) (base : Nat) (L : List Lt) (x : Lt) (e : Ending) (w' : World) : Prop := ∃ v, e = .returned v ∧ OwnL w' base v (ins L x) ∧ Below w.heap.size w w'
theorem lt_news' {w w' : World} (u : Int) (o : Bool) {g : Nat} (hg : w'.heap[g]? = some (.cells #[.int .i64 u, .bool o] 30 (0, 0))) : ∀ j x, [Value.int .i64 u, .bool o][j]? = some x → w'.cell? ((⟨g, 0, none⟩ : Addr).add j) = some x := fun j x hx => by
  rw [Addr.add_mid, cell_of_row w' g (0 + j) _ 30 (0, 0) hg, Nat.zero_add]
  simpa using hx
theorem OwnL.row {wr : World} {base m : Nat} {x : Value} {out : List Lt} (h : OwnL wr base x out) (hm : out.length = m) (k : Nat) (ob : Obj) : ((wr.drewN k).alloc ob).ownsRow base 30 2 x m (lvals out) := by
  unfold OwnL at h
  rw [hm] at h
  exact (show (wr.drewN k).ownsRow base 30 2 x m (lvals out) from h).alloc ob
theorem OwnL.row0 {wr : World} {base m : Nat} {x : Value} {out : List Lt} (h : OwnL wr base x out) (hm : out.length = m) (ob : Obj) : (wr.alloc ob).ownsRow base 30 2 x m (lvals out) := by
  unfold OwnL at h
  rw [hm] at h
  exact h.alloc ob
theorem below_own0 {w2 wr w' : World} {x : Value} {out : List Lt} (hb : Below w2.heap.size w2 wr) (h : OwnL wr w2.heap.size x out) (ob : Obj) (hg : (wr.alloc ob).grownBy w' x.ownBlock) : Below w2.heap.size w2 w' :=
  (hb.alloc hb.size ob).grown hg (by rw [World.size_alloc]; exact Nat.le_succ_of_le hb.size) (fun j hj => (World.ownsRow.lt h j hj).1)
theorem below_own {w2 wr w' : World} {x : Value} {out : List Lt} (hb : Below w2.heap.size w2 wr) (h : OwnL wr w2.heap.size x out) (k : Nat) (ob : Obj) (hg : ((wr.drewN k).alloc ob).grownBy w' x.ownBlock) : Below w2.heap.size w2 w' :=
  ((below_drewN hb k).alloc hb.size ob).grown hg (by rw [World.size_alloc]; exact Nat.le_succ_of_le hb.size) (fun j hj => (World.ownsRow.lt h j hj).1)
set_option maxHeartbeats 4000000 in
set_option maxRecDepth 100000 in
theorem insert_c (base : Nat) (a : Option Addr) (n c : Nat) (L : List Lt) (v : Int) (q : Bool) (w : World) (hO : OwnL w base (.slice a n c) L) (hL : L.length = n) (hn : n ≤ 1000) (hbase : base ≤ w.heap.size) :
    Calls Tryd.prog 37 #[.slice a n c, .agg #[.int .i64 v, .bool q]] w fun e w' => InsSays w base L (v, q) e w' := by
  obtain ⟨i0, hi0, hz0, hz1, hz2⟩ := info_parts info30z
  obtain ⟨w1, hw1⟩ : ∃ y, w.alloc (.cells #[.int .i64 v, .bool q] 30) = y := ⟨_, rfl⟩
  have B1 : Hid (Below w.heap.size w w1) := Lib.hid (by rw [← hw1]; exact (Below.refl _ _).alloc (Nat.le_refl _) _)
  have X1 : Hid (w1.heap[w.heap.size]? = some (.cells #[.int .i64 v, .bool q] 30 (0, 0))) := Lib.hid (by rw [← hw1]; exact heap_alloc_new w _)
  obtain ⟨bx, hbx⟩ : ∃ y, w.heap.size = y := ⟨_, rfl⟩
  have HO := Lib.hid hO
  have HLN := Lib.hid hL
  have HW1 := Lib.hid hw1
  have HBX := Lib.hid hbx
  have S1 : Hid (SlL w1 a n c L) := Lib.hid ((hO.sl hL).below B1.out)
  have O1 : Hid (OwnL w1 base (.slice a n c) L) := Lib.hid (hO.below B1.out)
  rw [hbx] at X1
  have x0 : w1.cell? ⟨bx, 0, none⟩ = some (.int .i64 v) := by rw [cell_of_row w1 bx 0 _ 30 (0, 0) X1.out]; rfl
  have x1 : w1.cell? ⟨bx, 1, none⟩ = some (.bool q) := by rw [cell_of_row w1 bx 1 _ 30 (0, 0) X1.out]; rfl
  clear hO hL hw1 hbx
  go_enter Tryd.func37, Tryd.ntmps37
  go_upto_region 1 with fail
  rw [HW1.out, HBX.out]
  go_wp2_with fail
  refine (has_c a n c L v q w1 S1.out).mono ?_
  rintro e w2 ⟨rfl, hb2⟩
  have B2 := Lib.hid (B1.out.trans (hb2.mono B1.out.size))
  have X2 : Hid (w2.heap[bx]? = some (.cells #[.int .i64 v, .bool q] 30 (0, 0))) := Lib.hid (by rw [hb2.block _ (lt_of_block X1.out)]; exact X1.out)
  have S2 := Lib.hid (S1.out.below hb2)
  have O2 := Lib.hid (O1.out.below hb2)
  have lbx : bx < w2.heap.size := lt_of_block X2.out
  clear hb2 x0 x1 S1 O1 X1
  by_cases hm : (v, q) ∈ L
  · rw [decide_eq_true hm]
    have HI : Hid (ins L (v, q) = L) := Lib.hid (by unfold ins; rw [if_pos hm])
    clear hm
    go_wp2
    refine bodyPost_ret (results_tmp rfl _ _ _) rfl ?_
    exact ⟨_, rfl, by rw [HI.out]; exact O2.out, B2.out⟩
  · rw [decide_eq_false hm]
    have HI : Hid (ins L (v, q) = ins1 L (v, q)) := Lib.hid (by unfold ins; rw [if_neg hm])
    clear hm
    have hbw : base ≤ w2.heap.size := by have := B2.out.size; omega
    go_wp2
    go_loopw [5, 6, 7] (fun s5 s6 s wr => ∃ (i m : Nat) (dn : Bool) (ao : Option Addr) (co : Nat) (out : List Lt), i ≤ n ∧ s = .int .i64 (i : Nat) ∧ s6 = .bool dn ∧ s5 = .slice ao m co ∧ m ≤ i + 1 ∧ Hid (out.length = m) ∧ Hid (OwnL wr w2.heap.size (.slice ao m co) out) ∧ Hid (Below w2.heap.size w2 wr) ∧
        Hid (dn = false → out = L.take i ∧ ∀ k, k < i → ¬ v < (L.getD k d0).1) ∧ Hid (dn = true → out ++ L.drop i = ins1 L (v, q))) (fun _ _ s _ => n - (intOf s).toNat)
    case atStart => exact ⟨0, 0, false, none, 0, [], by omega, rfl, rfl, rfl, by omega, Lib.hid rfl, Lib.hid ⟨rfl, .inl ⟨rfl, rfl⟩⟩, Lib.hid (Below.refl _ _), Lib.hid (fun _ => ⟨rfl, fun k hk => absurd hk (Nat.not_lt_zero k)⟩), Lib.hid (fun h => by cases h)⟩
    case round =>
      obtain ⟨i, m, dn, ao, co, out, hi, rfl, rfl, rfl, hmi, HM, HOW, HB, HF, HT⟩ := hrel
      by_cases hlt : i < n
      · obtain ⟨b, off, rfl, hb, hc⟩ := (S2.out.below HB.out).at (by omega)
        obtain ⟨k0, k1⟩ := hc i hlt
        clear hc
        have x2 := HB.out.block bx lbx
        obtain ⟨u, hu⟩ : ∃ u, (L.getD i d0).1 = u := ⟨_, rfl⟩
        obtain ⟨o, ho⟩ : ∃ o, (L.getD i d0).2 = o := ⟨_, rfl⟩
        rw [hu] at k0
        rw [ho] at k1
        have HE : Hid (L.getD i d0 = (u, o)) := Lib.hid (by rw [← hu, ← ho])
        have hi1 : (0 : Int) ≤ (i : Int) := by omega
        have hi2 : (i : Int) < (n : Int) := by omega
        have X3 : Hid (wr.heap[bx]? = some (.cells #[.int .i64 v, .bool q] 30 (0, 0))) := Lib.hid (x2.trans X2.out)
        have x0 : wr.cell? ⟨bx, 0, none⟩ = some (.int .i64 v) := by rw [cell_of_row wr bx 0 _ 30 (0, 0) X3.out]; rfl
        have x1 : wr.cell? ⟨bx, 1, none⟩ = some (.bool q) := by rw [cell_of_row wr bx 1 _ 30 (0, 0) X3.out]; rfl
        have hbr : w2.heap.size ≤ wr.heap.size := HB.out.size
        have TK : Hid (L.take (i + 1) = L.take i ++ [(u, o)]) := Lib.hid (by rw [take_snoc (by rw [HLN.out]; exact hlt), HE.out])
        have DP : Hid (L.drop i = (u, o) :: L.drop (i + 1)) := Lib.hid (by rw [drop_at (by rw [HLN.out]; exact hlt), HE.out])
        have HU := Lib.hid hu
        have HP := Lib.hid ho
        clear hu ho x2
        have ow := Lib.hid (fun k ob => (HOW.out.row HM.out k ob))
        have BG := Lib.hid (fun k ob w' => below_own (w' := w') HB.out HOW.out k ob)
        have hmn : m ≤ 1001 := by omega
        have HF' : Hid (dn = false → out = L.take i ∧ ∀ k, k < i → ¬ v < (L.getD k d0).1) := HF
        clear HF
        cases dn with
        | true =>
          go_upto_region 8 with fail
          go_quiet (fail)
          go_wp2_with (at_builtin; refine wpList_append_own _ rfl (.tmp 34) (.tmp 39) 24 rfl w2.heap.size 30 i0 (.agg #[.int .i64 0, .bool false]) 2 16 Tryd.underlying24 hi0 hz0 hz1 hz2 rfl (by decide) (.slice ao m co) m (lvals (out)) rfl (ow.out _ _) ⟨_, 0, none⟩ 1 1 [.int .i64 u, .bool o] rfl rfl (lt_news _ u o) (lt_ones u o) (by unfold maxLen; omega) (by omega) (by rw [World.size_alloc]; exact Nat.le_succ_of_le hbr) ?_; intro v3 w3 O3 G3 _; have OH3 := Lib.hid (OwnL.push O3 HM.out); have BH3 := Lib.hid (BG.out _ _ _ G3); clear O3 G3; obtain ⟨a3, c3, hv3⟩ := OH3.out.slice; rw [List.length_append, HM.out] at hv3; change v3 = .slice a3 (m + 1) c3 at hv3; subst hv3)
          exact ⟨⟨i + 1, m + 1, true, _, _, _, by omega, by go_num, rfl, rfl, by omega, Lib.hid (by rw [List.length_append, HM.out]; rfl), OH3, BH3, Lib.hid (fun h => by cases h), Lib.hid (fun _ => by rw [List.append_assoc]; show out ++ ((u, o) :: L.drop (i + 1)) = _; rw [← DP.out]; exact HT.out rfl)⟩, by simp only [intOf]; omega⟩
        | false =>
          have hm0 := Lib.hid (show m = i by rw [← HM.out, (HF'.out rfl).1, List.length_take, HLN.out]; omega)
          by_cases hvu : v < u
          · have hd : decide (v < u) = true := decide_eq_true hvu
            go_upto_region 8 with fail
            go_quiet (fail)
            go_wp2_with (first | (at_builtin; refine wpList_append_own _ rfl (.tmp 30) (.tmp 32) 24 rfl w2.heap.size 30 i0 (.agg #[.int .i64 0, .bool false]) 2 16 Tryd.underlying24 hi0 hz0 hz1 hz2 rfl (by decide) (.slice ao m co) m (lvals (out)) rfl (ow.out _ _) ⟨_, 0, none⟩ 1 1 [.int .i64 v, .bool q] rfl rfl (lt_news _ v q) (lt_ones v q) (by unfold maxLen; omega) (by omega) (by rw [World.size_alloc]; exact Nat.le_succ_of_le hbr) ?_; intro v3 w3 O3 G3 _; have OH3 := Lib.hid (OwnL.push O3 HM.out); have BH3 := Lib.hid (BG.out _ _ _ G3); clear O3 G3; obtain ⟨a3, c3, hv3⟩ := OH3.out.slice; rw [List.length_append, HM.out] at hv3; change v3 = .slice a3 (m + 1) c3 at hv3; subst hv3; have HM3 : Hid ((out ++ [(v, q)]).length = m + 1) := Lib.hid (by rw [List.length_append, HM.out]; rfl); have ow3 := Lib.hid (fun (k : Nat) ob => (OH3.out.row0 HM3.out ob)); have BG3 := Lib.hid (fun (k : Nat) ob w' => below_own0 (w' := w') BH3.out OH3.out ob); have hs3 := BH3.out.size; obtain ⟨b', off', e', hb3, hc3⟩ := (S2.out.below BH3.out).at (by omega); cases e'; obtain ⟨k03, k13⟩ := hc3 i hlt; rw [HU.out] at k03; rw [HP.out] at k13; clear hc3) | (at_builtin; refine wpList_append_own _ rfl (.tmp 34) (.tmp 39) 24 rfl w2.heap.size 30 i0 (.agg #[.int .i64 0, .bool false]) 2 16 Tryd.underlying24 hi0 hz0 hz1 hz2 rfl (by decide) (.slice a3 (m + 1) c3) (m + 1) (lvals (out ++ [(v, q)])) rfl (ow3.out 0 _) ⟨_, 0, none⟩ 1 1 [.int .i64 u, .bool o] rfl rfl (lt_news _ u o) (lt_ones u o) (by unfold maxLen; omega) (by omega) (by rw [World.size_alloc]; exact Nat.le_succ_of_le hs3) ?_; intro v4 w4 O4 G4 _; have OH4 := Lib.hid (OwnL.push O4 HM3.out); have BH4 := Lib.hid (BG3.out 0 _ _ G4); clear O4 G4; obtain ⟨a4, c4, hv4⟩ := OH4.out.slice; rw [List.length_append, HM3.out] at hv4; change v4 = .slice a4 ((m + 1) + 1) c4 at hv4; subst hv4))
            exact ⟨⟨i + 1, m + 1 + 1, true, _, _, _, by omega, by go_num, rfl, rfl, by have := hm0.out; omega, Lib.hid (by rw [List.length_append, HM3.out]; rfl), OH4, BH4, Lib.hid (fun h => by cases h), Lib.hid (fun _ => by rw [ins1_split (i := i) (by rw [HLN.out]; exact hi) (HF'.out rfl).2, ins1_here (by rw [HLN.out]; exact hlt) (by rw [HU.out]; exact hvu), List.append_assoc, List.append_assoc]; show out ++ ((v, q) :: (u, o) :: L.drop (i + 1)) = _; rw [← DP.out, (HF'.out rfl).1])⟩, by simp only [intOf]; omega⟩
          · have hd : decide (v < u) = false := decide_eq_false hvu
            go_upto_region 8 with fail
            go_quiet (fail)
            go_wp2_with (at_builtin; refine wpList_append_own _ rfl (.tmp 34) (.tmp 39) 24 rfl w2.heap.size 30 i0 (.agg #[.int .i64 0, .bool false]) 2 16 Tryd.underlying24 hi0 hz0 hz1 hz2 rfl (by decide) (.slice ao m co) m (lvals (out)) rfl (ow.out _ _) ⟨_, 0, none⟩ 1 1 [.int .i64 u, .bool o] rfl rfl (lt_news _ u o) (lt_ones u o) (by unfold maxLen; omega) (by omega) (by rw [World.size_alloc]; exact Nat.le_succ_of_le hbr) ?_; intro v3 w3 O3 G3 _; have OH3 := Lib.hid (OwnL.push O3 HM.out); have BH3 := Lib.hid (BG.out _ _ _ G3); clear O3 G3; obtain ⟨a3, c3, hv3⟩ := OH3.out.slice; rw [List.length_append, HM.out] at hv3; change v3 = .slice a3 (m + 1) c3 at hv3; subst hv3)
            exact ⟨⟨i + 1, m + 1, false, _, _, _, by omega, by go_num, rfl, rfl, by have := hm0.out; omega, Lib.hid (by rw [List.length_append, HM.out]; rfl), OH3, BH3, Lib.hid (fun _ => ⟨by rw [TK.out, (HF'.out rfl).1], fun k hk => by
              by_cases hki : k = i
              · rw [hki, HU.out]; exact hvu
              · exact (HF'.out rfl).2 k (by omega)⟩), Lib.hid (fun h => by cases h)⟩, by simp only [intOf]; omega⟩
      · obtain rfl : i = n := by omega
        have HF' : Hid (dn = false → out = L.take i ∧ ∀ k, k < i → ¬ v < (L.getD k d0).1) := HF
        clear HF
        have hne : ¬ ((i : Int) < (i : Int)) := by omega
        have X3 : Hid (wr.heap[bx]? = some (.cells #[.int .i64 v, .bool q] 30 (0, 0))) := Lib.hid ((HB.out.block bx lbx).trans X2.out)
        have x0 : wr.cell? ⟨bx, 0, none⟩ = some (.int .i64 v) := by rw [cell_of_row wr bx 0 _ 30 (0, 0) X3.out]; rfl
        have x1 : wr.cell? ⟨bx, 1, none⟩ = some (.bool q) := by rw [cell_of_row wr bx 1 _ 30 (0, 0) X3.out]; rfl
        have hbr : w2.heap.size ≤ wr.heap.size := HB.out.size
        have ow := Lib.hid (fun (k : Nat) ob => (HOW.out.row0 HM.out ob))
        have BG := Lib.hid (fun (k : Nat) ob w' => below_own0 (w' := w') HB.out HOW.out ob)
        have hmn : m ≤ 1001 := by omega
        cases dn with
        | true =>
          go_wp2
          refine bodyPost_ret (results_tmp rfl _ _ _) rfl ?_
          have DN : L.drop i = [] := List.drop_eq_nil_of_le (by rw [HLN.out]; exact Nat.le_refl _)
          have ho := HT.out (by simp)
          rw [DN, List.append_nil] at ho
          exact ⟨_, rfl, by rw [HI.out, ← ho]; exact HOW.out.le hbw, B2.out.trans (HB.out.mono B2.out.size)⟩
        | false =>
          go_wp2_with (at_builtin; refine wpList_append_own _ rfl (.tmp 43) (.tmp 45) 24 rfl w2.heap.size 30 i0 (.agg #[.int .i64 0, .bool false]) 2 16 Tryd.underlying24 hi0 hz0 hz1 hz2 rfl (by decide) (.slice ao m co) m (lvals out) rfl (ow.out 0 _) ⟨_, 0, none⟩ 1 1 [.int .i64 v, .bool q] rfl rfl (lt_news _ v q) (lt_ones v q) (by unfold maxLen; omega) (by omega) (by rw [World.size_alloc]; exact Nat.le_succ_of_le hbr) ?_; intro v3 w3 O3 G3 _; have OH3 := Lib.hid (OwnL.push O3 HM.out); have BH3 := Lib.hid (BG.out 0 _ _ G3); clear O3 G3)
          refine bodyPost_ret (results_tmp rfl _ _ _) rfl ?_
          have DN : L.drop i = [] := List.drop_eq_nil_of_le (by rw [HLN.out]; exact Nat.le_refl _)
          have ho : out ++ [(v, q)] = ins1 L (v, q) := by rw [ins1_split (i := i) (by rw [HLN.out]; exact Nat.le_refl _) (fun k hk => by have := (HF'.out (by simp)).2 k hk; omega), DN, (HF'.out (by simp)).1]; rfl
          exact ⟨_, rfl, by rw [HI.out, ← ho]; exact OH3.out.le hbw, B2.out.trans (BH3.out.mono B2.out.size)⟩

end Go.Proofs.YtljgcjmelmpgoaaDoor
