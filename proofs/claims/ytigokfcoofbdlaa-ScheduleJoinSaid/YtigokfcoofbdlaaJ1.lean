/- The program: Join. -/
import Derived.Test.YtigokfcoofbdlaaJ0
namespace Go.Proofs.Ytigokfcoofbdlaa
open Go.RowKit
set_option linter.unusedVariables false

theorem eqf_no (w : World) (c : Array Value) : (binOp .eql 45 (.func (.func 17) #[] c) .nilFunc).run Try.prog w = .ok (.bool false) w := by kernel_rfl
theorem eqf_yes (w : World) : (binOp .eql 45 .nilFunc .nilFunc).run Try.prog w = .ok (.bool true) w := by kernel_rfl
set_option maxRecDepth 100000 in
theorem fnil_c (w : World) : Calls Try.prog 19 #[.nilFunc] w fun e w' => e = .returned (.bool true) ∧ w = w' := by
  have hq := eqf_yes
  go_enter Try.func19, Try.ntmps19
  go_wp2
  refine bodyPost_ret (results_tmp rfl _ _ _) rfl ?_
  exact ⟨rfl, rfl⟩
set_option maxHeartbeats 2000000 in
set_option maxRecDepth 100000 in
theorem fstep_c (U bl h i k : Nat) (nn : Int) (vo : Value) (out : List Nat) (W : World) (hb : W.heap[bl]? = some (.cells #[vo] 22 (0, 0))) (hO : OwnI W U vo (ints out)) (hj : JBlk W h i nn k) (hU : h + 2 < U) (hbU : bl < U) (hUW : U ≤ W.heap.size) (hk : k ≤ 50) (ho : out.length ≤ 600) :
    Calls Try.prog 19 #[.func (.func 17) #[] #[.pointer (some ⟨h + 2, 0, none⟩), .pointer (some ⟨bl, 0, none⟩), .pointer (some ⟨h, 0, none⟩), .pointer (some ⟨h + 1, 0, none⟩)]] W fun e w' => e = .returned (.bool (decide (nn ≤ (k : Int) + 1))) ∧ JMid W U bl h vo out i k w' := by
  have HJ := Lib.hid (jfun_c U bl h i k nn vo out W hb hO hj hU hbU hUW hk ho)
  clear hb hO hj hUW ho
  have hq := eqf_no
  go_enter Try.func19, Try.ntmps19
  go_wp2_with fail
  refine HJ.out.mono ?_
  rintro e w' ⟨rfl, hm⟩
  have HM := Lib.hid hm
  clear hm
  go_wp2
  refine bodyPost_ret (results_tmp rfl _ _ _) rfl ?_
  exact ⟨rfl, HM.out⟩
/-- a slice of workers in a block known to hold such -/
def SlV (w : World) (a : Option Addr) (n cap : Nat) (V : List Value) : Prop :=
  V.length = n ∧ n ≤ cap ∧ cap ≤ 9223372036854775807 ∧ (n = 0 ∨ ∃ b off cur, a = some ⟨b, off, none⟩ ∧ w.heap[b]? = some (.cells cur 38 (0, 0)) ∧ ∀ i, i < n → w.cell? ⟨b, off + i, none⟩ = some (V.getD i .nilIface))
theorem SlV.of {w w' : World} {a : Option Addr} {n cap : Nat} {V : List Value} (h : SlV w a n cap V) (hk : ∀ (b off : Nat), a = some ⟨b, off, none⟩ → w'.heap[b]? = w.heap[b]?) : SlV w' a n cap V := by
  obtain ⟨h1, h2, h3, h4⟩ := h
  refine ⟨h1, h2, h3, ?_⟩
  rcases h4 with h4 | ⟨b, off, cur, e, hh, hc⟩
  · exact .inl h4
  · exact .inr ⟨b, off, cur, e, by rw [hk b off e]; exact hh, fun i hi => by rw [World.cell?_of_block (a := ⟨b, off + i, none⟩) (hk b off e)]; exact hc i hi⟩
theorem SlV.tail {w : World} {b off n c : Nat} {V : List Value} (h : SlV w (some ⟨b, off, none⟩) n c V) (hn : 0 < n) : SlV w (some ⟨b, if c = 1 then off else off + 1, none⟩) (n - 1) (c - 1) (V.drop 1) := by
  obtain ⟨h1, h2, h3, h4⟩ := h
  refine ⟨by clear h4; rw [List.length_drop]; omega, by clear h4; omega, by clear h4; omega, ?_⟩
  by_cases hc : c = 1
  · exact .inl (by clear h4; omega)
  · rcases h4 with h4 | ⟨b', off', cur, e, hh, hcell⟩
    · omega
    · cases e
      rw [if_neg hc]
      refine .inr ⟨b, off + 1, cur, rfl, hh, fun i hi => ?_⟩
      have := hcell (i + 1) (by omega)
      rw [show off + (i + 1) = off + 1 + i by omega] at this
      rw [this]
      simp only [List.getD_eq_getElem?_getD, List.getElem?_drop]
      rw [show 1 + i = i + 1 by omega]
/-- the joined worker in block bj: r workers are finished, the next one has made k steps -/
structure JS (w0 Wb : World) (U bj bl : Nat) (Hs : List Nat) (l : List Int) (W : World) (r k : Nat) (out : List Nat) : Prop where
  bel : Below w0.heap.size w0 W
  size : U ≤ W.heap.size
  rest : ∃ ra rc, W.heap[bj]? = some (.cells #[.slice ra (Hs.length - r) rc] 60 (0, 0)) ∧ SlV W ra (Hs.length - r) rc ((jvals bl Hs).drop r) ∧ ∀ x, ra = some x → x.block < U
  vars : ∀ j, r ≤ j → j < Hs.length → JBlk W (Hs.getD j 0) j (l.getD j 0) (if j = r then k else 0)
  log : ∃ vo, W.heap[bl]? = some (.cells #[vo] 22 (0, 0)) ∧ OwnI W U vo (ints out)
  kept : ∀ b, b < U → b ≠ bl → b ≠ bj → (∀ j, j < Hs.length → b ≠ Hs.getD j 0 + 2) → W.heap[b]? = Wb.heap[b]?
/-- where the blocks lie -/
structure JF (w0 : World) (U bj bl : Nat) (Hs : List Nat) : Prop where
  j0 : w0.heap.size ≤ bj
  ju : bj < U
  l0 : w0.heap.size ≤ bl
  lu : bl < U
  h0 : ∀ j, j < Hs.length → w0.heap.size ≤ Hs.getD j 0 ∧ Hs.getD j 0 + 2 < U
  gap : ∀ j k, j < k → k < Hs.length → Hs.getD j 0 + 2 < Hs.getD k 0
/-- what a step of the joined worker leaves -/
def JStep (w0 Wb : World) (U bj bl : Nat) (Hs : List Nat) (l : List Int) (r k : Nat) (out : List Nat) (e : Ending) (w' : World) : Prop :=
  if l.getD r 0 ≤ (k : Int) + 1 then e = .returned (.bool (decide (r + 1 = Hs.length))) ∧ JS w0 Wb U bj bl Hs l w' (r + 1) 0 (out ++ [r])
  else e = .returned (.bool false) ∧ JS w0 Wb U bj bl Hs l w' r (k + 1) (out ++ [r])
set_option maxHeartbeats 4000000 in
set_option maxRecDepth 100000 in
theorem jstep_c (w0 Wb : World) (U bj bl : Nat) (Hs : List Nat) (l : List Int) (W : World) (r k : Nat) (out : List Nat) (F : JF w0 U bj bl Hs) (hJ : JS w0 Wb U bj bl Hs l W r k out) (hr : r < Hs.length) (hk : k ≤ 50) (ho : out.length ≤ 600) :
    Calls Try.prog 48 #[.pointer (some ⟨bj, 0, none⟩)] W fun e w' => JStep w0 Wb U bj bl Hs l r k out e w' := by
  obtain ⟨ra, rc, hbj, hsv, hra⟩ := hJ.rest
  obtain ⟨vo, hl1, hl2⟩ := hJ.log
  have hv := hJ.vars r (Nat.le_refl _) hr
  rw [if_pos rfl] at hv
  obtain ⟨h, hh⟩ : ∃ h, Hs.getD r 0 = h := ⟨_, rfl⟩
  rw [hh] at hv
  have hU := (F.h0 r hr).2
  rw [hh] at hU
  obtain ⟨b, off, cur, rfl, hcur, hcell⟩ : ∃ b off cur, ra = some ⟨b, off, none⟩ ∧ W.heap[b]? = some (.cells cur 38 (0, 0)) ∧ ∀ i, i < Hs.length - r → W.cell? ⟨b, off + i, none⟩ = some (((jvals bl Hs).drop r).getD i .nilIface) := by
    rcases hsv.2.2.2 with h | h
    · omega
    · exact h
  have hbu : b < U := hra _ rfl
  have k0 := hcell 0 (by omega)
  rw [Nat.add_zero] at k0
  have e0 : ((jvals bl Hs).drop r).getD 0 .nilIface = jval bl h := by
    rw [List.getD_eq_getElem?_getD, List.getElem?_drop, Nat.add_zero, jvals_at hr, hh]; rfl
  rw [e0] at k0
  have k1 : W.cell? ⟨b, off, none⟩ = some (.iface 45 (.func (.func 17) #[] #[.pointer (some ⟨h + 2, 0, none⟩), .pointer (some ⟨bl, 0, none⟩), .pointer (some ⟨h, 0, none⟩), .pointer (some ⟨h + 1, 0, none⟩)])) := k0
  have kj := cell_of_one hbj
  have HC := Lib.hid (fstep_c U bl h r k (l.getD r 0) vo out W hl1 hl2 hv hU F.lu hJ.size hk ho)
  have TL := Lib.hid (hsv.tail (by omega))
  have hcap : Hs.length - r ≤ rc ∧ rc ≤ 9223372036854775807 := ⟨hsv.2.1, hsv.2.2.1⟩
  obtain ⟨m, hm⟩ : ∃ m, Hs.length - r = m + 1 := ⟨Hs.length - r - 1, by omega⟩
  obtain ⟨nn, hnn⟩ : ∃ nn, l.getD r 0 = nn := ⟨_, rfl⟩
  have HNN := Lib.hid hnn
  rw [hm] at kj hcap
  rw [hnn] at HC
  have HMM := Lib.hid hm
  have HJJ := Lib.hid hJ; have FF := Lib.hid F; have HH := Lib.hid hh; have HBJ := Lib.hid hbj; have HCU := Lib.hid hcur
  have HSV := Lib.hid hsv
  clear hJ F hh hbj hsv hra hl1 hl2 hv hcur hcell k0 e0 hm hnn
  go_enter Try.func48, Try.ntmps48
  go_wp2_with fail
  refine HC.out.mono ?_
  rintro e w1 ⟨rfl, hmid⟩
  obtain ⟨vo1, m1, m2, m3, m4, m5, m6, m7, m8⟩ := hmid
  have bjl : bj ≠ bl := fun e => by have h1 := HBJ.out; rw [e] at h1; obtain ⟨v, h2, _⟩ := HJJ.out.log; have := cells_type h1 h2; cases this
  have hv2 := (HJJ.out.vars r (Nat.le_refl _) hr).2.2
  rw [HH.out, if_pos rfl] at hv2
  have bjh : bj ≠ h + 2 := fun e => by have h1 := HBJ.out; have h2 := hv2; unfold VarB at h2; rw [e] at h1; have := cells_type h1 h2; cases this
  have hbl : b ≠ bl := fun e => by have h1 := HCU.out; rw [e] at h1; obtain ⟨v, h2, _⟩ := HJJ.out.log; have := cells_type h1 h2; cases this
  have hbh : b ≠ h + 2 := fun e => by have h1 := HCU.out; have h2 := hv2; unfold VarB at h2; rw [e] at h1; have := cells_type h1 h2; cases this
  have hbbj : b ≠ bj := fun e => by have h1 := HCU.out; rw [e] at h1; have := cells_type h1 HBJ.out; cases this
  have BJ1 : Hid (w1.heap[bj]? = some (.cells #[.slice (some ⟨b, off, none⟩) (Hs.length - r) rc] 60 (0, 0))) := Lib.hid (by rw [m4 bj FF.out.ju bjl bjh]; exact HBJ.out)
  have CU1 : Hid (w1.heap[b]? = W.heap[b]?) := Lib.hid (m4 b hbu hbl hbh)
  have BE1 : Hid (Below w0.heap.size w0 w1) := Lib.hid ⟨m6.trans HJJ.out.bel.os, m7.trans HJJ.out.bel.tape, m8.trans HJJ.out.bel.output, by have := HJJ.out.bel.size; omega, fun g hg => by
    have h1 := FF.out.l0
    have h2 := (FF.out.h0 r hr).1
    rw [HH.out] at h2
    have h3 := FF.out.lu
    rw [m4 g (by omega) (by omega) (by omega)]
    exact HJJ.out.bel.block g hg⟩
  have VA1 : Hid (∀ j, r < j → j < Hs.length → JBlk w1 (Hs.getD j 0) j (l.getD j 0) 0) := Lib.hid (fun j hj1 hj2 => by
    have h1 := HJJ.out.vars j (by omega) hj2
    rw [if_neg (by omega)] at h1
    have h2 := FF.out.gap r j hj1 hj2
    rw [HH.out] at h2
    have h3 := (FF.out.h0 j hj2).2
    obtain ⟨v, hvl, _⟩ := HJJ.out.log
    have nb : ∀ (g : Nat) (x : Int), VarB W g x → g ≠ bl := fun g x hg e => by unfold VarB at hg; rw [e] at hg; have := cells_type hg hvl; cases this
    exact ⟨h1.1.of (m4 _ (by omega) (nb _ _ h1.1) (by omega)), h1.2.1.of (m4 _ (by omega) (nb _ _ h1.2.1) (by omega)), h1.2.2.of (m4 _ (by omega) (nb _ _ h1.2.2) (by omega))⟩)
  have VR1 : Hid (JBlk w1 h r nn (k + 1)) := Lib.hid (by
    have h1 := HJJ.out.vars r (Nat.le_refl _) hr
    rw [HH.out, HNN.out] at h1
    obtain ⟨v, hvl, _⟩ := HJJ.out.log
    have nb : ∀ (g : Nat) (x : Int), VarB W g x → g ≠ bl := fun g x hg e => by unfold VarB at hg; rw [e] at hg; have := cells_type hg hvl; cases this
    exact ⟨h1.1.of (m4 _ (by omega) (nb _ _ h1.1) (by omega)), h1.2.1.of (m4 _ (by omega) (nb _ _ h1.2.1) (by omega)), m3⟩)
  have SZ1 : Hid (U ≤ w1.heap.size) := Lib.hid (by have := HJJ.out.size; omega)
  have LG1 : Hid (w1.heap[bl]? = some (.cells #[vo1] 22 (0, 0)) ∧ OwnI w1 U vo1 (ints (out ++ [r]))) := Lib.hid ⟨m1, m2⟩
  have KP1 : Hid (∀ g, g < U → g ≠ bl → g ≠ h + 2 → w1.heap[g]? = W.heap[g]?) := Lib.hid m4
  have BJL := Lib.hid bjl
  have HBB := Lib.hid hbbj
  have kj1 := cell_of_one BJ1.out
  have fj1 := free_of_one BJ1.out
  rw [HMM.out] at kj1
  clear m1 m2 m3 m4 m5 m6 m7 m8 bjl bjh hbl hbh hbbj hv2 HC k1 kj
  by_cases hge : nn ≤ (k : Int) + 1
  · have HGE : Hid (l.getD r 0 ≤ (k : Int) + 1) := Lib.hid (by rw [HNN.out]; exact hge)
    rw [decide_eq_true hge]
    have HDE : Hid (decide (r + 1 = Hs.length) = decide (m = 0)) := Lib.hid (by
      have := HMM.out
      rw [decide_eq_decide]; omega)
    have fin : Hid (∀ (off' : Nat), (off' = if rc = 1 then off else off + 1) → JS w0 Wb U bj bl Hs l (w1.setCell ⟨bj, 0, none⟩ (.slice (some ⟨b, off', none⟩) m (rc - 1))) (r + 1) 0 (out ++ [r])) := Lib.hid (fun off' hoff => by
      have hm1 : Hs.length - (r + 1) = m := by have := HMM.out; omega
      refine ⟨BE1.out.setCell (p := ⟨bj, 0, none⟩) FF.out.j0 _, by simp [World.setCell]; exact SZ1.out, ⟨some ⟨b, off', none⟩, rc - 1, ?_, ?_, fun x hx => by cases hx; exact hbu⟩, fun j hj1 hj2 => ?_, ⟨vo1, ?_, ?_⟩, fun g h1 h2 h3 h4 => ?_⟩
      · rw [hm1]; exact one_setCell BJ1.out
      · have hT := TL.out
        rw [HMM.out, Nat.add_sub_cancel, List.drop_drop, ← hoff] at hT
        rw [hm1]
        have hT2 := hT.of (w' := w1.setCell ⟨bj, 0, none⟩ (.slice (some ⟨b, off', none⟩) m (rc - 1))) (fun g o hg => by
          cases hg
          rw [Below.heap_setCell _ _ _ _ HBB.out]; exact CU1.out)
        exact hT2
      · have h1 := VA1.out j (by omega) hj2
        have nb : ∀ (g : Nat) (x : Int), VarB w1 g x → g ≠ bj := fun g x hg e => by unfold VarB at hg; rw [e] at hg; have := cells_type hg BJ1.out; cases this
        have : (if j = r + 1 then 0 else 0) = 0 := by split <;> rfl
        rw [this]
        exact ⟨h1.1.of (Below.heap_setCell _ _ _ _ (nb _ _ h1.1)), h1.2.1.of (Below.heap_setCell _ _ _ _ (nb _ _ h1.2.1)), h1.2.2.of (Below.heap_setCell _ _ _ _ (nb _ _ h1.2.2))⟩
      · rw [Below.heap_setCell _ _ _ _ (Ne.symm BJL.out)]; exact LG1.out.1
      · exact LG1.out.2.other FF.out.ju _
      · rw [Below.heap_setCell _ _ _ _ h3, KP1.out g h1 h2 (by have := h4 r hr; rw [HH.out] at this; exact this)]
        exact HJJ.out.kept g h1 h2 h3 h4)
    by_cases hc1 : rc = 1
    · have FX := Lib.hid (fin.out off (by rw [if_pos hc1]))
      subst hc1
      obtain rfl : m = 0 := by omega
      clear fin hge
      go_wp2
      refine bodyPost_ret (results_tmp rfl _ _ _) rfl ?_
      unfold JStep
      rw [if_pos HGE.out]
      exact ⟨by rw [HDE.out]; rfl, FX.out⟩
    · have FX := Lib.hid (fin.out (off + 1) (by rw [if_neg hc1]))
      clear fin hge
      by_cases hm0 : m = 0
      · subst hm0
        go_wp2
        refine bodyPost_ret (results_tmp rfl _ _ _) rfl ?_
        unfold JStep
        rw [if_pos HGE.out]
        exact ⟨by rw [HDE.out]; rfl, FX.out⟩
      · have hmb : ((m : Int) == 0) = false := by rw [beq_eq_false_iff_ne]; omega
        have hmd : decide (m = 0) = false := decide_eq_false hm0
        have HMD := Lib.hid hmd
        clear hm0 hmd
        go_wp2
        refine bodyPost_ret (results_tmp rfl _ _ _) rfl ?_
        unfold JStep
        rw [if_pos HGE.out]
        exact ⟨by rw [HDE.out, HMD.out]; rfl, FX.out⟩
  · have HGE : Hid (¬ l.getD r 0 ≤ (k : Int) + 1) := Lib.hid (by rw [HNN.out]; exact hge)
    rw [decide_eq_false hge]
    have fin : Hid (JS w0 Wb U bj bl Hs l w1 r (k + 1) (out ++ [r])) := Lib.hid (by
      refine ⟨BE1.out, SZ1.out, ⟨some ⟨b, off, none⟩, rc, BJ1.out, ?_, fun x hx => by cases hx; exact hbu⟩, fun j hj1 hj2 => ?_, ⟨vo1, LG1.out.1, LG1.out.2⟩, fun g h1 h2 h3 h4 => by rw [KP1.out g h1 h2 (by have := h4 r hr; rw [HH.out] at this; exact this)]; exact HJJ.out.kept g h1 h2 h3 h4⟩
      · exact HSV.out.of (fun g o hg => by cases hg; exact CU1.out)
      · by_cases e : j = r
        · subst e
          rw [if_pos rfl, HH.out, HNN.out]
          exact VR1.out
        · rw [if_neg e]
          exact VA1.out j (by omega) hj2)
    clear hge
    go_wp2
    refine bodyPost_ret (results_tmp rfl _ _ _) rfl ?_
    unfold JStep
    rw [if_neg (by have := HGE.out; omega)]
    exact ⟨rfl, fin.out⟩

end Go.Proofs.Ytigokfcoofbdlaa
