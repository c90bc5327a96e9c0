/- The program: Run's step of a counter. -/
import Derived.Test.YtigokfcoofbdlaaS15
namespace Go.Proofs.Ytigokfcoofbdlaa
open Go.RowKit
set_option linter.unusedVariables false

/-- what holds between the steps of a crew of counters -/
structure ICnt (w0 : World) (bg bw : Nat) (C : List Nat) (la : Option Addr) (n lc u : Nat) (W : World) (L out : List Nat) : Prop where
  bel : Below w0.heap.size w0 W
  size : u ≤ W.heap.size
  log : ∃ vo, W.heap[bg]? = some (.cells #[vo] 22 (0, 0)) ∧ OwnI W w0.heap.size vo (ints out) ∧ vo.ownBlock ≠ some u
  cnt : ∀ k, k < n → CBlk W bg (C.getD k 0) k (L.getD k 0 : Nat)
  box : W.heap[bw]? = some (.cells #[.slice la n lc] 31 (0, 0))
  own : W.ownsRow w0.heap.size 38 1 (.slice la n lc) n (wvals C)
  len : L.length = n
/-- what stays: where the blocks lie -/
structure Fixed (w0 : World) (bg bw : Nat) (C : List Nat) (la : Option Addr) (n lc u : Nat) : Prop where
  g0 : w0.heap.size ≤ bg
  gu : bg < u
  b0 : w0.heap.size ≤ bw
  bu : bw < u
  len : C.length = n
  c0 : ∀ k, k < n → w0.heap.size ≤ C.getD k 0 ∧ C.getD k 0 < u
  inj : ∀ j k, j < n → k < n → C.getD j 0 = C.getD k 0 → j = k
  la : ∀ k, (Value.slice la n lc).ownBlock = some k → k < u
theorem own_of {w w' : World} {base : Nat} {e : TypeId} {size n : Nat} {v : Value} {xs : List Value} (h : w.ownsRow base e size v n xs) (hk : ∀ k, v.ownBlock = some k → w'.heap[k]? = w.heap[k]?) : w'.ownsRow base e size v n xs := by
  obtain ⟨h1, h2⟩ := h
  refine ⟨h1, ?_⟩
  rcases h2 with h2 | ⟨g, cap, cur, hv, hg, hh, r⟩
  · exact .inl h2
  · exact .inr ⟨g, cap, cur, hv, hg, by rw [hk g (by rw [hv]; rfl)]; exact hh, r⟩
theorem wv_some {w : World} {base n c : Nat} {a : Option Addr} {C : List Nat} (h : w.ownsRow base 38 1 (.slice a n c) n (wvals C)) (hC : C.length = n) (hn : 0 < n) : ∃ g, a = some ⟨g, 0, none⟩ ∧ ∀ k, k < n → w.cell? ⟨g, k, none⟩ = some (.iface 52 (.pointer (some ⟨C.getD k 0, 0, none⟩))) := by
  rcases id h.2 with ⟨hv, h0⟩ | ⟨g, cap, cur, hv, _⟩
  · omega
  · injection hv with e1
    subst e1
    refine ⟨g, rfl, fun k hk => ?_⟩
    have := World.ownsRow.cells h (g := g) rfl k _ (wvals_at (by omega))
    rw [Addr.add_mid, Nat.zero_add] at this
    exact this
set_option maxHeartbeats 2000000 in
set_option maxRecDepth 100000 in
theorem wstep_c (w0 : World) (bg bw : Nat) (C : List Nat) (la : Option Addr) (n lc u : Nat) (F : Fixed w0 bg bw C la n lc u) (W : World) (L out : List Nat) (i : Nat) (hI : ICnt w0 bg bw C la n lc u W L out) (hi : i < L.length) (hp : 0 < L.getD i 0) (hs : L.sum + out.length ≤ 600) (hu : u < W.heap.size) :
    Calls Try.prog 28 (#[.int .i64 (i : Nat)] ++ #[.pointer (some ⟨bw, 0, none⟩)]) W fun e w' => e = .returned (.bool (decide (L.getD i 0 = 1))) ∧ ICnt w0 bg bw C la n lc u w' (dec L i) (out ++ [i]) ∧ w'.heap[u]? = W.heap[u]? ∧ W.heap.size ≤ w'.heap.size := by
  have hln := hI.len
  rw [hln] at hi
  obtain ⟨g, rfl, hw⟩ := wv_some hI.own F.len (by omega)
  have kw := hw i hi
  clear hw
  have kb := cell_of_one hI.box
  have hyl : L.getD i 0 ≤ 600 := by have := getD_le_sum L i; omega
  have hol : out.length ≤ 600 := by omega
  obtain ⟨y, hy⟩ : ∃ y, L.getD i 0 = y := ⟨_, rfl⟩
  have HY := Lib.hid hy
  rw [hy] at hp hyl ⊢
  obtain ⟨c, hc⟩ : ∃ c, C.getD i 0 = c := ⟨_, rfl⟩
  have HC := Lib.hid hc
  rw [hc] at kw
  obtain ⟨vo, hl1, hl2, hl3⟩ := hI.log
  have hcn := hI.cnt i hi
  rw [hc, hy] at hcn
  have H1 := Lib.hid hl1; have H2 := Lib.hid hl2; have H3 := Lib.hid hl3; have H4 := Lib.hid hcn
  have HI := Lib.hid hI
  have FF := Lib.hid F
  clear hl1 hl2 hl3 hcn hI F hy hc hs
  show Calls Try.prog 28 #[.int .i64 (i : Nat), .pointer (some ⟨bw, 0, none⟩)] W _
  go_enter Try.func28, Try.ntmps28
  go_wp2_with fail
  refine (count_c w0.heap.size bg c i y vo out W H1.out H2.out H4.out hp hyl hol HI.out.bel.size).mono ?_
  rintro e w' ⟨rfl, w1, hm, rfl⟩
  have hfin : Hid (ICnt w0 bg bw C (some ⟨g, 0, none⟩) n lc u (w1.setCell ⟨c, 1, none⟩ (.int .i64 ((y : Int) - 1))) (dec L i) (out ++ [i]) ∧ (w1.setCell ⟨c, 1, none⟩ (.int .i64 ((y : Int) - 1))).heap[u]? = W.heap[u]? ∧ W.heap.size ≤ (w1.setCell ⟨c, 1, none⟩ (.int .i64 ((y : Int) - 1))).heap.size) := Lib.hid (by
    obtain ⟨g', cap, m1, m2, m3, m4, m5, ⟨m6, m7, m8⟩, m9⟩ := hm
    have hI := HI.out
    have F := FF.out
    have hci := HC.out
    have hs : ∀ k, k ≠ c → (w1.setCell ⟨c, 1, none⟩ (.int .i64 ((y : Int) - 1))).heap[k]? = w1.heap[k]? := fun k hk => Below.heap_setCell _ _ _ _ hk
    have hsz : (w1.setCell ⟨c, 1, none⟩ (.int .i64 ((y : Int) - 1))).heap.size = w1.heap.size := by simp [World.setCell]
    have hcu := (F.c0 i hi).2
    rw [hci] at hcu
    have hc0 := (F.c0 i hi).1
    rw [hci] at hc0
    have hgc : g' ≠ c := fun e => by
      have := own_type m2 (k := c) (by rw [← e]; rfl) m3
      cases this
    have hbc : bg ≠ c := fun e => by
      unfold CBlk at m3
      rw [e] at m1
      have := cells_type m1 m3
      cases this
    have hold : ∀ {a : Array Value} {t : TypeId} {k : Nat}, W.heap[k]? = some (.cells a t (0, 0)) → t ≠ 22 → t ≠ 3 → w1.heap[k]? = some (.cells a t (0, 0)) := fun {a t k} hk h22 h3 => by
      rw [m4 k (lt_of_block hk) (fun e => by rw [e] at hk; exact h22 (cells_type hk H1.out)) (fun e => h3 (own_type H2.out e.symm hk).symm)]
      exact hk
    refine ⟨⟨?_, by omega, ⟨.slice (some ⟨g', 0, none⟩) (out.length + 1) cap, ?_, ?_, ?_⟩, fun k hk => ?_, ?_, ?_, by rw [dec_len]; exact hI.len⟩, ?_, by omega⟩
    · refine ⟨(show w1.os = _ from m6).trans hI.bel.os, (show w1.tape = _ from m7).trans hI.bel.tape, (show w1.output = _ from m8).trans hI.bel.output, by have := hI.bel.size; omega, fun k hk => ?_⟩
      rw [hs k (by omega), m4 k (by have := hI.bel.size; omega) (by have := F.g0; omega) (fun e => by have := (H2.out.lt k e.symm).1; omega)]
      exact hI.bel.block k hk
    · rw [hs bg hbc]; exact m1
    · exact ownsRow_setCell_other m2 (a := ⟨c, 1, none⟩) (fun e => hgc (Option.some.inj e)) _
    · intro e
      have e1 : g' = u := Option.some.inj e
      rcases m9 with h | h
      · rw [e1] at h; exact H3.out h
      · omega
    · by_cases e : k = i
      · subst e
        rw [hci, dec_at (by rw [hI.len]; exact hi), if_pos rfl, HY.out]
        have h2 := heap_setCell_same w1 c 1 _ 54 (.int .i64 ((y : Int) - 1)) m3
        unfold CBlk
        rw [h2]
        have : (((y - 1 : Nat) : Nat) : Int) = (y : Int) - 1 := by omega
        rw [this]
        rfl
      · have hne : C.getD k 0 ≠ c := fun e2 => e (F.inj k i hk hi (by rw [hci]; exact e2))
        rw [dec_at (by rw [hI.len]; exact hi), if_neg e]
        refine CBlk.of ?_ (hs _ hne)
        exact hold (hI.cnt k hk) (by decide) (by decide)
    · have hbw : bw ≠ c := fun e => by
        have h2 := hI.box
        rw [e] at h2
        have h3 := H4.out
        unfold CBlk at h3
        have := cells_type h2 h3
        cases this
      rw [hs bw hbw]
      exact hold hI.box (by decide) (by decide)
    · refine own_of hI.own (fun k hk => ?_)
      have e1 : g = k := Option.some.inj hk
      subst e1
      rcases hI.own.2 with ⟨hv, _⟩ | ⟨g2, cp, cur, hv, _, hh, _⟩
      · cases hv
      · injection hv with e2
        cases e2
        have hgc2 : g ≠ c := fun e => by
          rw [e] at hh
          have h3 := H4.out
          unfold CBlk at h3
          have := cells_type hh h3
          cases this
        rw [hs g hgc2, hold hh (by decide) (by decide)]
        exact hh.symm
    · rw [hs u (by omega), m4 u hu (by have := F.gu; omega) (fun e => H3.out e.symm)])
  clear hm
  go_wp2
  refine bodyPost_ret (results_tmp rfl _ _ _) rfl ?_
  exact ⟨rfl, hfin.out.1, hfin.out.2.1, hfin.out.2.2⟩
theorem ICnt.ok {w0 : World} {bg bw : Nat} {C : List Nat} {la : Option Addr} {n lc u : Nat} (F : Fixed w0 bg bw C la n lc u) : StepOk 28 #[.pointer (some ⟨bw, 0, none⟩)] w0 u (ICnt w0 bg bw C la n lc u) where
  step := fun W L out i hI hi hp hs hu => wstep_c w0 bg bw C la n lc u F W L out i hI hi hp hs hu
  keep := fun W W' L out h hg => by
    obtain ⟨h1, h2, ⟨vo, h3, h4, h5⟩, h6, h7, h8, h9⟩ := h
    have hk : ∀ {a : Array Value} {t : TypeId} {k : Nat}, k ≠ u → W.heap[k]? = some (.cells a t (0, 0)) → W'.heap[k]? = some (.cells a t (0, 0)) := fun {a t k} hku hh => by
      rw [hg.block k (lt_of_block hh) (fun e => hku (Option.some.inj e))]; exact hh
    refine ⟨h1.grown hg h1.size (fun k e => by cases e; have := F.g0; have := F.gu; omega), by have := hg.size; omega, ⟨vo, hk (by have := F.gu; omega) h3, h4.keep hg ?_, h5⟩, fun k hkn => ?_, hk (by have := F.bu; omega) h7, World.ownsRow.kept h8 hg ?_, h9⟩
    · exact .inr h5
    · exact hk (by have := (F.c0 k hkn).2; omega) (h6 k hkn)
    · cases hv : (Value.slice la n lc).ownBlock with
      | none => exact .inl rfl
      | some k => exact .inr (fun e => by have := F.la k hv; cases e; omega)
  below := fun W L out h => h.bel
theorem enters28 : ∀ args w, (callFunc 28 args).run Try.prog w = .ok (.enter 28 args) w := enters_of Try.func28 (by kernel_rfl) rfl

end Go.Proofs.Ytigokfcoofbdlaa
