/- The program: Run over a crew of counters. -/
import Derived.Test.YtigokfcoofbdlaaS16
import Derived.Deep.RegionHeld
namespace Go.Proofs.Ytigokfcoofbdlaa
open Go.RowKit
set_option linter.unusedVariables false

/-- a worker as a value: nil, or a counter -/
def WVal (v : Value) : Prop := v = .nilIface ∨ ∃ c : Nat, v = .iface 52 (.pointer (some ⟨c, 0, none⟩))
theorem wnil_c (w : World) : Calls Try.prog 27 #[.nilIface] w fun e w' => e = .returned (.bool true) ∧ w = w' := by
  go_enter Try.func27, Try.ntmps27
  go_wp2
  go_ret
  exact ⟨rfl, rfl⟩
theorem wsome_c (c : Nat) (w : World) : Calls Try.prog 27 #[.iface 52 (.pointer (some ⟨c, 0, none⟩))] w fun e w' => e = .returned (.bool false) ∧ w = w' := by
  go_enter Try.func27, Try.ntmps27
  go_wp2
  go_ret
  exact ⟨rfl, rfl⟩
/-- a slice of workers that reads as V -/
def SlW (w : World) (ad : Option Addr) (n cap : Nat) (V : List Value) : Prop :=
  V.length = n ∧ n ≤ cap ∧ cap ≤ 9223372036854775807 ∧ (n = 0 ∨ ∃ b, ad = some ⟨b, 0, none⟩ ∧ ∀ i, i < n → w.cell? ⟨b, i, none⟩ = some (V.getD i .nilIface))
/-- what IndexFunc finds: the first worker that is nil -/
def WIdx (V : List Value) (n : Nat) (e : Ending) : Prop := ∃ r : Int, e = .returned (.int .i64 r) ∧ -1 ≤ r ∧ (0 ≤ r → ∃ i, i < n ∧ V.getD i .nilIface = .nilIface) ∧ (r < 0 → ∀ i, i < n → V.getD i .nilIface ≠ .nilIface)
set_option maxHeartbeats 1000000 in
set_option maxRecDepth 100000 in
theorem windex_c (ad : Option Addr) (n cap : Nat) (V : List Value) (w : World) (hs : SlW w ad n cap V) (hV : ∀ i, i < n → WVal (V.getD i .nilIface)) :
    Calls Try.prog 31 #[.slice ad n cap, .func (.func 27) #[] #[]] w fun e w' => WIdx V n e ∧ w = w' := by
  have HS := Lib.hid hs
  have HV := Lib.hid hV
  have hcap : n ≤ 9223372036854775807 := by have := hs.2.1; have := hs.2.2.1; omega
  clear hs hV
  go_enter Try.func31, Try.ntmps31
  go_wp2
  go_loopw [8] (fun s wr => ∃ i : Nat, i ≤ n ∧ s = .int .i64 i ∧ w = wr ∧ Hid (∀ k, k < i → V.getD k .nilIface ≠ .nilIface)) (fun s _ => n - (intOf s).toNat)
  case atStart => exact ⟨0, by omega, rfl, rfl, Lib.hid (fun k hk => absurd hk (Nat.not_lt_zero k))⟩
  case round =>
    obtain ⟨i, hi, rfl, rfl, hno⟩ := hrel
    by_cases hlt : i < n
    · obtain ⟨b, rfl, hc⟩ : ∃ b, ad = some ⟨b, 0, none⟩ ∧ ∀ i, i < n → w.cell? ⟨b, i, none⟩ = some (V.getD i .nilIface) := by
        rcases HS.out.2.2.2 with h | h
        · omega
        · exact h
      have k0 := hc i hlt
      clear hc
      have hv := HV.out i hlt
      obtain ⟨y, hy⟩ : ∃ y, V.getD i .nilIface = y := ⟨_, rfl⟩
      rw [hy] at k0 hv
      have HYY := Lib.hid hy
      clear hy
      rcases hv with rfl | ⟨c, rfl⟩
      · go_wp2_with fail
        refine (wnil_c w).mono ?_
        rintro e w' ⟨rfl, rfl⟩
        go_wp2
        refine bodyPost_ret (results_tmp rfl _ _ _) rfl ?_
        exact ⟨⟨i, rfl, by omega, fun _ => ⟨i, hlt, HYY.out⟩, fun h => by omega⟩, rfl⟩
      · go_wp2_with fail
        refine (wsome_c c w).mono ?_
        rintro e w' ⟨rfl, rfl⟩
        go_wp2
        go_roundw
        case rel => exact ⟨i + 1, by omega, by go_num, trivial, Lib.hid (fun k hk => by
          rcases Nat.lt_or_ge k i with h | h
          · exact hno.out k h
          · have : k = i := by omega
            rw [this, HYY.out]; intro h; cases h)⟩
        case measure => simp [intOf]; omega
    · have hin : i = n := by omega
      go_wp2
      refine bodyPost_ret (results_tmp rfl _ _ _) rfl ?_
      exact ⟨⟨-1, rfl, by omega, fun h => by omega, fun _ k hk => hno.out k (by omega)⟩, rfl⟩
set_option maxRecDepth 100000 in
theorem wcontains_c (ad : Option Addr) (n cap : Nat) (V : List Value) (w : World) (hs : SlW w ad n cap V) (hV : ∀ i, i < n → WVal (V.getD i .nilIface)) :
    Calls Try.prog 26 #[.slice ad n cap, .func (.func 27) #[] #[]] w fun e w' => BoolSays (∃ i, i < n ∧ V.getD i .nilIface = .nilIface) e ∧ w = w' := by
  have HS := Lib.hid hs
  have HV := Lib.hid hV
  clear hs hV
  go_enter Try.func26, Try.ntmps26
  go_wp2_with fail
  refine (windex_c ad n cap V w HS.out HV.out).mono ?_
  rintro e w' ⟨⟨r, rfl, hr, h1, h2⟩, rfl⟩
  have H1 := Lib.hid h1
  have H2 := Lib.hid h2
  clear h1 h2
  by_cases h : 0 ≤ r
  · go_wp2
    refine bodyPost_ret (results_tmp rfl _ _ _) rfl ?_
    exact ⟨⟨true, rfl, fun _ => H1.out h, fun _ => rfl⟩, rfl⟩
  · go_wp2
    refine bodyPost_ret (results_tmp rfl _ _ _) rfl ?_
    exact ⟨⟨false, by (show Ending.returned (.bool (decide (0 ≤ r))) = _; rw [decide_eq_false (by omega)]), fun h => (by cases h), fun ⟨i, h1, h2⟩ => (by have := H2.out (by omega) i h1; exact absurd h2 this)⟩, rfl⟩
/-- where Run rejects -/
theorem crun_neg (ad : Option Addr) (n cap : Nat) (V : List Value) (a1 : Option Addr) (n1 c1 : Nat) (most : Int) (w : World) (hs : SlW w ad n cap V) (hV : ∀ i, i < n → WVal (V.getD i .nilIface)) (hbad : most < 0 ∨ ∃ i, i < n ∧ V.getD i .nilIface = .nilIface) :
    Calls Try.prog 15 #[.slice ad n cap, .slice a1 n1 c1, .int .i64 most] w fun e w' => e = .returned (.tuple #[.int .i64 0, .int .i64 1]) ∧ w.alloc (.cells #[.slice ad n cap] 31) = w' := by
  have HS := Lib.hid hs
  have HV := Lib.hid hV
  clear hs hV
  by_cases hm : most < 0
  · clear hbad
    go_enter Try.func15, Try.ntmps15
    go_wp2
    refine bodyPost_ret (results_tmp2 rfl _ _ _) rfl ?_
    exact ⟨rfl, rfl⟩
  · have HB := Lib.hid (hbad.resolve_left hm)
    clear hbad
    have HS2 : Hid (SlW (w.alloc (.cells #[.slice ad n cap] 31)) ad n cap V) := Lib.hid (by
      obtain ⟨q1, q2, q3, q4⟩ := HS.out
      refine ⟨q1, q2, q3, ?_⟩
      rcases q4 with h | ⟨b, e, hc⟩
      · exact .inl h
      · exact .inr ⟨b, e, fun i hi => by rw [World.cell?_alloc_some _ _ _ (by rw [hc i hi]; rfl)]; exact hc i hi⟩)
    go_enter Try.func15, Try.ntmps15
    go_wp2_with fail
    refine (wcontains_c ad n cap V _ HS2.out HV.out).mono ?_
    rintro e w' ⟨⟨b, rfl, hb⟩, rfl⟩
    have hbt := hb.2 HB.out
    subst hbt
    clear hb
    go_wp2
    refine bodyPost_ret (results_tmp2 rfl _ _ _) rfl ?_
    exact ⟨rfl, rfl⟩
/-- what Run answers for a crew of counters -/
def CRunSays (w0 : World) (bg : Nat) (C : List Nat) (la : Option Addr) (n lc : Nat) (R : List Nat × Int) (e : Ending) (w' : World) : Prop := ∃ bw u L', e = .returned (.tuple #[.int .i64 (R.1.length : Nat), .int .i64 R.2]) ∧ ICnt w0 bg bw C la n lc u w' L' R.1
theorem wvals_get {C : List Nat} {i : Nat} (h : i < C.length) : (wvals C).getD i .nilIface = .iface 52 (.pointer (some ⟨C.getD i 0, 0, none⟩)) := by
  rw [List.getD_eq_getElem?_getD, wvals_at h]; rfl
theorem SlW.crew {w : World} {base n c : Nat} {a : Option Addr} {C : List Nat} (h : w.ownsRow base 38 1 (.slice a n c) n (wvals C)) (hC : C.length = n) : SlW w a n c (wvals C) := by
  refine ⟨by rw [wvals_len, hC], ?_, ?_, ?_⟩
  · rcases h.2 with ⟨hv, h0⟩ | ⟨g, cap, cur, hv, hg, hh, h1, h2, _⟩
    · omega
    · injection hv with e1 e2 e3; omega
  · rcases h.2 with ⟨hv, h0⟩ | ⟨g, cap, cur, hv, hg, hh, h1, h2, _⟩
    · injection hv with e1 e2 e3; omega
    · injection hv with e1 e2 e3; unfold maxLen at h2; omega
  · by_cases hn : n = 0
    · exact .inl hn
    · obtain ⟨g, e, hc⟩ := wv_some h hC (by omega)
      exact .inr ⟨g, e, fun i hi => by rw [hc i hi, wvals_get (by omega)]⟩
set_option maxHeartbeats 2000000 in
set_option maxRecDepth 100000 in
theorem crun_c (w0 : World) (bg : Nat) (C : List Nat) (la : Option Addr) (n lc : Nat) (L : List Nat) (a1 : Option Addr) (n1 c1 : Nat) (S : List Nat) (most : Int) (w : World) (hbg : bg = w0.heap.size + 1) (hP : CrewP w0 bg (ints L) C w) (hO : w.ownsRow (bg + 1) 38 1 (.slice la n lc) n (wvals C)) (hC : C.length = n) (hL : L.length = n)
    (hpos : ∀ i, i < n → 0 < L.getD i 0) (hn : n ≤ 12) (hsum : L.sum ≤ 600) (h1 : SlS w0 a1 n1 c1 S) (hS : ∀ i, S.getD i 0 < 256) (hm : 0 ≤ most) :
    Calls Try.prog 15 #[.slice la n lc, .slice a1 n1 c1, .int .i64 most] w fun e w' => CRunSays w0 bg C la n lc (ord S most L.sum L (-1) []) e w' := by
  have lb := lt_of_block hP.log
  have FX : Hid (Fixed w0 bg w.heap.size C la n lc (w.alloc (.cells #[.slice la n lc] 31)).heap.size) := Lib.hid (by
    have hz := hP.bel.size
    rw [World.size_alloc]
    exact ⟨by omega, by omega, hz, by omega, hC, fun k hk => ⟨by have := (hP.cnt k (by omega)).1; omega, by have := (hP.cnt k (by omega)).2.lt; omega⟩, fun j k hj hk => hP.inj j k (by omega) (by omega), fun k hk => by have := (hO.lt k hk).2; omega⟩)
  have IC : Hid (ICnt w0 bg w.heap.size C la n lc (w.alloc (.cells #[.slice la n lc] 31)).heap.size (w.alloc (.cells #[.slice la n lc] 31)) L []) := Lib.hid (by
    refine ⟨hP.bel.alloc hP.bel.size _, Nat.le_refl _, ⟨_, ?_, hP.owl.below ((Below.refl _ _).alloc (Nat.le_refl _) _), ?_⟩, fun k hk => ?_, heap_alloc_new w _, ?_, hL⟩
    · rw [Below.heap_alloc _ _ _ lb]; exact hP.log
    · intro e
      have e1 : w0.heap.size = (w.alloc (.cells #[.slice la n lc] 31)).heap.size := Option.some.inj e
      rw [World.size_alloc] at e1; omega
    · have := hP.cnt k (by omega)
      rw [ints_at] at this
      exact this.2.of (Below.heap_alloc _ _ _ this.2.lt)
    · obtain ⟨q1, q2⟩ := hO.alloc (.cells #[.slice la n lc] 31)
      exact ⟨q1, q2.elim Or.inl (fun ⟨g, cap, cur, hv, hg, r⟩ => Or.inr ⟨g, cap, cur, hv, by omega, r⟩)⟩)
  have WS : Hid (SlW (w.alloc (.cells #[.slice la n lc] 31)) la n lc (wvals C)) := Lib.hid (SlW.crew (hO.alloc _) hC)
  have WV : Hid (∀ i, i < n → WVal ((wvals C).getD i .nilIface)) := Lib.hid (fun i hi => .inr ⟨_, wvals_get (by omega)⟩)
  have WN : Hid (∀ i, i < n → (wvals C).getD i .nilIface ≠ .nilIface) := Lib.hid (fun i hi => by rw [wvals_get (by omega)]; intro h; cases h)
  have H1 := Lib.hid h1; clear h1
  have HP := Lib.hid hpos; clear hpos
  have HSB := Lib.hid hS; clear hS
  have HL := Lib.hid hL; clear hL
  have HSm := Lib.hid hsum; clear hsum
  obtain ⟨R, hR⟩ : ∃ R, ord S most L.sum L (-1) [] = R := ⟨_, rfl⟩
  rw [hR]
  have HR := Lib.hid hR; clear hR
  clear hP hO hC hbg lb
  go_enter Try.func15, Try.ntmps15
  go_wp2_with fail
  refine (wcontains_c la n lc (wvals C) _ WS.out WV.out).mono ?_
  rintro e w' ⟨⟨b, rfl, hb⟩, rfl⟩
  obtain rfl : b = false := by
    cases b with
    | false => rfl
    | true =>
      obtain ⟨i, h1, h2⟩ := hb.1 rfl
      exact absurd h2 (WN.out i h1)
  clear hb WS WV WN
  have OK : Hid (StepOk 28 #[.pointer (some ⟨w.heap.size, 0, none⟩)] w0 (w.alloc (.cells #[.slice la n lc] 31)).heap.size (ICnt w0 bg w.heap.size C la n lc (w.alloc (.cells #[.slice la n lc] 31)).heap.size)) := Lib.hid (ICnt.ok FX.out)
  go_wp2_with fail
  refine (run_c 28 _ enters28 n L a1 n1 c1 S most _ w0 _ HL.out HP.out hn HSm.out OK.out IC.out H1.out HSB.out hm).mono ?_
  rintro e w3 ⟨L', rfl, hi⟩
  rw [HR.out] at hi ⊢
  have HI := Lib.hid hi
  clear hi
  go_wp2
  refine bodyPost_ret (results_tmp2 rfl _ _ _) rfl ?_
  exact ⟨_, _, L', rfl, HI.out⟩

end Go.Proofs.Ytigokfcoofbdlaa
