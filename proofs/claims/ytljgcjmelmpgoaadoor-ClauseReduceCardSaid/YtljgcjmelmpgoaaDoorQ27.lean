/- DeleteFunc. -/
import Derived.Test.YtljgcjmelmpgoaaDoorQ26
namespace Go.Proofs.YtljgcjmelmpgoaaDoor
open Go.RowKit
set_option linter.unusedVariables false

set_option maxHeartbeats 2000000 in
set_option maxRecDepth 100000 in
/-- the closure: whether a literal is about a unit -/
theorem clo43_c (u : Int) (o : Bool) (x : Int) (bu : Nat) (w : World) (hc : w.cell? ⟨bu, 0, none⟩ = some (.int .i64 x)) (hlt : bu < w.heap.size) :
    Calls Tryd.prog 43 #[.agg #[.int .i64 u, .bool o], .pointer (some ⟨bu, 0, none⟩)] w fun e w' => e = .returned (.bool (u == x)) ∧ Below w.heap.size w w' := by
  have BX : Hid (Below w.heap.size w (w.alloc (.cells #[.int .i64 u, .bool o] 30))) := Lib.hid ((Below.refl _ _).alloc (Nat.le_refl _) _)
  have hne : bu ≠ w.heap.size := by omega
  have hne' : ¬ bu = w.heap.size := hne
  go_enter Tryd.func43, Tryd.ntmps43
  go_wp2
  refine bodyPost_ret (results_tmp rfl _ _ _) rfl ?_
  exact ⟨rfl, BX.out⟩
/-- what IndexFunc answers -/
def IdxSays (L : List Lt) (x : Int) (e : Ending) : Prop :=
  (e = .returned (.int .i64 (-1)) ∧ ∀ k, k < L.length → (L.getD k d0).1 ≠ x) ∨ ∃ j : Nat, e = .returned (.int .i64 (j : Nat)) ∧ j < L.length ∧ (L.getD j d0).1 = x ∧ ∀ k, k < j → (L.getD k d0).1 ≠ x
set_option maxHeartbeats 2000000 in
set_option maxRecDepth 100000 in
theorem index_c (ad : Option Addr) (n cap : Nat) (L : List Lt) (x : Int) (bu : Nat) (w : World) (hs : SlL w ad n cap L) (hn : n ≤ 100000) (hc : w.cell? ⟨bu, 0, none⟩ = some (.int .i64 x)) (hlt : bu < w.heap.size) :
    Calls Tryd.prog 56 #[.slice ad n cap, .func (.func 43) #[] #[.pointer (some ⟨bu, 0, none⟩)]] w fun e w' => IdxSays L x e ∧ Below w.heap.size w w' := by
  have HS := Lib.hid hs
  have HC := Lib.hid hc
  have HBU := Lib.hid hlt
  clear hs hc hlt
  go_enter Tryd.func56, Tryd.ntmps56
  go_wp2
  go_loopw [5, 8] (fun s5 s wr => ∃ i : Nat, i ≤ n ∧ s = .int .i64 (i : Nat) ∧ Hid (∀ k, k < i → (L.getD k d0).1 ≠ x) ∧ Hid (Below w.heap.size w wr)) (fun _ s _ => n - (intOf s).toNat)
  case atStart => exact ⟨0, by omega, rfl, Lib.hid (fun k hk => absurd hk (Nat.not_lt_zero k)), Lib.hid (Below.refl _ _)⟩
  case round =>
    obtain ⟨i, hi, rfl, hno, HB⟩ := hrel
    by_cases hlt : i < n
    · obtain ⟨b, off, rfl, hb, hc⟩ := (HS.out.below HB.out).at (by omega)
      obtain ⟨k0, k1⟩ := hc i hlt
      clear hc
      obtain ⟨u, hu⟩ : ∃ u, (L.getD i d0).1 = u := ⟨_, rfl⟩
      obtain ⟨o, ho⟩ : ∃ o, (L.getD i d0).2 = o := ⟨_, rfl⟩
      rw [hu] at k0
      rw [ho] at k1
      have HU := Lib.hid hu
      clear hu ho
      have hi0 : (0 : Int) ≤ (i : Int) := by omega
      have hi1 : (i : Int) < (n : Int) := by omega
      go_wp2_with fail
      refine Calls.mono (clo43_c u o x bu wr ((HB.out.cell (p := ⟨bu, 0, none⟩) HBU.out).trans HC.out) (Nat.lt_of_lt_of_le HBU.out HB.out.size)) ?_
      rintro e w2 ⟨rfl, hb2⟩
      have B2 := Lib.hid (HB.out.trans (hb2.mono HB.out.size))
      clear hb2 k0 k1 hb
      by_cases he : u = x
      · have hq : (u == x) = true := by rw [he]; simp
        have IS : Hid (IdxSays L x (.returned (.int .i64 (i : Nat)))) := Lib.hid (.inr ⟨i, rfl, by rw [HS.out.1]; exact hlt, by rw [HU.out]; exact he, hno.out⟩)
        clear he
        go_wp2
        refine bodyPost_ret (results_tmp rfl _ _ _) rfl ?_
        exact ⟨IS.out, B2.out⟩
      · have hq : (u == x) = false := by simpa using he
        have HN : Hid (∀ k, k < i + 1 → (L.getD k d0).1 ≠ x) := Lib.hid (fun k hk => by
          by_cases hki : k = i
          · rw [hki, HU.out]; exact he
          · exact hno.out k (by omega))
        clear he
        go_wp2
        go_roundw
        case rel => exact ⟨i + 1, by omega, by go_num, HN, B2⟩
        case measure => simp [intOf]; omega
    · have IS : Hid (IdxSays L x (.returned (.int .i64 (-1)))) := Lib.hid (.inl ⟨rfl, fun k hk => hno.out k (by rw [HS.out.1] at hk; omega)⟩)
      have hne : ¬ (i : Int) < (n : Int) := by omega
      go_wp2
      refine bodyPost_ret (results_tmp rfl _ _ _) rfl ?_
      exact ⟨IS.out, HB.out⟩
/-- the literals that are not about a unit -/
def but (x : Int) (L : List Lt) : List Lt := L.filter fun y => !(y.1 == x)
theorem but_snoc {L : List Lt} {x : Int} {j : Nat} {y : Lt} (h : j < L.length) (hy : L.getD j d0 = y) : but x (L.take (j + 1)) = if (y.1 == x) = true then but x (L.take j) else but x (L.take j) ++ [y] := by
  unfold but
  rw [take_snoc h, hy, List.filter_append]
  cases hq : (y.1 == x) <;> simp [hq]
theorem but_same {L : List Lt} {x : Int} : ∀ {k : Nat}, k ≤ L.length → (∀ i, i < k → (L.getD i d0).1 ≠ x) → but x (L.take k) = L.take k
  | 0, _, _ => by rw [List.take_zero]; rfl
  | k + 1, h, hn => by
    rw [but_snoc h rfl, if_neg (by simpa using hn k (by omega)), but_same (by omega) (fun i hi => hn i (by omega))]
    exact (take_snoc h).symm
/-- what DeleteFunc leaves -/
def DelSays (w : World) (base : Nat) (x : Int) (L : List Lt) (e : Ending) (w' : World) : Prop := ∃ v, e = .returned v ∧ OwnL w' base v (but x L) ∧ Below base w w'
set_option maxHeartbeats 4000000 in
set_option maxRecDepth 100000 in
theorem del_off (base g off n cap bu : Nat) (x : Int) (ho : off = 0) (L : List Lt) (w : World) (hO : OwnL w base (.slice (some ⟨g, 0, none⟩) n cap) L) (hL : L.length = n) (hn : n ≤ 4000) (hb : base ≤ w.heap.size) (hc : w.cell? ⟨bu, 0, none⟩ = some (.int .i64 x)) (hbu : bu < base) :
    Calls Tryd.prog 41 #[.slice (some ⟨g, off, none⟩) n cap, .func (.func 43) #[] #[.pointer (some ⟨bu, 0, none⟩)]] w fun e w' => DelSays w base x L e w' := by
  have HO := Lib.hid hO
  have HL := Lib.hid hL
  have HOFF := Lib.hid ho
  have HBS := Lib.hid hb
  have HC := Lib.hid hc
  have HBU := Lib.hid hbu
  obtain ⟨hbg, hnc, hcm, hgs⟩ := hO.base
  have HBG := Lib.hid hbg
  clear hO hL ho hb hbg hgs hc hbu
  have HSL : Hid (SlL w (some ⟨g, off, none⟩) n cap L) := Lib.hid (by rw [HOFF.out]; exact HO.out.sl HL.out)
  go_enter Tryd.func41, Tryd.ntmps41
  go_wp2_with fail
  refine Calls.mono (index_c (some ⟨g, off, none⟩) n cap L x bu w HSL.out (by omega) HC.out (Nat.lt_of_lt_of_le HBU.out HBS.out)) ?_
  rintro e w1 ⟨hi, hb1⟩
  have B1 := Lib.hid hb1
  clear hb1
  rcases hi with ⟨rfl, hno⟩ | ⟨j0, rfl, hj0, hx0, hno⟩
  · have HF : Hid (but x L = L) := Lib.hid (by
      have := but_same (L := L) (x := x) (k := L.length) (Nat.le_refl _) hno
      rwa [List.take_length] at this)
    have hoff := HOFF.out
    clear hno
    go_wp2
    refine bodyPost_ret (results_tmp rfl _ _ _) rfl ?_
    exact ⟨_, rfl, by rw [HF.out]; exact HO.out.below B1.out, B1.out.mono HBS.out⟩
  · rw [HL.out] at hj0
    have HX0 := Lib.hid hx0
    have HNO := Lib.hid hno
    have hjm : ((j0 : Int) == -1) = false := by rw [beq_eq_false_iff_ne]; omega
    clear hx0 hno
    go_wp2
    clear hjm
    go_loopw [5, 6, 7] (fun s5 s6 s7 wr => ∃ (m j : Nat) (X : List Lt), s5 = .int .i64 (m : Nat) ∧ s6 = .int .i64 (j : Nat) ∧ 1 ≤ j ∧ j ≤ n ∧ m < j ∧ Hid (X.length = n) ∧ Hid (OwnL wr base (.slice (some ⟨g, 0, none⟩) n cap) X) ∧ Hid (X.take m = but x (L.take j)) ∧ Hid (∀ i, j ≤ i → X.getD i d0 = L.getD i d0) ∧ Hid (Below base w wr)) (fun _ s6 _ _ => n - (intOf s6).toNat)
    case atStart => exact ⟨j0, j0 + 1, L, rfl, by go_num, by omega, by omega, by omega, HL, Lib.hid (HO.out.below B1.out), Lib.hid (by
        rw [but_snoc (y := L.getD j0 d0) (by rw [HL.out]; exact hj0) rfl, if_pos (by rw [HX0.out]; simp), but_same (by rw [HL.out]; omega) HNO.out]), Lib.hid (fun i _ => rfl), Lib.hid (B1.out.mono HBS.out)⟩
    case round =>
      obtain ⟨m, j, X, rfl, rfl, hj1, hjn, hm, HXL, HOX, HTK, HSM, HBX⟩ := hrel
      by_cases hlt2 : j < n
      · obtain ⟨y0, y1, _, _⟩ := HOX.out.cell HXL.out HOFF.out hlt2
        rw [HSM.out j (Nat.le_refl _)] at y0 y1
        obtain ⟨qu, hqu⟩ : ∃ u, (L.getD j d0).1 = u := ⟨_, rfl⟩
        obtain ⟨qo, hqo⟩ : ∃ u, (L.getD j d0).2 = u := ⟨_, rfl⟩
        rw [hqu] at y0
        rw [hqo] at y1
        have HQ : Hid (L.getD j d0 = (qu, qo)) := Lib.hid (by rw [← hqu, ← hqo])
        have i0 : (0 : Int) ≤ (j : Int) := by omega
        have i1 : (j : Int) < (n : Int) := by omega
        have BA : Hid (Below base w (wr.alloc (.cells #[.int .i64 qu, .bool qo] 30))) := Lib.hid (HBX.out.alloc (Nat.le_trans HBS.out HBX.out.size) _)
        have HNW : Hid ((wr.alloc (.cells #[.int .i64 qu, .bool qo] 30)).heap[wr.heap.size]? = some (.cells #[.int .i64 qu, .bool qo] 30 (0, 0))) := Lib.hid (heap_alloc_new wr _)
        have SZ : Hid ((wr.alloc (.cells #[.int .i64 qu, .bool qo] 30)).heap.size = wr.heap.size + 1) := Lib.hid (by simp)
        have OA : Hid (OwnL (wr.alloc (.cells #[.int .i64 qu, .bool qo] 30)) base (.slice (some ⟨g, 0, none⟩) n cap) X) := Lib.hid (HOX.out.below ((Below.refl _ _).alloc (Nat.le_refl _) _))
        have CS : Hid (but x (L.take (j + 1)) = if (qu == x) = true then but x (L.take j) else but x (L.take j) ++ [(qu, qo)]) := Lib.hid (but_snoc (by rw [HL.out]; exact hlt2) HQ.out)
        clear hqu hqo
        go_wp2_with fail
        refine Calls.mono (clo43_c qu qo x bu _ ((BA.out.cell (p := ⟨bu, 0, none⟩) HBU.out).trans HC.out) (by rw [SZ.out]; have := HBU.out; have := HBX.out.size; have := HBS.out; omega)) ?_
        rintro e w2 ⟨rfl, hb2⟩
        have B2 := Lib.hid (BA.out.trans (hb2.mono (Nat.le_trans HBS.out BA.out.size)))
        have O2 := Lib.hid (OA.out.below hb2)
        have hl2 : w2.heap[wr.heap.size]? = some (.cells #[.int .i64 qu, .bool qo] 30 (0, 0)) := by rw [hb2.block _ (by rw [SZ.out]; omega)]; exact HNW.out
        obtain ⟨bx, hbx⟩ : ∃ y, wr.heap.size = y := ⟨_, rfl⟩
        rw [hbx] at hl2 ⊢
        have x0 : w2.cell? ⟨bx, 0, none⟩ = some (.int .i64 qu) := by rw [cell_of_row w2 bx 0 _ 30 (0, 0) hl2]; rfl
        have x1 : w2.cell? ⟨bx, 1, none⟩ = some (.bool qo) := by rw [cell_of_row w2 bx 1 _ 30 (0, 0) hl2]; rfl
        obtain ⟨z0, z1, f0, f1⟩ := O2.out.cell HXL.out HOFF.out (i := m) (by omega)
        clear hb2 hbx hl2 y0 y1
        have i7 : m < n := by omega
        have i8 : (0 : Int) ≤ (m : Int) := by omega
        have i9 : (m : Int) < (n : Int) := by omega
        by_cases he : (qu == x) = true
        · have HCS : Hid (but x (L.take (j + 1)) = but x (L.take j)) := Lib.hid (by rw [CS.out, if_pos he])
          rw [he]
          clear he CS z0 z1 f0 f1 x0 x1
          go_wp2
          go_roundw
          case rel => exact ⟨m, j + 1, X, rfl, by go_num, by omega, by omega, by omega, HXL, O2, Lib.hid (by rw [HCS.out]; exact HTK.out), Lib.hid (fun i hi => HSM.out i (by omega)), B2⟩
          case measure => simp [intOf]; omega
        · have HCS : Hid (but x (L.take (j + 1)) = but x (L.take j) ++ [(qu, qo)]) := Lib.hid (by rw [CS.out, if_neg he])
          have he' : (qu == x) = false := by simpa using he
          rw [he']
          clear he he' CS
          go_wp2
          go_roundw
          case rel => exact ⟨m + 1, j + 1, X.set m (qu, qo), by go_num, by go_num, by omega, by omega, by omega, Lib.hid (by rw [List.length_set]; exact HXL.out), Lib.hid (OwnL.set O2.out HXL.out HOFF.out m qu qo), Lib.hid (by rw [HCS.out]; exact take_set_len HTK.out (by rw [HXL.out]; omega)), Lib.hid (fun i hi => by
            rw [List.getD_eq_getElem?_getD, List.getElem?_set_ne (by omega), ← List.getD_eq_getElem?_getD]
            exact HSM.out i (by omega)), Lib.hid ((B2.out.setCell (p := ⟨g, off + m * 2, none⟩) HBG.out _).setCell (p := ⟨g, off + m * 2 + 1, none⟩) HBG.out _)⟩
          case measure => simp [intOf]; omega
      · have hend : j = n := by omega
        have hcl := fun ty => run_clear_lts wr ty g (off + m * 2) (n - m) (cap - m) (by omega) (fun t ht => by
          rw [show off + m * 2 + t = off + (m * 2 + t) by omega]
          have h := HOX.out
          unfold OwnL at h
          rw [HXL.out] at h
          rw [HOFF.out, Nat.zero_add, World.ownsRow.cellAt h _ (by omega), List.getElem?_eq_getElem (by rw [lvals_len, HXL.out]; omega)]; rfl) (fun t ht => by
          rw [show off + m * 2 + t = off + (m * 2 + t) by omega]
          have h := HOX.out
          unfold OwnL at h
          rw [HXL.out] at h
          rw [HOFF.out, Nat.zero_add]
          exact World.ownsRow.frozenAt h _)
        have hcl24 : ∀ ty, (Builtin.clear_ #[24] ty #[.slice (some ⟨g, off + m * 2, none⟩) (n - m) (cap - m)]).run Tryd.prog wr = .ok (.tuple #[]) (wr.setCells g (off + m * 2) (zlist (n - m))) := fun ty => by
          rw [← hcl ty]
          unfold Builtin.clear_
          simp [run_underlying Tryd.underlying22, run_underlying Tryd.underlying24]
        have HD := Lib.hid (HOX.out.cleared HXL.out HOFF.out (m := m) (by omega) HTK.out (zlist (n - m)))
        have i7 : m < n := by omega
        have i8 : m ≤ cap := by omega
        have HEND := Lib.hid hend
        clear hend hcl
        have i9 : ¬ (j : Int) < (n : Int) := by have := HEND.out; omega
        go_wp2
        refine bodyPost_ret (results_tmp rfl _ _ _) rfl ?_
        have HD1 := HD.out.1
        rw [HEND.out, List.take_of_length_le (by rw [HL.out]; exact Nat.le_refl _)] at HD1
        have ho := HOFF.out
        subst ho
        exact ⟨_, rfl, HD1, HBX.out.grown HD.out.2 (Nat.le_trans HBS.out HBX.out.size) (fun t ht => by have := Option.some.inj ht; have := HBG.out; omega)⟩
set_option maxHeartbeats 1000000 in
set_option maxRecDepth 100000 in
theorem del_nil (base bu : Nat) (x : Int) (w : World) (hb : base ≤ w.heap.size) (hc : w.cell? ⟨bu, 0, none⟩ = some (.int .i64 x)) (hbu : bu < base) :
    Calls Tryd.prog 41 #[.slice none 0 0, .func (.func 43) #[] #[.pointer (some ⟨bu, 0, none⟩)]] w fun e w' => DelSays w base x [] e w' := by
  have HBS := Lib.hid hb
  have HC := Lib.hid hc
  have HBU := Lib.hid hbu
  clear hb hc hbu
  go_enter Tryd.func41, Tryd.ntmps41
  go_wp2_with fail
  refine Calls.mono (index_c none 0 0 [] x bu w (SlL.nil _ _ _ (by omega)) (by omega) HC.out (Nat.lt_of_lt_of_le HBU.out HBS.out)) ?_
  rintro e w1 ⟨hi, hb1⟩
  have B1 := Lib.hid hb1
  clear hb1
  rcases hi with ⟨rfl, hno⟩ | ⟨j0, rfl, hj0, hx0, hno⟩
  · clear hno
    go_wp2
    refine bodyPost_ret (results_tmp rfl _ _ _) rfl ?_
    exact ⟨_, rfl, ⟨rfl, .inl ⟨rfl, rfl⟩⟩, B1.out.mono HBS.out⟩
  · cases hj0
theorem del_c (base bu : Nat) (x : Int) (v : Value) (L : List Lt) (w : World) (hO : OwnL w base v L) (hn : L.length ≤ 4000) (hb : base ≤ w.heap.size) (hc : w.cell? ⟨bu, 0, none⟩ = some (.int .i64 x)) (hbu : bu < base) :
    Calls Tryd.prog 41 #[v, .func (.func 43) #[] #[.pointer (some ⟨bu, 0, none⟩)]] w fun e w' => DelSays w base x L e w' := by
  rcases id hO.2 with ⟨rfl, h0⟩ | ⟨g, cap, cur, rfl, _⟩
  · obtain rfl : L = [] := List.eq_nil_of_length_eq_zero h0
    exact del_nil base bu x w hb hc hbu
  · exact del_off base g 0 L.length cap bu x rfl L w hO rfl hn hb hc hbu

end Go.Proofs.YtljgcjmelmpgoaaDoor
