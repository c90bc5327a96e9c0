/- DeleteFunc of clauses. -/
import Derived.Test.YtljgcjmelmpgoaaDoorQ41
namespace Go.Proofs.YtljgcjmelmpgoaaDoor
open Go.RowKit
set_option linter.unusedVariables false

/-- the valid clauses -/
def vlds (K : List Cl) : List Cl := K.filter fun x => vld x.2
theorem ctake_snoc {L : List Cl} {i : Nat} (h : i < L.length) : L.take (i + 1) = L.take i ++ [L.getD i c0] := by
  rw [List.take_succ_eq_append_getElem h]; simp [h]
theorem vlds_snoc {K : List Cl} {j : Nat} {y : Cl} (h : j < K.length) (hy : K.getD j c0 = y) : vlds (K.take (j + 1)) = if vld y.2 = true then vlds (K.take j) ++ [y] else vlds (K.take j) := by
  unfold vlds
  rw [ctake_snoc h, hy, List.filter_append]
  cases hq : vld y.2 <;> simp [hq]
theorem vlds_same {K : List Cl} : ∀ {k : Nat}, k ≤ K.length → (∀ i, i < k → vld (K.getD i c0).2 = true) → vlds (K.take k) = K.take k
  | 0, _, _ => by rw [List.take_zero]; rfl
  | k + 1, h, hn => by
    rw [vlds_snoc h rfl, if_pos (hn k (by omega)), vlds_same (by omega) (fun i hi => hn i (by omega))]
    exact (ctake_snoc h).symm
theorem OwnC.set {w : World} {base g n cap : Nat} {X : List Cl} (h : OwnC w base (.slice (some ⟨g, 0, none⟩) n cap) X) (hX : X.length = n) {off : Nat} (ho : off = 0) (m : Nat) (x : Cl) :
    OwnC (w.setCell ⟨g, off + m, none⟩ x.val) base (.slice (some ⟨g, 0, none⟩) n cap) (X.set m x) := by
  subst ho
  unfold OwnC at h ⊢
  rw [List.length_set, hX, List.map_set, Nat.zero_add]
  rw [hX] at h
  exact (World.ownsRow.stored h m _).1
theorem crow_setCells {base g n cap : Nat} : ∀ (vs xs : List Value) (j : Nat) (w : World), w.ownsRow base 24 1 (.slice (some ⟨g, 0, none⟩) n cap) n xs → (w.setCells g j vs).ownsRow base 24 1 (.slice (some ⟨g, 0, none⟩) n cap) n (setL xs j vs) ∧ w.grownBy (w.setCells g j vs) (some g)
  | [], xs, j, w, h => ⟨h, ⟨rfl, rfl, rfl, Nat.le_refl _, fun _ _ _ => rfl⟩⟩
  | v :: r, xs, j, w, h => by
    have h1 := World.ownsRow.stored h j v
    have h2 := crow_setCells r (xs.set j v) (j + 1) _ h1.1
    refine ⟨h2.1, ⟨h2.2.os.trans h1.2.os, h2.2.tape.trans h1.2.tape, h2.2.output.trans h1.2.output, Nat.le_trans h1.2.size h2.2.size, fun k hk hne => ?_⟩⟩
    exact (h2.2.block k (Nat.lt_of_lt_of_le hk h1.2.size) hne).trans (h1.2.block k hk hne)
theorem crow_shrink {w : World} {base g n m cap : Nat} {xs : List Value} (h : w.ownsRow base 24 1 (.slice (some ⟨g, 0, none⟩) n cap) n xs) (hm : m ≤ n) : w.ownsRow base 24 1 (.slice (some ⟨g, 0, none⟩) m cap) m (xs.take m) := by
  have hl := h.1
  rcases h.2 with ⟨hv, _⟩ | ⟨g', cap', cur, hv, hg, hh, h1, h2, h3, h4⟩
  · cases hv
  · injection hv with e1 e2 e3
    injection e1 with e1
    injection e1 with e1
    subst e1; subst e3
    refine ⟨by rw [List.length_take, hl]; omega, .inr ⟨g, cap, cur, rfl, hg, hh, by omega, h2, h3, ?_⟩⟩
    rw [← h4, List.take_take]; congr 1; omega
theorem OwnC.cleared {w : World} {base g n m cap : Nat} {X C : List Cl} (h : OwnC w base (.slice (some ⟨g, 0, none⟩) n cap) X) (hX : X.length = n) {off : Nat} (ho : off = 0) (hm : m ≤ n) (hC : X.take m = C) (vs : List Value) :
    OwnC (w.setCells g (off + m) vs) base (.slice (some ⟨g, 0, none⟩) m cap) C ∧ w.grownBy (w.setCells g (off + m) vs) (some g) := by
  subst ho
  unfold OwnC at h ⊢
  rw [hX] at h
  rw [Nat.zero_add]
  obtain ⟨h1, h2⟩ := crow_setCells vs (X.map Cl.val) m w h
  have h3 := crow_shrink h1 hm
  rw [setL_take _ _ _ _ (Nat.le_refl _), ← List.map_take, hC] at h3
  have hCl : C.length = m := by rw [← hC, List.length_take]; omega
  rw [hCl]
  exact ⟨h3, h2⟩
theorem ctake_set {X C : List Cl} {m : Nat} {y : Cl} (h : X.take m = C) (hm : m < X.length) : (X.set m y).take (m + 1) = C ++ [y] := by
  rw [ctake_snoc (by simpa using hm), List.take_set_of_le (Nat.le_refl _), h]
  simp [hm]
/-- what DeleteFunc leaves -/
def CDelSays (w : World) (base : Nat) (K : List Cl) (e : Ending) (w' : World) : Prop := ∃ v, e = .returned v ∧ OwnC w' base v (vlds K) ∧ Below base w w'
set_option maxHeartbeats 4000000 in
set_option maxRecDepth 100000 in
theorem cdel_off (base g off n cap : Nat) (ho : off = 0) (K : List Cl) (w : World) (hO : OwnC w base (.slice (some ⟨g, 0, none⟩) n cap) K) (hL : K.length = n) (hn : n ≤ 1000) (hb : base ≤ w.heap.size) (hk : ∀ x ∈ K, ∀ W, Below base w W → x.ok W) :
    Calls Tryd.prog 45 #[.slice (some ⟨g, off, none⟩) n cap, .func (.func 47) #[] #[]] w fun e w' => CDelSays w base K e w' := by
  have HO := Lib.hid hO
  have HL := Lib.hid hL
  have HOFF := Lib.hid ho
  have HBS := Lib.hid hb
  have HK := Lib.hid hk
  obtain ⟨hbg, hnc, hcm, hgs⟩ := hO.base
  have HBG := Lib.hid hbg
  clear hO hL ho hb hbg hgs hk
  have HSL : Hid (SlC w (some ⟨g, off, none⟩) n cap K) := Lib.hid (by rw [HOFF.out]; exact HO.out.sl HL.out (fun x hx => HK.out x hx w (Below.refl _ _)))
  go_enter Tryd.func45, Tryd.ntmps45
  go_wp2_with fail
  refine Calls.mono (cindex_c (some ⟨g, off, none⟩) n cap K w HSL.out (by omega)) ?_
  rintro e w1 ⟨hi, hb1⟩
  have B1 := Lib.hid hb1
  clear hb1
  rcases hi with ⟨rfl, hno⟩ | ⟨j0, rfl, hj0, hx0, hno⟩
  · have HF : Hid (vlds K = K) := Lib.hid (by
      have := vlds_same (K := K) (k := K.length) (Nat.le_refl _) hno
      rwa [List.take_length] at this)
    have hoff := HOFF.out
    clear hno
    go_wp2
    refine bodyPost_ret (results_tmp rfl _ _ _) rfl ?_
    exact ⟨_, rfl, by rw [HF.out]; exact HO.out.below B1.out, B1.out.mono HBS.out⟩
  · rw [HL.out] at hj0
    have HX0 := Lib.hid hx0
    have HNO := Lib.hid hno
    have hjm : ((j0 : Int) == -1) = false := by rw [beq_eq_false_iff_ne]; omega
    clear hx0 hno
    go_wp2
    clear hjm
    go_loopw [5, 6, 7] (fun s5 s6 s7 wr => ∃ (m j : Nat) (X : List Cl), s5 = .int .i64 (m : Nat) ∧ s6 = .int .i64 (j : Nat) ∧ 1 ≤ j ∧ j ≤ n ∧ m < j ∧ Hid (X.length = n) ∧ Hid (OwnC wr base (.slice (some ⟨g, 0, none⟩) n cap) X) ∧ Hid (X.take m = vlds (K.take j)) ∧ Hid (∀ i, j ≤ i → X.getD i c0 = K.getD i c0) ∧ Hid (Below base w wr)) (fun _ s6 _ _ => n - (RowKit.intOf s6).toNat)
    case atStart => exact ⟨j0, j0 + 1, K, rfl, by go_num, by omega, by omega, by omega, HL, Lib.hid (HO.out.below B1.out), Lib.hid (by
        rw [vlds_snoc (y := K.getD j0 c0) (by rw [HL.out]; exact hj0) rfl, if_neg (by rw [HX0.out]; decide), vlds_same (by rw [HL.out]; omega) HNO.out]), Lib.hid (fun i _ => rfl), Lib.hid (B1.out.mono HBS.out)⟩
    case round =>
      obtain ⟨m, j, X, rfl, rfl, hj1, hjn, hm, HXL, HOX, HTK, HSM, HBX⟩ := hrel
      by_cases hlt2 : j < n
      · obtain ⟨y0, _⟩ := HOX.out.cell HXL.out HOFF.out hlt2
        rw [HSM.out j (Nat.le_refl _)] at y0
        have HXK := Lib.hid (HK.out _ (cl_mem (K := K) (i := j) (by rw [HL.out]; exact hlt2)) wr HBX.out)
        obtain ⟨q, hq⟩ : ∃ x, K.getD j c0 = x := ⟨_, rfl⟩
        rw [hq] at y0 HXK
        have HQ := Lib.hid hq
        clear hq
        have CS := Lib.hid (vlds_snoc (K := K) (y := q) (by rw [HL.out]; exact hlt2) HQ.out)
        obtain ⟨⟨xa, xn, xc⟩, Q⟩ := q
        replace y0 : wr.cell? ⟨g, off + j, none⟩ = some (.slice xa xn xc) := y0
        have HX' : Hid (SlL wr xa xn xc Q) := HXK
        clear HXK
        have i0 : (0 : Int) ≤ (j : Int) := by omega
        have i1 : (j : Int) < (n : Int) := by omega
        go_wp2_with fail
        refine Calls.mono (clo47_c xa xn xc Q wr HX'.out) ?_
        rintro e w2 ⟨rfl, hb2⟩
        have B2 := Lib.hid (HBX.out.trans (hb2.mono (Nat.le_trans HBS.out HBX.out.size)))
        have O2 := Lib.hid (HOX.out.below hb2)
        obtain ⟨z0, f0⟩ := O2.out.cell HXL.out HOFF.out (i := m) (by omega)
        clear hb2 y0
        have i7 : m < n := by omega
        have i8 : (0 : Int) ≤ (m : Int) := by omega
        have i9 : (m : Int) < (n : Int) := by omega
        cases hv : vld Q with
        | false =>
          have HCS : Hid (vlds (K.take (j + 1)) = vlds (K.take j)) := Lib.hid (by rw [CS.out, if_neg (by rw [hv]; decide)])
          clear hv CS z0 f0
          go_wp2
          go_roundw
          case rel => exact ⟨m, j + 1, X, rfl, by go_num, by omega, by omega, by omega, HXL, O2, Lib.hid (by rw [HCS.out]; exact HTK.out), Lib.hid (fun i hi => HSM.out i (by omega)), B2⟩
          case measure => simp [RowKit.intOf]; omega
        | true =>
          have HCS : Hid (vlds (K.take (j + 1)) = vlds (K.take j) ++ [((xa, xn, xc), Q)]) := Lib.hid (by rw [CS.out, if_pos hv])
          clear hv CS
          go_wp2
          go_roundw
          case rel => exact ⟨m + 1, j + 1, X.set m ((xa, xn, xc), Q), by go_num, by go_num, by omega, by omega, by omega, Lib.hid (by rw [List.length_set]; exact HXL.out), Lib.hid (OwnC.set O2.out HXL.out HOFF.out m ((xa, xn, xc), Q)), Lib.hid (by rw [HCS.out]; exact ctake_set HTK.out (by rw [HXL.out]; omega)), Lib.hid (fun i hi => by
            rw [List.getD_eq_getElem?_getD, List.getElem?_set_ne (by omega), ← List.getD_eq_getElem?_getD]
            exact HSM.out i (by omega)), Lib.hid (B2.out.setCell (p := ⟨g, off + m, none⟩) HBG.out _)⟩
          case measure => simp [RowKit.intOf]; omega
      · have hend : j = n := by omega
        have hcl : ∀ ty, (Builtin.clear_ #[43] ty #[.slice (some ⟨g, off + m, none⟩) (n - m) (cap - m)]).run Tryd.prog wr = .ok (.tuple #[]) (wr.setCells g (off + m) (List.replicate (n - m) (.slice none 0 0))) := fun ty =>
          Lib.run_clear_slice wr 43 24 ty (.slice none 0 0) Tryd.underlying43 Tryd.zeroValue24 rfl rfl g (off + m) (n - m) (cap - m) (by omega) (fun t ht => by
            rw [show off + m + t = off + (m + t) by omega, (HOX.out.cell HXL.out HOFF.out (i := m + t) (by omega)).1]; rfl) (fun t ht => by
            rw [show off + m + t = off + (m + t) by omega]; exact (HOX.out.cell HXL.out HOFF.out (i := m + t) (by omega)).2)
        have HD := Lib.hid (HOX.out.cleared HXL.out HOFF.out (m := m) (by omega) HTK.out (List.replicate (n - m) (.slice none 0 0)))
        have i7 : m < n := by omega
        have i8 : m ≤ cap := by omega
        have HEND := Lib.hid hend
        clear hend
        have i9 : ¬ (j : Int) < (n : Int) := by have := HEND.out; omega
        go_wp2
        refine bodyPost_ret (results_tmp rfl _ _ _) rfl ?_
        have HD1 := HD.out.1
        rw [HEND.out, List.take_of_length_le (by rw [HL.out]; exact Nat.le_refl _)] at HD1
        have ho := HOFF.out
        subst ho
        exact ⟨_, rfl, HD1, HBX.out.grown HD.out.2 (Nat.le_trans HBS.out HBX.out.size) (fun t ht => by have := Option.some.inj ht; have := HBG.out; omega)⟩
set_option maxHeartbeats 1000000 in
set_option maxRecDepth 100000 in
theorem cdel_nil (base : Nat) (w : World) (hb : base ≤ w.heap.size) :
    Calls Tryd.prog 45 #[.slice none 0 0, .func (.func 47) #[] #[]] w fun e w' => CDelSays w base [] e w' := by
  have HBS := Lib.hid hb
  clear hb
  go_enter Tryd.func45, Tryd.ntmps45
  go_wp2_with fail
  refine Calls.mono (cindex_c none 0 0 [] w ⟨⟨rfl, Nat.le_refl _, by omega, .inl rfl⟩, fun x hx => by cases hx⟩ (by omega)) ?_
  rintro e w1 ⟨hi, hb1⟩
  have B1 := Lib.hid hb1
  clear hb1
  rcases hi with ⟨rfl, hno⟩ | ⟨j0, rfl, hj0, hx0, hno⟩
  · clear hno
    go_wp2
    refine bodyPost_ret (results_tmp rfl _ _ _) rfl ?_
    exact ⟨_, rfl, OwnC.nil _ _, B1.out.mono HBS.out⟩
  · cases hj0
theorem cdel_c (base : Nat) (v : Value) (K : List Cl) (w : World) (hO : OwnC w base v K) (hn : K.length ≤ 1000) (hb : base ≤ w.heap.size) (hk : ∀ x ∈ K, ∀ W, Below base w W → x.ok W) :
    Calls Tryd.prog 45 #[v, .func (.func 47) #[] #[]] w fun e w' => CDelSays w base K e w' := by
  rcases id hO.2 with ⟨rfl, h0⟩ | ⟨g, cap, cur, rfl, _⟩
  · obtain rfl : K = [] := List.eq_nil_of_length_eq_zero h0
    exact cdel_nil base w hb
  · exact cdel_off base g 0 K.length cap rfl K w hO rfl hn hb hk

end Go.Proofs.YtljgcjmelmpgoaaDoor
