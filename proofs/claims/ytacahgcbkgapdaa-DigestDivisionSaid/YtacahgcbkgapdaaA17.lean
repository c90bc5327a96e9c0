/- The law of the division. -/
import Derived.Test.YtacahgcbkgapdaaA16
import Derived.Laws.AppendOwnNone
namespace Go.Proofs.Ytacahgcbkgapdaa
open Go.RowKit
set_option linter.unusedVariables false

/-- the pieces that came in: r's cell holds the slice that reads as X r -/
def Pcs (w : World) (b off n : Nat) (A : Nat → Option Addr) (L C : Nat → Nat) (X : Nat → List Int) : Prop :=
  ∀ r, r < n → w.cell? ⟨b, off + r, none⟩ = some (.slice (A r) (L r) (C r)) ∧ SlB w (A r) (L r) (C r) (X r) ∧ (A r = none → L r = 0 ∧ C r = 0)
theorem Pcs.below {w w' : World} {b off n : Nat} {A : Nat → Option Addr} {L C : Nat → Nat} {X : Nat → List Int} (h : Pcs w b off n A L C X) (hb : Below w.heap.size w w') : Pcs w' b off n A L C X := by
  intro r hr
  obtain ⟨h1, h2, h3⟩ := h r hr
  refine ⟨?_, h2.below hb, h3⟩
  have hlt : b < w.heap.size := by
    rcases Nat.lt_or_ge b w.heap.size with h | h
    · exact h
    · simp [World.cell?, Array.getElem?_eq_none h] at h1
  exact (hb.cell (p := ⟨b, off + r, none⟩) hlt).trans h1
/-- .. and behind a call that writes only at or above B, where they lie below B -/
theorem SlB.belowB {w0 w w' : World} {B : Nat} {ad : Option Addr} {n cap : Nat} {l : List Int} (h : SlB w0 ad n cap l) (hb : Below w0.heap.size w0 w) : SlB w ad n cap l := h.below hb
theorem pcell {w W V : World} {b off n i : Nat} {A : Nat → Option Addr} {L C : Nat → Nat} {X : Nat → List Int} (h : Pcs w b off n A L C X) (hi : i < n) (h1 : Below w.heap.size w W) (h2 : Below w.heap.size w V) : W.cell? ⟨b, off + i, none⟩ = V.cell? ⟨b, off + i, none⟩ := by
  rw [((h.below h1) i hi).1, ((h.below h2) i hi).1]
def flat (X : Nat → List Int) : Nat → List Int
  | 0 => []
  | i + 1 => flat X i ++ X i
theorem own_grown {w w' : World} {base e size : Nat} {v : Value} {n : Nat} {xs : List Value} {r : Option Nat} (h : w.ownsRow base e size v n xs) (hg : w.grownBy w' r) (hr : ∀ k, r = some k → k < base) : w'.ownsRow base e size v n xs := by
  obtain ⟨h1, h2⟩ := h
  refine ⟨h1, ?_⟩
  rcases h2 with h2 | ⟨g, cap, cur, hv, hg0, hh, rest⟩
  · exact .inl h2
  · refine .inr ⟨g, cap, cur, hv, hg0, ?_, rest⟩
    rw [hg.block g (Array.getElem?_eq_some_iff.1 hh).1 (fun e => by have := hr g e.symm; omega)]; exact hh
/-- a block of bytes that may be written -/
theorem own_cells {w : World} {base : Nat} {a : Option Addr} {U c : Nat} {L : List Int} (h : OwnB w base (.slice a U c) L) (hl : L.length = U) (hU : 0 < U) :
    ∃ g cs, a = some ⟨g, 0, none⟩ ∧ base ≤ g ∧ U ≤ c ∧ c ≤ 9223372036854775807 ∧ Row w g 5 cs ∧ ∀ k, k < U → ∃ y, cs[k]? = some (.int .u8 y) := by
  obtain ⟨g, e, hb, hlt, hUc, hc, hby⟩ := own_bytes h hl hU
  rcases id h.2 with ⟨hv, h0⟩ | ⟨g', cap, cur, hv, hg, hh, h1, h2, _⟩
  · injection hv with e1; rw [e] at e1; cases e1
  · injection hv with e1 e2 e3
    rw [e] at e1; cases e1
    refine ⟨g, cur.toList, e, hb, hUc, hc, by unfold Row; simpa using hh, fun k hk => ?_⟩
    have hk2 := hby k (by omega)
    rw [Nat.zero_add] at hk2
    refine ⟨L.getD k 0, ?_⟩
    simp only [World.cell?, hh] at hk2
    simpa using hk2

theorem own_belowB {w w' : World} {base B e size : Nat} {v : Value} {n : Nat} {xs : List Value} (h : w.ownsRow base e size v n xs) (hb : Below B w w') (hk : ∀ k, v.ownBlock = some k → k < B) : w'.ownsRow base e size v n xs := by
  obtain ⟨h1, h2⟩ := h
  refine ⟨h1, ?_⟩
  rcases h2 with h2 | ⟨g, cap, cur, hv, hg0, hh, rest⟩
  · exact .inl h2
  · refine .inr ⟨g, cap, cur, hv, hg0, ?_, rest⟩
    rw [hb.block g (hk g (by rw [hv]; rfl))]; exact hh
theorem set_any {cs : List Value} {U j : Nat} (h : ∀ k, k < U → ∃ y, cs[k]? = some (.int .u8 y)) (v : Int) : ∀ k, k < U → ∃ y, (cs.set j (.int .u8 v))[k]? = some (.int .u8 y) := by
  intro k hk
  obtain ⟨y, hy⟩ := h k hk
  by_cases e : j = k
  · subst e
    exact ⟨v, by rw [List.getElem?_set_self (List.getElem?_eq_some_iff.1 hy).1]⟩
  · exact ⟨y, by rw [List.getElem?_set_ne e]; exact hy⟩
set_option maxHeartbeats 2000000 in
set_option maxRecDepth 100000 in
theorem law_division (ad : Option Addr) (n cap : Nat) (A : Nat → Option Addr) (L C : Nat → Nat) (X : Nat → List Int) (w : World) (hnc : n ≤ cap) (hcap : cap ≤ 9223372036854775807)
    (hp : n = 0 ∨ ∃ b off, ad = some ⟨b, off, none⟩ ∧ Pcs w b off n A L C X) :
    Calls Try.prog 5 #[.slice ad n cap] w fun e w' => e = .returned (.bool true) ∧ Below w.heap.size w w' := by
  have HP := Lib.hid hp; clear hp
  by_cases hn : 12 < n
  · go_enter Try.func5, Try.ntmps5
    go_wp2_with fail
    refine (awake_c w).mono ?_
    rintro e w1 ⟨rfl, hb1⟩
    have B1 := Lib.hid hb1
    clear hb1
    go_wp2_with fail
    refine (awake_c w1).mono ?_
    rintro e w2 ⟨rfl, hb2⟩
    have B2 := Lib.hid (B1.out.trans (hb2.mono B1.out.size))
    go_wp2
    refine bodyPost_ret (results_tmp rfl _ _ _) rfl ?_
    exact ⟨rfl, B2.out⟩
  · go_enter Try.func5, Try.ntmps5
    go_wp2_with fail
    refine (awake_c w).mono ?_
    rintro e w1 ⟨rfl, hb1⟩
    have B1 := Lib.hid hb1
    clear hb1
    go_wp2_with fail
    refine (new_c w1).mono ?_
    rintro e w2 ⟨rfl, hw2⟩
    have M2 : Hid (HMsg w2 w1.heap.size []) := Lib.hid (by rw [hw2]; exact hcells_new w1)
    have B2 : Hid (Below w.heap.size w w2) := Lib.hid (by rw [hw2]; exact B1.out.alloc B1.out.size _)
    clear hw2
    go_wp2_with fail
    refine (new_c w2).mono ?_
    rintro e w3 ⟨rfl, hw3⟩
    have K3 : Hid (HMsg w3 w2.heap.size []) := Lib.hid (by rw [hw3]; exact hcells_new w2)
    have M3 : Hid (HMsg w3 w1.heap.size []) := Lib.hid (by rw [hw3]; exact M2.out.grownB ((Below.refl w2.heap.size w2).alloc (Nat.le_refl _) _) M2.out.lt)
    have B3 : Hid (Below w.heap.size w w3) := Lib.hid (by rw [hw3]; exact B2.out.alloc B2.out.size _)
    have lt12 : Hid (w1.heap.size < w2.heap.size) := Lib.hid M2.out.lt
    have lt23 : Hid (w2.heap.size < w3.heap.size) := Lib.hid K3.out.lt
    have lt01 : Hid (w.heap.size ≤ w1.heap.size) := Lib.hid B1.out.size
    have lt02 : Hid (w.heap.size ≤ w2.heap.size) := Lib.hid B2.out.size
    clear hw3 M2 B2 B1
    obtain ⟨base, hbase⟩ : ∃ x, w3.heap.size = x := ⟨_, rfl⟩
    have hbs : Hid (w3.heap.size = base) := Lib.hid hbase
    rw [hbase] at lt23
    clear hbase
    go_wp2
    go_loopw [5, 6] (fun s5 s6 wr => ∃ (i U : Nat) (a : Option Addr) (c : Nat), i ≤ n ∧ s6 = .int .i64 i ∧ s5 = .slice a U c ∧ (flat X i).length = U ∧ U ≤ 200 * i ∧ OwnB wr base (.slice a U c) (flat X i) ∧ HMsg wr w1.heap.size (flat X i) ∧ HMsg wr w2.heap.size (flat X i) ∧ Below w.heap.size w wr ∧ base ≤ wr.heap.size) (fun _ s _ => n - (intOf s).toNat)
    case atStart => exact ⟨0, 0, none, 0, by omega, rfl, rfl, rfl, by omega, ⟨rfl, .inl ⟨rfl, rfl⟩⟩, M3.out, K3.out, B3.out, by rw [hbs.out]; exact Nat.le_refl _⟩
    case round =>
      clear M3 K3 B3 hbs
      obtain ⟨i, U, a, c, hi, rfl, rfl, hU, hU2, ho, hm, hk, hb, hsz⟩ := hrel
      have OO := Lib.hid ho; clear ho
      have MM := Lib.hid hm; clear hm
      have KK := Lib.hid hk; clear hk
      have BB := Lib.hid hb; clear hb
      have HU := Lib.hid hU; clear hU
      by_cases hlt : i < n
      · have hpp := HP.out.resolve_left (by omega)
        obtain ⟨b, off, rfl, pp⟩ := hpp
        have hpi := (pp.below BB.out) i hlt
        have PP := Lib.hid pp; clear pp
        have hF : flat X (i + 1) = flat X i ++ X i := rfl
        obtain ⟨aa, ea⟩ : ∃ x, A i = x := ⟨_, rfl⟩
        obtain ⟨ll, el⟩ : ∃ x, L i = x := ⟨_, rfl⟩
        obtain ⟨cc, ec⟩ : ∃ x, C i = x := ⟨_, rfl⟩
        obtain ⟨xx, ex⟩ : ∃ x, X i = x := ⟨_, rfl⟩
        have hsl := (PP.out i hlt).2.1
        rw [ea, el, ec, ex] at hpi
        rw [ea, el, ec, ex] at hsl
        rw [ex] at hF
        obtain ⟨M, hM⟩ : ∃ x, flat X i = x := ⟨_, rfl⟩
        rw [hM] at hF OO MM KK HU
        have HF := Lib.hid hF
        have SW := Lib.hid hsl
        have SZ := Lib.hid hpi.2.2
        have k0 := hpi.1
        have LX := Lib.hid hsl.1
        clear hpi hF hsl ea el ec ex hM
        obtain ⟨wi, rfl⟩ : ∃ wi : World, wi = wr := ⟨_, rfl⟩
        have CW : Hid (∀ W : World, Below w.heap.size w W → W.cell? ⟨b, off + i, none⟩ = some (.slice aa ll cc)) := Lib.hid (fun W hb => by rw [← k0]; exact pcell PP.out hlt hb BB.out)
        have k1 := CW.out _ (BB.out.alloc (o := .cells #[] 5) BB.out.size)
        have SWi := Lib.hid (SW.out.below BB.out)
        by_cases hbig : 200 < ll
        · go_wp2
          refine bodyPost_ret (results_tmp rfl _ _ _) rfl ?_
          exact ⟨rfl, BB.out⟩
        · have OH : Hid ((wi.alloc (.cells #[] 5)).ownsRow wi.heap.size 5 1 (.slice (some ⟨wi.heap.size, 0, none⟩) 0 0) 0 []) := Lib.hid (World.ownsRow_made wi #[] 0 (Nat.le_refl _) (by unfold maxLen; omega) rfl)
          go_wp2_with (at_builtin; refine wpList_append_sl rfl (.tmp 31) (.tmp 35) rfl wi.heap.size _ _ _ rfl OH.out aa ll cc xx rfl (SWi.out.alloc _) SZ.out (by omega) (by rw [World.size_alloc]; omega) ?_; intro v1 wa O1 G1; rw [Nat.zero_add, List.nil_append] at O1; have OA := Lib.hid O1; have BA : Hid (Below wi.heap.size wi wa) := Lib.hid (below_grownO ((Below.refl wi.heap.size wi).alloc (o := .cells #[] 5) (Nat.le_refl _)) G1 (by rw [World.size_alloc]; omega) (fun k hk => by have e' := Option.some.inj (show some wi.heap.size = some k from hk); omega)); clear O1 G1)
          have szw : Hid (w.heap.size ≤ wi.heap.size) := Lib.hid BB.out.size
          have obk := Lib.hid OO.out.lt
          have B4 := Lib.hid (BB.out.trans (BA.out.mono BB.out.size))
          have M4 := Lib.hid (MM.out.grownB BA.out MM.out.lt)
          have K4 := Lib.hid (KK.out.grownB BA.out KK.out.lt)
          have O4 : Hid (OwnB wa base (.slice a U c) M) := Lib.hid (own_below OO.out BA.out)
          have sz4 : Hid (wi.heap.size ≤ wa.heap.size) := Lib.hid BA.out.size
          obtain ⟨pa, pc, rfl⟩ := own_slice OA.out
          have P4 : Hid (OwnB wa wi.heap.size (.slice pa ll pc) xx) := Lib.hid (by have := OA.out; unfold OwnB; rw [LX.out]; exact this)
          clear MM KK BB OO OH OA BA SWi k0 k1
          have pbk := Lib.hid (own_base P4.out LX.out)
          refine (write_sl w1.heap.size ll pc pa M xx wa (sl_of_own P4.out LX.out).1 (by rw [HU.out]; omega) (fun h b' off' e => by have := pbk.out b' off' e; have := lt12.out; have := lt23.out; omega) M4.out).mono ?_
          rintro e w5 ⟨rfl, h5, g5⟩
          rw [← HF.out] at h5
          have M5 := Lib.hid h5
          have K5 := Lib.hid (K4.out.grownO g5 (fun e => by have e' := Option.some.inj e; have := lt12.out; omega))
          have O5 : Hid (OwnB w5 base (.slice a U c) M) := Lib.hid (own_grown O4.out g5 (fun k hk => by have e' := Option.some.inj hk; have := lt12.out; have := lt23.out; omega))
          have P5 : Hid (OwnB w5 wi.heap.size (.slice pa ll pc) xx) := Lib.hid (own_grown P4.out g5 (fun k hk => by have e' := Option.some.inj hk; have := lt12.out; have := lt23.out; omega))
          have B5 := Lib.hid (below_grown B4.out g5 B4.out.size lt01.out)
          have sz5 : Hid (wi.heap.size ≤ w5.heap.size) := Lib.hid (Nat.le_trans sz4.out g5.size)
          clear h5 g5 M4 K4 O4 P4 B4
          go_wp2_with fail
          refine (write_sl w2.heap.size ll pc pa M xx w5 (sl_of_own P5.out LX.out).1 (by rw [HU.out]; omega) (fun h b' off' e => by have := pbk.out b' off' e; have := lt23.out; omega) K5.out).mono ?_
          rintro e w6 ⟨rfl, h6, g6⟩
          rw [← HF.out] at h6
          have K6 := Lib.hid h6
          have M6 := Lib.hid (M5.out.grownO g6 (fun e => by have e' := Option.some.inj e; have := lt12.out; omega))
          have O6 : Hid (OwnB w6 base (.slice a U c) M) := Lib.hid (own_grown O5.out g6 (fun k hk => by have e' := Option.some.inj hk; have := lt23.out; omega))
          have P6 : Hid (OwnB w6 wi.heap.size (.slice pa ll pc) xx) := Lib.hid (own_grown P5.out g6 (fun k hk => by have e' := Option.some.inj hk; have := lt23.out; omega))
          have B6 := Lib.hid (below_grown B5.out g6 B5.out.size lt02.out)
          have sz6 : Hid (wi.heap.size ≤ w6.heap.size) := Lib.hid (Nat.le_trans sz5.out g6.size)
          clear h6 g6 M5 K5 O5 P5 B5
          have PB : Hid (0 < ll → ∃ g cs, pa = some ⟨g, 0, none⟩ ∧ wi.heap.size ≤ g ∧ ll ≤ pc ∧ pc ≤ 9223372036854775807 ∧ Row w6 g 5 cs ∧ ∀ k, k < ll → ∃ y, cs[k]? = some (.int .u8 y)) := Lib.hid (own_cells P6.out LX.out)
          go_wp2
          go_loopw [8] (fun s wr => ∃ j : Nat, j ≤ ll ∧ s = .int .i64 j ∧ Below wi.heap.size w6 wr ∧ (0 < ll → ∃ g cs, pa = some ⟨g, 0, none⟩ ∧ wi.heap.size ≤ g ∧ ll ≤ pc ∧ pc ≤ 9223372036854775807 ∧ Row wr g 5 cs ∧ ∀ k, k < ll → ∃ y, cs[k]? = some (.int .u8 y))) (fun s _ => ll - (intOf s).toNat)
          case atStart => exact ⟨0, by omega, rfl, Below.refl _ _, PB.out⟩
          case round =>
            clear PB
            obtain ⟨j, hj, rfl, hq, hpb⟩ := hrel
            have BQ := Lib.hid hq; clear hq
            have PB := Lib.hid hpb; clear hpb
            by_cases hlt2 : j < ll
            · obtain ⟨g, cs, rfl, hg, hc1, hc2, hr, hy⟩ := PB.out (by omega)
              obtain ⟨y, hy2⟩ := hy j hlt2
              have k0 := hr.cell j hy2
              have f0 := hr.frozen j
              have RR := Lib.hid hr
              have HY := Lib.hid hy
              clear hr hy hy2 PB pbk P6
              go_wp2
              go_roundw
              case rel => exact ⟨j + 1, by omega, by go_num, BQ.out.setCell (p := ⟨g, j, none⟩) hg _, fun _ => ⟨g, cs.set j _, rfl, hg, hc1, hc2, RR.out.set j _, set_any HY.out _⟩⟩
              case measure => simp [intOf]; omega
            · obtain ⟨wk, rfl⟩ : ∃ wk : World, wk = wr := ⟨_, rfl⟩
              have B7 := Lib.hid (B6.out.trans (BQ.out.mono szw.out))
              have M7 := Lib.hid (M6.out.grownB BQ.out (by have := lt12.out; have := lt23.out; omega))
              have K7 := Lib.hid (K6.out.grownB BQ.out (by have := lt23.out; omega))
              have O7 : Hid (OwnB wk base (.slice a U c) M) := Lib.hid (own_belowB O6.out BQ.out (fun k hk => (obk.out k hk).2))
              have sz7 : Hid (wi.heap.size ≤ wk.heap.size) := Lib.hid (Nat.le_trans sz6.out BQ.out.size)
              have k1 := CW.out _ B7.out
              have S7 := Lib.hid (SW.out.below B7.out)
              have O7' : Hid (wk.ownsRow base 5 1 (.slice a U c) U (vals .u8 M)) := Lib.hid (by have := O7.out; unfold OwnB at this; rwa [HU.out] at this)
              clear BQ PB P6 O6 M6 K6 B6 O7 sz6 sz5 sz4 pbk
              go_wp2_with (at_builtin; refine wpList_append_sl rfl (.tmp 55) (.tmp 59) rfl base _ _ _ rfl O7'.out aa ll cc xx rfl S7.out SZ.out (by omega) (by have := sz7.out; omega) ?_; intro v2 w8 O2 G2; have O8 := Lib.hid O2; have G8 := Lib.hid G2; clear O2 G2)
              have B8 := Lib.hid (below_grownO B7.out G8.out B7.out.size (fun k hk => by have := (obk.out k hk).1; have := lt02.out; have := lt23.out; omega))
              have M8 := Lib.hid (M7.out.grownO G8.out (fun e => by have := (obk.out _ e.symm).1; have := lt12.out; have := lt23.out; omega))
              have K8 := Lib.hid (K7.out.grownO G8.out (fun e => by have := (obk.out _ e.symm).1; have := lt23.out; omega))
              have sz8 : Hid (wi.heap.size ≤ w8.heap.size) := Lib.hid (Nat.le_trans sz7.out G8.out.size)
              obtain ⟨va, vc, rfl⟩ := own_slice O8.out
              obtain ⟨N, hN⟩ : ∃ x, flat X (i + 1) = x := ⟨_, rfl⟩
              rw [hN] at M8 K8 HF
              have HN := Lib.hid hN
              have NL : Hid (N.length = U + ll) := Lib.hid (by rw [HF.out, List.length_append, HU.out, LX.out])
              have Q8 : Hid (OwnB w8 base (.slice va (U + ll) vc) N) := Lib.hid (by have := O8.out; unfold OwnB; rw [NL.out, HF.out]; simpa [vals] using this)
              have C8 := Lib.hid (sl_of_own Q8.out NL.out)
              have HD1 := Lib.hid (fun (W : World) (h : HMsg W w2.heap.size N) => sum_c w2.heap.size N W (by rw [NL.out]; omega) h)
              have HD2 := Lib.hid (fun (W : World) (h : SlB W va (U + ll) vc N) => refSum_c va (U + ll) vc N W h (by omega) C8.out.2)
              have lD : Hid ((dig N).length = 32) := Lib.hid (dig_len _)
              obtain ⟨D, hD⟩ : ∃ D, dig N = D := ⟨_, rfl⟩
              rw [hD] at lD HD1 HD2
              clear hD hN B7 M7 K7 O7' O8 G8 S7 sz7 k1
              refine (HD1.out w8 K8.out).mono ?_
              rintro e w9 ⟨rfl, hb9⟩
              have BX := Lib.hid hb9
              clear hb9
              go_wp2_with fail
              refine (HD2.out w9 (C8.out.1.below BX.out)).mono ?_
              rintro e w10 ⟨rfl, hb10⟩
              have BY := Lib.hid (BX.out.trans (hb10.mono BX.out.size))
              clear hb10 BX
              have q1 := eqIn_same w10 D lD.out
              have q2 := fun x y => grd w10 .neq x y (vals .u8 D).toArray (vals .u8 D).toArray
              go_wp2
              go_roundw
              case rel => exact ⟨i + 1, U + ll, va, vc, by omega, by go_num, rfl, by rw [HN.out]; exact NL.out, by omega, by rw [HN.out]; exact own_below Q8.out BY.out, by rw [HN.out]; exact M8.out.grownB BY.out M8.out.lt, by rw [HN.out]; exact K8.out.grownB BY.out K8.out.lt, B8.out.trans (BY.out.mono B8.out.size), by have := BY.out.size; have := sz8.out; omega⟩
              case measure => simp [intOf]; omega
      · have hin : i = n := by omega
        obtain ⟨N, hN⟩ : ∃ x, flat X i = x := ⟨_, rfl⟩
        rw [hN] at OO MM KK HU
        have C8 := Lib.hid (sl_of_own OO.out HU.out)
        have HD1 := Lib.hid (fun (H : Nat) (W : World) (h : HMsg W H N) => sum_c H N W (by rw [HU.out]; omega) h)
        have HD2 := Lib.hid (fun (W : World) (h : SlB W a U c N) => refSum_c a U c N W h (by omega) C8.out.2)
        have lD : Hid ((dig N).length = 32) := Lib.hid (dig_len _)
        obtain ⟨D, hD⟩ : ∃ D, dig N = D := ⟨_, rfl⟩
        rw [hD] at lD HD1 HD2
        clear hD hN OO
        go_wp2_with fail
        refine (HD1.out _ wr MM.out).mono ?_
        rintro e w4 ⟨rfl, hb4⟩
        have E4 := Lib.hid hb4
        clear hb4
        go_wp2_with fail
        refine (HD2.out w4 (C8.out.1.below E4.out)).mono ?_
        rintro e w5 ⟨rfl, hb5⟩
        have E5 := Lib.hid (E4.out.trans (hb5.mono E4.out.size))
        clear hb5 E4
        have q1 := eqIn_same w5 D lD.out
        have q2 := fun x y => grd w5 .eql x y (vals .u8 D).toArray (vals .u8 D).toArray
        go_wp2_with fail
        clear q1 q2
        refine (HD1.out _ w5 (MM.out.grownB E5.out MM.out.lt)).mono ?_
        rintro e w6 ⟨rfl, hb6⟩
        have E6 := Lib.hid (E5.out.trans (hb6.mono E5.out.size))
        clear hb6 E5
        go_wp2_with fail
        refine (HD1.out _ w6 (KK.out.grownB E6.out KK.out.lt)).mono ?_
        rintro e w7 ⟨rfl, hb7⟩
        have E7 := Lib.hid (E6.out.trans (hb7.mono E6.out.size))
        clear hb7 E6
        have q1 := eqIn_same w7 D lD.out
        have q2 := fun x y => grd w7 .eql x y (vals .u8 D).toArray (vals .u8 D).toArray
        go_wp2
        refine bodyPost_ret (results_tmp rfl _ _ _) rfl ?_
        exact ⟨rfl, BB.out.trans (E7.out.mono BB.out.size)⟩

end Go.Proofs.Ytacahgcbkgapdaa
