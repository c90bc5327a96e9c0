/- The reference: Reduce. -/
import Derived.Test.YtljgcjmelmpgoaaDoorQ44
import Derived.Test.YtljgcjmelmpgoaaDoorQ45
namespace Go.Proofs.YtljgcjmelmpgoaaDoor
open Go.RowKit
set_option linter.unusedVariables false

set_option linter.unusedSimpArgs false
def KeptTo (kp vx : Bool) (K : List Cl) (c : Cl) (i j : Nat) : Prop := kp = true ↔ vx = true ∧ ∀ k, k < j → ¬ Bad subV K c i k
theorem KeptTo.no {kp vx : Bool} {K : List Cl} {c : Cl} {i j : Nat} (h : KeptTo kp vx K c i j) (hb : ¬ Bad subV K c i j) : KeptTo kp vx K c i (j + 1) := by
  unfold KeptTo at h ⊢
  rw [h]
  constructor
  · rintro ⟨h1, h2⟩
    refine ⟨h1, fun k hk => ?_⟩
    by_cases hkj : k = j
    · rw [hkj]; exact hb
    · exact h2 k (by omega)
  · rintro ⟨h1, h2⟩
    exact ⟨h1, fun k hk => h2 k (by omega)⟩
theorem KeptTo.yes {vx : Bool} {K : List Cl} {c : Cl} {i j : Nat} (hb : Bad subV K c i j) : KeptTo false vx K c i (j + 1) := by
  unfold KeptTo
  constructor
  · intro h; cases h
  · rintro ⟨_, h2⟩; exact absurd hb (h2 j (by omega))
set_option maxHeartbeats 16000000 in
set_option maxRecDepth 100000 in
theorem rreduce_c (a : Option Addr) (n c : Nat) (K : List Cl) (w : World) (hs : SlC w a n c K) (hn : n ≤ 1000) :
    Calls Tryd.prog 29 #[.slice a n c] w fun e w' => RedSays w (redG subV okV [] K) e w' := by
  have HS := Lib.hid hs
  have HNV := Lib.hid hs.1.1
  clear hs
  obtain ⟨R, hR⟩ : ∃ R, redG subV okV [] K = R := ⟨_, rfl⟩
  have HR := Lib.hid hR
  rw [hR]
  clear hR
  go_enter Tryd.func29, Tryd.ntmps29
  go_wp2
  go_loopw [3, 4, 5, 6] (fun s3 s4 s5 s6 wr => ∃ (i m : Nat) (ao : Option Addr) (co : Nat) (out : List Cl), i ≤ n ∧ s4 = .int .i64 (i : Nat) ∧ s3 = .slice ao m co ∧ m ≤ i ∧ Hid (out.length = m) ∧ Hid (OwnC wr w.heap.size (.slice ao m co) out) ∧ Hid (Below w.heap.size w wr) ∧ Hid (out ++ redG subV okV (K.take i) (K.drop i) = R)) (fun _ s _ _ _ => n - (RowKit.intOf s).toNat)
  case atStart => exact ⟨0, 0, none, 0, [], by omega, rfl, rfl, by omega, Lib.hid rfl, Lib.hid (OwnC.nil _ _), Lib.hid (Below.refl _ _), Lib.hid (by rw [List.nil_append, List.take_zero, List.drop_zero]; exact HR.out)⟩
  case round =>
    obtain ⟨i, m, ao, co, out, hi, rfl, rfl, hmi, HM, HOW, HB, HF⟩ := hrel
    by_cases hlt : i < n
    · obtain ⟨b, off, rfl, hb, hc⟩ := (HS.out.below HB.out).at (by omega)
      have k0 := hc i hlt
      have HCS := Lib.hid hc
      clear hc
      have HX := Lib.hid ((HS.out.below HB.out).entry hlt)
      have HIL := Lib.hid (show i < K.length by rw [HNV.out]; exact hlt)
      obtain ⟨x, hx⟩ : ∃ x, K.getD i c0 = x := ⟨_, rfl⟩
      rw [hx] at k0 HX
      have HXE := Lib.hid hx
      clear hx
      have HST := Lib.hid (red_step (S := subV) (ok := okV) HIL.out HXE.out)
      have HKP := Lib.hid (keep_iff (S := subV) HIL.out HXE.out)
      obtain ⟨⟨xa, xn, xc⟩, X⟩ := x
      replace k0 : wr.cell? ⟨b, off + i, none⟩ = some (.slice xa xn xc) := k0
      have HX' : Hid (SlL wr xa xn xc X) := HX
      clear HX
      have hi0 : (0 : Int) ≤ (i : Int) := by omega
      have hi1 : (i : Int) < (n : Int) := by omega
      have HBW := Lib.hid hb
      go_wp2_with fail
      refine Calls.mono (rvalid_c xa xn xc X wr HX'.out) ?_
      rintro e w3 ⟨rfl, hb3⟩
      have HB3 := Lib.hid hb3
      clear hb3 k0 hb
      obtain ⟨vx, hvx⟩ : ∃ t, vld X = t := ⟨_, rfl⟩
      rw [hvx]
      have HVX := Lib.hid hvx
      clear hvx
      go_wp2
      go_loopw [5, 6] (fun s5 s ww => ∃ (j : Nat) (kp : Bool), j ≤ n ∧ s = .int .i64 (j : Nat) ∧ s5 = .bool kp ∧ Hid (KeptTo kp vx K ((xa, xn, xc), X) i j) ∧ Hid (Below wr.heap.size wr ww)) (fun _ s _ => n - (RowKit.intOf s).toNat)
      case atStart => exact ⟨0, vx, by omega, rfl, rfl, Lib.hid ⟨fun h => ⟨h, fun k hk => absurd hk (Nat.not_lt_zero k)⟩, fun h => h.1⟩, HB3⟩
      case round =>
        obtain ⟨j, kp, hj, rfl, rfl, HK, HB2⟩ := hrel
        have BL2 := Lib.hid (HB.out.trans (HB2.out.mono HB.out.size))
        by_cases hlt2 : j < n
        · obtain ⟨b2, off2, e2, hb2, hc2⟩ := (HS.out.below BL2.out).at (by omega)
          cases e2
          have m0 := hc2 j hlt2
          have k0 := hc2 i hlt
          clear hc2
          have HD := Lib.hid ((HS.out.below BL2.out).entry hlt2)
          rw [HXE.out] at k0
          obtain ⟨d, hd⟩ : ∃ x, K.getD j c0 = x := ⟨_, rfl⟩
          rw [hd] at m0 HD
          have HDE := Lib.hid hd
          clear hd
          obtain ⟨⟨da, dn, dc⟩, D⟩ := d
          replace m0 : wr.cell? ⟨b, off + j, none⟩ = some (.slice da dn dc) := m0
          replace k0 : wr.cell? ⟨b, off + i, none⟩ = some (.slice xa xn xc) := k0
          have HD' : Hid (SlL wr da dn dc D) := HD
          clear HD
          have hj0 : (0 : Int) ≤ (j : Int) := by omega
          have hj1 : (j : Int) < (n : Int) := by omega
          obtain ⟨s, hs⟩ : ∃ t, subs D X = t := ⟨_, rfl⟩
          have HBD : Hid (Bad subV K ((xa, xn, xc), X) i j ↔ s = true ∧ (dn < xn ∨ j < i)) := Lib.hid (by
            unfold Bad
            rw [HDE.out]
            show (subs D X = true ∧ (D.length < X.length ∨ j < i)) ↔ _
            rw [hs, HD'.out.1, HX'.out.1])
          have hcon : Hid (∀ W, Below wr.heap.size wr W → Calls Tryd.prog 20 #[.slice da dn dc, .slice xa xn xc] W fun e w' => e = .returned (.bool s) ∧ Below W.heap.size W w') := Lib.hid (fun W hW => by
            rw [← hs]
            exact rsubsumes_c da dn dc D xa xn xc X W (HD'.out.below hW) ((HX'.out.below HB2.out).below hW))
          have BD : Hid (Below wr.heap.size wr wr.drew) := Lib.hid (below_drewN (Below.refl _ _) 1)
          have KB : Hid (∀ w1, Below wr.drew.heap.size wr.drew w1 → (w1.cell? ⟨b, off + j, none⟩ = some (.slice da dn dc) ∧ w1.cell? ⟨b, off + i, none⟩ = some (.slice xa xn xc)) ∧ Hid (Below _ _ w1)) := Lib.hid (by
            intro w1 hb1
            have hb3 : Below wr.heap.size wr w1 := BD.out.trans hb1
            exact ⟨⟨(hb3.cell (p := ⟨b, off + j, none⟩) hb2).trans m0, (hb3.cell (p := ⟨b, off + i, none⟩) hb2).trans k0⟩, Lib.hid (HB2.out.trans (hb3.mono HB2.out.size))⟩)
          clear hs
          cases s with
          | false =>
            have HNK := Lib.hid (HK.out.no (fun h => by have := (HBD.out.1 h).1; cases this))
            go_upto_region 9 with fail
            refine wp_region_held_drew (S := fun w' => w'.cell? ⟨b, off + j, none⟩ = some (.slice da dn dc) ∧ w'.cell? ⟨b, off + i, none⟩ = some (.slice xa xn xc)) (by kernel_rfl) ⟨m0, k0⟩ (fun hHeld => ?_)
            refine wpAnyH_take (i := 0) (oi := _) (v := ?vA0) rfl (by kernel_rfl) (by kernel_rfl) (by kernel_rfl) (fun _ _ _ h => h) (Or.inl ⟨by rfl, ?hyA0⟩) (by assumption) ?restA0
            case hyA0 => (intro wq hSw; (try dsimp only at hSw); first | (go_simp; done) | (go_simp; with_reducible rfl))
            try simp only [Act.put, List.getElem_toArray, List.getElem_cons_succ, List.getElem_cons_zero, List.setIfInBounds_toArray, List.set_cons_zero, List.set_cons_succ]
            refine wpAnyH_take (i := 1) (oi := _) (v := ?vA1) rfl (by kernel_rfl) (by kernel_rfl) (by kernel_rfl) (fun _ _ _ h => h) (Or.inl ⟨by rfl, ?hyA1⟩) (by assumption) ?restA1
            case hyA1 => (intro wq hSw; (try dsimp only at hSw); first | (go_simp; done) | (go_simp; with_reducible rfl))
            try simp only [Act.put, List.getElem_toArray, List.getElem_cons_succ, List.getElem_cons_zero, List.setIfInBounds_toArray, List.set_cons_zero, List.set_cons_succ]
            refine wpAnyH_take (i := 2) (oi := _) (v := ?vA2) rfl (by kernel_rfl) (by kernel_rfl) (by kernel_rfl) (fun _ _ _ h => h) (Or.inl ⟨by rfl, ?hyA2⟩) (by assumption) ?restA2
            case hyA2 => (intro wq hSw; (try dsimp only at hSw); first | (go_simp; done) | (go_simp; with_reducible rfl))
            try simp only [Act.put, List.getElem_toArray, List.getElem_cons_succ, List.getElem_cons_zero, List.setIfInBounds_toArray, List.set_cons_zero, List.set_cons_succ]
            refine wpAnyH_take (i := 3) (oi := _) (v := ?vA3) rfl (by kernel_rfl) (by kernel_rfl) (by kernel_rfl) (fun _ _ _ h => h) (Or.inl ⟨by rfl, ?hyA3⟩) (by assumption) ?restA3
            case hyA3 => (intro wq hSw; (try dsimp only at hSw); first | (go_simp; done) | (go_simp; with_reducible rfl))
            try simp only [Act.put, List.getElem_toArray, List.getElem_cons_succ, List.getElem_cons_zero, List.setIfInBounds_toArray, List.set_cons_zero, List.set_cons_succ]
            refine wpAnyH_take (i := 4) (oi := _) (v := ?vA4) rfl (by kernel_rfl) (by kernel_rfl) (by kernel_rfl) (fun _ _ _ h => h) (Or.inl ⟨by rfl, ?hyA4⟩) (by assumption) ?restA4
            case hyA4 => (intro wq hSw; (try dsimp only at hSw); first | (go_simp; done) | (go_simp; with_reducible rfl))
            try simp only [Act.put, List.getElem_toArray, List.getElem_cons_succ, List.getElem_cons_zero, List.setIfInBounds_toArray, List.set_cons_zero, List.set_cons_succ]
            refine wpAnyH_take (i := 5) (oi := _) (v := ?vA5) rfl (by kernel_rfl) (by kernel_rfl) (by kernel_rfl) (fun _ _ _ h => h) (Or.inl ⟨by rfl, ?hyA5⟩) (by assumption) ?restA5
            case hyA5 => (intro wq hSw; (try dsimp only at hSw); first | (go_simp; done) | (go_simp; with_reducible rfl))
            try simp only [Act.put, List.getElem_toArray, List.getElem_cons_succ, List.getElem_cons_zero, List.setIfInBounds_toArray, List.set_cons_zero, List.set_cons_succ]
            refine wpAnyH_take (i := 6) (oi := _) (v := ?vA6) rfl (by kernel_rfl) (by kernel_rfl) (by kernel_rfl) (fun _ _ _ h => h) (Or.inl ⟨by rfl, ?hyA6⟩) (by assumption) ?restA6
            case hyA6 => (intro wq hSw; (try dsimp only at hSw); first | (go_simp; done) | (go_simp; with_reducible rfl))
            try simp only [Act.put, List.getElem_toArray, List.getElem_cons_succ, List.getElem_cons_zero, List.setIfInBounds_toArray, List.set_cons_zero, List.set_cons_succ]
            refine wpAnyH_take (i := 7) (oi := _) (v := ?vA7) rfl (by kernel_rfl) (by kernel_rfl) (by kernel_rfl) (fun _ _ _ h => h) (Or.inl ⟨by rfl, ?hyA7⟩) (by assumption) ?restA7
            case hyA7 => (intro wq hSw; (try dsimp only at hSw); first | (go_simp; done) | (go_simp; with_reducible rfl))
            try simp only [Act.put, List.getElem_toArray, List.getElem_cons_succ, List.getElem_cons_zero, List.setIfInBounds_toArray, List.set_cons_zero, List.set_cons_succ]
            refine wpAnyH_ready (rs := [8]) (by kernel_rfl) (by simp) ?_
            refine AllReadyH.cons (o := _) rfl (fun KK hKK => ?_) AllReadyH.nil
            go_simp
            refine Calls.mono (hcon.out _ BD.out) ?_
            rintro e w7 ⟨rfl, hb7⟩
            obtain ⟨⟨s0, s1⟩, bw⟩ := KB.out _ hb7
            clear hb7
            go_wp2_with fail
            refine hKK.out _ _ ⟨s0, s1⟩ (fun hHeld2 => ?_)
            clear hKK KK hHeld
            have hHeld := hHeld2
            clear hHeld2
            try simp only [Act.put, List.getElem_toArray, List.getElem_cons_succ, List.getElem_cons_zero, List.setIfInBounds_toArray, List.set_cons_zero, List.set_cons_succ]
            refine wpAnyH_take (i := 9) (oi := _) (v := ?vA9) rfl (by kernel_rfl) (by kernel_rfl) (by kernel_rfl) (fun _ _ _ h => h) (Or.inl ⟨by rfl, ?hyA9⟩) (by assumption) ?restA9
            case hyA9 => (intro wq hSw; (try dsimp only at hSw); first | (go_simp; done) | (go_simp; with_reducible rfl))
            try simp only [Act.put, List.getElem_toArray, List.getElem_cons_succ, List.getElem_cons_zero, List.setIfInBounds_toArray, List.set_cons_zero, List.set_cons_succ]
            refine wpAnyH_take (i := 10) (oi := _) (v := undef) rfl (by kernel_rfl) (by kernel_rfl) (by kernel_rfl) (fun _ _ _ h => h) (Or.inr ⟨by rfl, rfl⟩) (by assumption) ?_
            try simp only [Act.put, List.getElem_toArray, List.getElem_cons_succ, List.getElem_cons_zero, List.setIfInBounds_toArray, List.set_cons_zero, List.set_cons_succ]
            refine wpAnyH_take (i := 11) (oi := _) (v := undef) rfl (by kernel_rfl) (by kernel_rfl) (by kernel_rfl) (fun _ _ _ h => h) (Or.inr ⟨by rfl, rfl⟩) (by assumption) ?_
            try simp only [Act.put, List.getElem_toArray, List.getElem_cons_succ, List.getElem_cons_zero, List.setIfInBounds_toArray, List.set_cons_zero, List.set_cons_succ]
            refine wpAnyH_take (i := 12) (oi := _) (v := undef) rfl (by kernel_rfl) (by kernel_rfl) (by kernel_rfl) (fun _ _ _ h => h) (Or.inr ⟨by rfl, rfl⟩) (by assumption) ?_
            try simp only [Act.put, List.getElem_toArray, List.getElem_cons_succ, List.getElem_cons_zero, List.setIfInBounds_toArray, List.set_cons_zero, List.set_cons_succ]
            refine wpAnyH_take (i := 13) (oi := _) (v := undef) rfl (by kernel_rfl) (by kernel_rfl) (by kernel_rfl) (fun _ _ _ h => h) (Or.inr ⟨by rfl, rfl⟩) (by assumption) ?_
            try simp only [Act.put, List.getElem_toArray, List.getElem_cons_succ, List.getElem_cons_zero, List.setIfInBounds_toArray, List.set_cons_zero, List.set_cons_succ]
            refine wpAnyH_take (i := 14) (oi := _) (v := undef) rfl (by kernel_rfl) (by kernel_rfl) (by kernel_rfl) (fun _ _ _ h => h) (Or.inr ⟨by rfl, rfl⟩) (by assumption) ?_
            try simp only [Act.put, List.getElem_toArray, List.getElem_cons_succ, List.getElem_cons_zero, List.setIfInBounds_toArray, List.set_cons_zero, List.set_cons_succ]
            refine wpAnyH_take (i := 15) (oi := _) (v := undef) rfl (by kernel_rfl) (by kernel_rfl) (by kernel_rfl) (fun _ _ _ h => h) (Or.inr ⟨by rfl, rfl⟩) (by assumption) ?_
            try simp only [Act.put, List.getElem_toArray, List.getElem_cons_succ, List.getElem_cons_zero, List.setIfInBounds_toArray, List.set_cons_zero, List.set_cons_succ]
            refine wpAnyH_take (i := 16) (oi := _) (v := undef) rfl (by kernel_rfl) (by kernel_rfl) (by kernel_rfl) (fun _ _ _ h => h) (Or.inr ⟨by rfl, rfl⟩) (by assumption) ?_
            try simp only [Act.put, List.getElem_toArray, List.getElem_cons_succ, List.getElem_cons_zero, List.setIfInBounds_toArray, List.set_cons_zero, List.set_cons_succ]
            refine wpAnyH_take (i := 17) (oi := _) (v := undef) rfl (by kernel_rfl) (by kernel_rfl) (by kernel_rfl) (fun _ _ _ h => h) (Or.inr ⟨by rfl, rfl⟩) (by assumption) ?_
            try simp only [Act.put, List.getElem_toArray, List.getElem_cons_succ, List.getElem_cons_zero, List.setIfInBounds_toArray, List.set_cons_zero, List.set_cons_succ]
            refine wpAnyH_take (i := 18) (oi := _) (v := undef) rfl (by kernel_rfl) (by kernel_rfl) (by kernel_rfl) (fun _ _ _ h => h) (Or.inr ⟨by rfl, rfl⟩) (by assumption) ?_
            try simp only [Act.put, List.getElem_toArray, List.getElem_cons_succ, List.getElem_cons_zero, List.setIfInBounds_toArray, List.set_cons_zero, List.set_cons_succ]
            refine wpAnyH_take (i := 19) (oi := _) (v := undef) rfl (by kernel_rfl) (by kernel_rfl) (by kernel_rfl) (fun _ _ _ h => h) (Or.inr ⟨by rfl, rfl⟩) (by assumption) ?_
            try simp only [Act.put, List.getElem_toArray, List.getElem_cons_succ, List.getElem_cons_zero, List.setIfInBounds_toArray, List.set_cons_zero, List.set_cons_succ]
            refine wpAnyH_take (i := 20) (oi := _) (v := undef) rfl (by kernel_rfl) (by kernel_rfl) (by kernel_rfl) (fun _ _ _ h => h) (Or.inr ⟨by rfl, rfl⟩) (by assumption) ?_
            try simp only [Act.put, List.getElem_toArray, List.getElem_cons_succ, List.getElem_cons_zero, List.setIfInBounds_toArray, List.set_cons_zero, List.set_cons_succ]
            refine wpAnyH_take (i := 21) (oi := _) (v := undef) rfl (by kernel_rfl) (by kernel_rfl) (by kernel_rfl) (fun _ _ _ h => h) (Or.inr ⟨by rfl, rfl⟩) (by assumption) ?_
            try simp only [Act.put, List.getElem_toArray, List.getElem_cons_succ, List.getElem_cons_zero, List.setIfInBounds_toArray, List.set_cons_zero, List.set_cons_succ]
            refine wpAnyH_take (i := 22) (oi := _) (v := undef) rfl (by kernel_rfl) (by kernel_rfl) (by kernel_rfl) (fun _ _ _ h => h) (Or.inr ⟨by rfl, rfl⟩) (by assumption) ?_
            try simp only [Act.put, List.getElem_toArray, List.getElem_cons_succ, List.getElem_cons_zero, List.setIfInBounds_toArray, List.set_cons_zero, List.set_cons_succ]
            refine wpAnyH_take (i := 23) (oi := _) (v := undef) rfl (by kernel_rfl) (by kernel_rfl) (by kernel_rfl) (fun _ _ _ h => h) (Or.inr ⟨by rfl, rfl⟩) (by assumption) ?_
            try simp only [Act.put, List.getElem_toArray, List.getElem_cons_succ, List.getElem_cons_zero, List.setIfInBounds_toArray, List.set_cons_zero, List.set_cons_succ]
            refine wpAnyH_take (i := 24) (oi := _) (v := undef) rfl (by kernel_rfl) (by kernel_rfl) (by kernel_rfl) (fun _ _ _ h => h) (Or.inr ⟨by rfl, rfl⟩) (by assumption) ?_
            try simp only [Act.put, List.getElem_toArray, List.getElem_cons_succ, List.getElem_cons_zero, List.setIfInBounds_toArray, List.set_cons_zero, List.set_cons_succ]
            refine wpAnyH_take (i := 25) (oi := _) (v := undef) rfl (by kernel_rfl) (by kernel_rfl) (by kernel_rfl) (fun _ _ _ h => h) (Or.inr ⟨by rfl, rfl⟩) (by assumption) ?_
            try simp only [Act.put, List.getElem_toArray, List.getElem_cons_succ, List.getElem_cons_zero, List.setIfInBounds_toArray, List.set_cons_zero, List.set_cons_succ]
            refine wpAnyH_take (i := 26) (oi := _) (v := ?vA26) rfl (by kernel_rfl) (by kernel_rfl) (by kernel_rfl) (fun _ _ _ h => h) (Or.inl ⟨by rfl, ?hyA26⟩) (by assumption) ?restA26
            case hyA26 => (intro wq hSw; (try dsimp only at hSw); first | (go_simp; done) | (go_simp; with_reducible rfl))
            try simp only [Act.put, List.getElem_toArray, List.getElem_cons_succ, List.getElem_cons_zero, List.setIfInBounds_toArray, List.set_cons_zero, List.set_cons_succ]
            refine wpAnyH_done (by kernel_rfl) ?_ _
            try go_simp
            clear hHeld
            go_wp2
            go_roundw
            case rel => exact ⟨j + 1, kp, by omega, by go_num, rfl, HNK, bw⟩
            case measure => simp [RowKit.intOf]; omega
          | true =>
            by_cases l1 : dn < xn
            · have l1' : decide (dn < xn) = true := decide_eq_true l1
              have HNK := Lib.hid (KeptTo.yes (vx := vx) (HBD.out.2 ⟨rfl, .inl l1⟩))
              go_upto_region 9 with fail
              refine wp_region_held_drew (S := fun w' => w'.cell? ⟨b, off + j, none⟩ = some (.slice da dn dc) ∧ w'.cell? ⟨b, off + i, none⟩ = some (.slice xa xn xc)) (by kernel_rfl) ⟨m0, k0⟩ (fun hHeld => ?_)
              refine wpAnyH_take (i := 0) (oi := _) (v := ?vB0) rfl (by kernel_rfl) (by kernel_rfl) (by kernel_rfl) (fun _ _ _ h => h) (Or.inl ⟨by rfl, ?hyB0⟩) (by assumption) ?restB0
              case hyB0 => (intro wq hSw; (try dsimp only at hSw); first | (go_simp; done) | (go_simp; with_reducible rfl))
              try simp only [Act.put, List.getElem_toArray, List.getElem_cons_succ, List.getElem_cons_zero, List.setIfInBounds_toArray, List.set_cons_zero, List.set_cons_succ]
              refine wpAnyH_take (i := 1) (oi := _) (v := ?vB1) rfl (by kernel_rfl) (by kernel_rfl) (by kernel_rfl) (fun _ _ _ h => h) (Or.inl ⟨by rfl, ?hyB1⟩) (by assumption) ?restB1
              case hyB1 => (intro wq hSw; (try dsimp only at hSw); first | (go_simp; done) | (go_simp; with_reducible rfl))
              try simp only [Act.put, List.getElem_toArray, List.getElem_cons_succ, List.getElem_cons_zero, List.setIfInBounds_toArray, List.set_cons_zero, List.set_cons_succ]
              refine wpAnyH_take (i := 2) (oi := _) (v := ?vB2) rfl (by kernel_rfl) (by kernel_rfl) (by kernel_rfl) (fun _ _ _ h => h) (Or.inl ⟨by rfl, ?hyB2⟩) (by assumption) ?restB2
              case hyB2 => (intro wq hSw; (try dsimp only at hSw); first | (go_simp; done) | (go_simp; with_reducible rfl))
              try simp only [Act.put, List.getElem_toArray, List.getElem_cons_succ, List.getElem_cons_zero, List.setIfInBounds_toArray, List.set_cons_zero, List.set_cons_succ]
              refine wpAnyH_take (i := 3) (oi := _) (v := ?vB3) rfl (by kernel_rfl) (by kernel_rfl) (by kernel_rfl) (fun _ _ _ h => h) (Or.inl ⟨by rfl, ?hyB3⟩) (by assumption) ?restB3
              case hyB3 => (intro wq hSw; (try dsimp only at hSw); first | (go_simp; done) | (go_simp; with_reducible rfl))
              try simp only [Act.put, List.getElem_toArray, List.getElem_cons_succ, List.getElem_cons_zero, List.setIfInBounds_toArray, List.set_cons_zero, List.set_cons_succ]
              refine wpAnyH_take (i := 4) (oi := _) (v := ?vB4) rfl (by kernel_rfl) (by kernel_rfl) (by kernel_rfl) (fun _ _ _ h => h) (Or.inl ⟨by rfl, ?hyB4⟩) (by assumption) ?restB4
              case hyB4 => (intro wq hSw; (try dsimp only at hSw); first | (go_simp; done) | (go_simp; with_reducible rfl))
              try simp only [Act.put, List.getElem_toArray, List.getElem_cons_succ, List.getElem_cons_zero, List.setIfInBounds_toArray, List.set_cons_zero, List.set_cons_succ]
              refine wpAnyH_take (i := 5) (oi := _) (v := ?vB5) rfl (by kernel_rfl) (by kernel_rfl) (by kernel_rfl) (fun _ _ _ h => h) (Or.inl ⟨by rfl, ?hyB5⟩) (by assumption) ?restB5
              case hyB5 => (intro wq hSw; (try dsimp only at hSw); first | (go_simp; done) | (go_simp; with_reducible rfl))
              try simp only [Act.put, List.getElem_toArray, List.getElem_cons_succ, List.getElem_cons_zero, List.setIfInBounds_toArray, List.set_cons_zero, List.set_cons_succ]
              refine wpAnyH_take (i := 6) (oi := _) (v := ?vB6) rfl (by kernel_rfl) (by kernel_rfl) (by kernel_rfl) (fun _ _ _ h => h) (Or.inl ⟨by rfl, ?hyB6⟩) (by assumption) ?restB6
              case hyB6 => (intro wq hSw; (try dsimp only at hSw); first | (go_simp; done) | (go_simp; with_reducible rfl))
              try simp only [Act.put, List.getElem_toArray, List.getElem_cons_succ, List.getElem_cons_zero, List.setIfInBounds_toArray, List.set_cons_zero, List.set_cons_succ]
              refine wpAnyH_take (i := 7) (oi := _) (v := ?vB7) rfl (by kernel_rfl) (by kernel_rfl) (by kernel_rfl) (fun _ _ _ h => h) (Or.inl ⟨by rfl, ?hyB7⟩) (by assumption) ?restB7
              case hyB7 => (intro wq hSw; (try dsimp only at hSw); first | (go_simp; done) | (go_simp; with_reducible rfl))
              try simp only [Act.put, List.getElem_toArray, List.getElem_cons_succ, List.getElem_cons_zero, List.setIfInBounds_toArray, List.set_cons_zero, List.set_cons_succ]
              refine wpAnyH_ready (rs := [8]) (by kernel_rfl) (by simp) ?_
              refine AllReadyH.cons (o := _) rfl (fun KK hKK => ?_) AllReadyH.nil
              go_simp
              refine Calls.mono (hcon.out _ BD.out) ?_
              rintro e w7 ⟨rfl, hb7⟩
              obtain ⟨⟨s0, s1⟩, bw⟩ := KB.out _ hb7
              clear hb7
              go_wp2_with fail
              refine hKK.out _ _ ⟨s0, s1⟩ (fun hHeld2 => ?_)
              clear hKK KK hHeld
              have hHeld := hHeld2
              clear hHeld2
              try simp only [Act.put, List.getElem_toArray, List.getElem_cons_succ, List.getElem_cons_zero, List.setIfInBounds_toArray, List.set_cons_zero, List.set_cons_succ]
              refine wpAnyH_take (i := 9) (oi := _) (v := ?vB9) rfl (by kernel_rfl) (by kernel_rfl) (by kernel_rfl) (fun _ _ _ h => h) (Or.inl ⟨by rfl, ?hyB9⟩) (by assumption) ?restB9
              case hyB9 => (intro wq hSw; (try dsimp only at hSw); first | (go_simp; done) | (go_simp; with_reducible rfl))
              try simp only [Act.put, List.getElem_toArray, List.getElem_cons_succ, List.getElem_cons_zero, List.setIfInBounds_toArray, List.set_cons_zero, List.set_cons_succ]
              refine wpAnyH_take (i := 10) (oi := _) (v := ?vB10) rfl (by kernel_rfl) (by kernel_rfl) (by kernel_rfl) (fun _ _ _ h => h) (Or.inl ⟨by rfl, ?hyB10⟩) (by assumption) ?restB10
              case hyB10 => (intro wq hSw; (try dsimp only at hSw); first | (go_simp; done) | (go_simp; with_reducible rfl))
              try simp only [Act.put, List.getElem_toArray, List.getElem_cons_succ, List.getElem_cons_zero, List.setIfInBounds_toArray, List.set_cons_zero, List.set_cons_succ]
              refine wpAnyH_take (i := 11) (oi := _) (v := ?vB11) rfl (by kernel_rfl) (by kernel_rfl) (by kernel_rfl) (fun _ _ _ h => h) (Or.inl ⟨by rfl, ?hyB11⟩) (by assumption) ?restB11
              case hyB11 => (intro wq hSw; (try dsimp only at hSw); first | (go_simp; done) | (go_simp; with_reducible rfl))
              try simp only [Act.put, List.getElem_toArray, List.getElem_cons_succ, List.getElem_cons_zero, List.setIfInBounds_toArray, List.set_cons_zero, List.set_cons_succ]
              refine wpAnyH_take (i := 12) (oi := _) (v := ?vB12) rfl (by kernel_rfl) (by kernel_rfl) (by kernel_rfl) (fun _ _ _ h => h) (Or.inl ⟨by rfl, ?hyB12⟩) (by assumption) ?restB12
              case hyB12 => (intro wq hSw; (try dsimp only at hSw); first | (go_simp; done) | (go_simp; with_reducible rfl))
              try simp only [Act.put, List.getElem_toArray, List.getElem_cons_succ, List.getElem_cons_zero, List.setIfInBounds_toArray, List.set_cons_zero, List.set_cons_succ]
              refine wpAnyH_take (i := 13) (oi := _) (v := ?vB13) rfl (by kernel_rfl) (by kernel_rfl) (by kernel_rfl) (fun _ _ _ h => h) (Or.inl ⟨by rfl, ?hyB13⟩) (by assumption) ?restB13
              case hyB13 => (intro wq hSw; (try dsimp only at hSw); first | (go_simp; done) | (go_simp; with_reducible rfl))
              try simp only [Act.put, List.getElem_toArray, List.getElem_cons_succ, List.getElem_cons_zero, List.setIfInBounds_toArray, List.set_cons_zero, List.set_cons_succ]
              refine wpAnyH_take (i := 14) (oi := _) (v := ?vB14) rfl (by kernel_rfl) (by kernel_rfl) (by kernel_rfl) (fun _ _ _ h => h) (Or.inl ⟨by rfl, ?hyB14⟩) (by assumption) ?restB14
              case hyB14 => (intro wq hSw; (try dsimp only at hSw); first | (go_simp; done) | (go_simp; with_reducible rfl))
              try simp only [Act.put, List.getElem_toArray, List.getElem_cons_succ, List.getElem_cons_zero, List.setIfInBounds_toArray, List.set_cons_zero, List.set_cons_succ]
              refine wpAnyH_take (i := 15) (oi := _) (v := ?vB15) rfl (by kernel_rfl) (by kernel_rfl) (by kernel_rfl) (fun _ _ _ h => h) (Or.inl ⟨by rfl, ?hyB15⟩) (by assumption) ?restB15
              case hyB15 => (intro wq hSw; (try dsimp only at hSw); first | (go_simp; done) | (go_simp; with_reducible rfl))
              try simp only [Act.put, List.getElem_toArray, List.getElem_cons_succ, List.getElem_cons_zero, List.setIfInBounds_toArray, List.set_cons_zero, List.set_cons_succ]
              refine wpAnyH_take (i := 16) (oi := _) (v := ?vB16) rfl (by kernel_rfl) (by kernel_rfl) (by kernel_rfl) (fun _ _ _ h => h) (Or.inl ⟨by rfl, ?hyB16⟩) (by assumption) ?restB16
              case hyB16 => (intro wq hSw; (try dsimp only at hSw); first | (go_simp; done) | (go_simp; with_reducible rfl))
              try simp only [Act.put, List.getElem_toArray, List.getElem_cons_succ, List.getElem_cons_zero, List.setIfInBounds_toArray, List.set_cons_zero, List.set_cons_succ]
              refine wpAnyH_take (i := 17) (oi := _) (v := ?vB17) rfl (by kernel_rfl) (by kernel_rfl) (by kernel_rfl) (fun _ _ _ h => h) (Or.inl ⟨by rfl, ?hyB17⟩) (by assumption) ?restB17
              case hyB17 => (intro wq hSw; (try dsimp only at hSw); first | (go_simp; done) | (go_simp; with_reducible rfl))
              try simp only [Act.put, List.getElem_toArray, List.getElem_cons_succ, List.getElem_cons_zero, List.setIfInBounds_toArray, List.set_cons_zero, List.set_cons_succ]
              refine wpAnyH_take (i := 18) (oi := _) (v := ?vB18) rfl (by kernel_rfl) (by kernel_rfl) (by kernel_rfl) (fun _ _ _ h => h) (Or.inl ⟨by rfl, ?hyB18⟩) (by assumption) ?restB18
              case hyB18 => (intro wq hSw; (try dsimp only at hSw); first | (go_simp; done) | (go_simp; with_reducible rfl))
              try simp only [Act.put, List.getElem_toArray, List.getElem_cons_succ, List.getElem_cons_zero, List.setIfInBounds_toArray, List.set_cons_zero, List.set_cons_succ]
              refine wpAnyH_take (i := 19) (oi := _) (v := ?vB19) rfl (by kernel_rfl) (by kernel_rfl) (by kernel_rfl) (fun _ _ _ h => h) (Or.inl ⟨by rfl, ?hyB19⟩) (by assumption) ?restB19
              case hyB19 => (intro wq hSw; (try dsimp only at hSw); first | (go_simp; done) | (go_simp; with_reducible rfl))
              try simp only [Act.put, List.getElem_toArray, List.getElem_cons_succ, List.getElem_cons_zero, List.setIfInBounds_toArray, List.set_cons_zero, List.set_cons_succ]
              refine wpAnyH_take (i := 20) (oi := _) (v := ?vB20) rfl (by kernel_rfl) (by kernel_rfl) (by kernel_rfl) (fun _ _ _ h => h) (Or.inl ⟨by rfl, ?hyB20⟩) (by assumption) ?restB20
              case hyB20 => (intro wq hSw; (try dsimp only at hSw); first | (go_simp; done) | (go_simp; with_reducible rfl))
              try simp only [Act.put, List.getElem_toArray, List.getElem_cons_succ, List.getElem_cons_zero, List.setIfInBounds_toArray, List.set_cons_zero, List.set_cons_succ]
              refine wpAnyH_take (i := 21) (oi := _) (v := ?vB21) rfl (by kernel_rfl) (by kernel_rfl) (by kernel_rfl) (fun _ _ _ h => h) (Or.inl ⟨by rfl, ?hyB21⟩) (by assumption) ?restB21
              case hyB21 => (intro wq hSw; (try dsimp only at hSw); first | (go_simp; done) | (go_simp; with_reducible rfl))
              try simp only [Act.put, List.getElem_toArray, List.getElem_cons_succ, List.getElem_cons_zero, List.setIfInBounds_toArray, List.set_cons_zero, List.set_cons_succ]
              refine wpAnyH_take (i := 22) (oi := _) (v := undef) rfl (by kernel_rfl) (by kernel_rfl) (by kernel_rfl) (fun _ _ _ h => h) (Or.inr ⟨by rfl, rfl⟩) (by assumption) ?_
              try simp only [Act.put, List.getElem_toArray, List.getElem_cons_succ, List.getElem_cons_zero, List.setIfInBounds_toArray, List.set_cons_zero, List.set_cons_succ]
              refine wpAnyH_take (i := 23) (oi := _) (v := undef) rfl (by kernel_rfl) (by kernel_rfl) (by kernel_rfl) (fun _ _ _ h => h) (Or.inr ⟨by rfl, rfl⟩) (by assumption) ?_
              try simp only [Act.put, List.getElem_toArray, List.getElem_cons_succ, List.getElem_cons_zero, List.setIfInBounds_toArray, List.set_cons_zero, List.set_cons_succ]
              refine wpAnyH_take (i := 24) (oi := _) (v := undef) rfl (by kernel_rfl) (by kernel_rfl) (by kernel_rfl) (fun _ _ _ h => h) (Or.inr ⟨by rfl, rfl⟩) (by assumption) ?_
              try simp only [Act.put, List.getElem_toArray, List.getElem_cons_succ, List.getElem_cons_zero, List.setIfInBounds_toArray, List.set_cons_zero, List.set_cons_succ]
              refine wpAnyH_take (i := 25) (oi := _) (v := ?vB25) rfl (by kernel_rfl) (by kernel_rfl) (by kernel_rfl) (fun _ _ _ h => h) (Or.inl ⟨by rfl, ?hyB25⟩) (by assumption) ?restB25
              case hyB25 => (intro wq hSw; (try dsimp only at hSw); first | (go_simp; done) | (go_simp; with_reducible rfl))
              try simp only [Act.put, List.getElem_toArray, List.getElem_cons_succ, List.getElem_cons_zero, List.setIfInBounds_toArray, List.set_cons_zero, List.set_cons_succ]
              refine wpAnyH_take (i := 26) (oi := _) (v := ?vB26) rfl (by kernel_rfl) (by kernel_rfl) (by kernel_rfl) (fun _ _ _ h => h) (Or.inl ⟨by rfl, ?hyB26⟩) (by assumption) ?restB26
              case hyB26 => (intro wq hSw; (try dsimp only at hSw); first | (go_simp; done) | (go_simp; with_reducible rfl))
              try simp only [Act.put, List.getElem_toArray, List.getElem_cons_succ, List.getElem_cons_zero, List.setIfInBounds_toArray, List.set_cons_zero, List.set_cons_succ]
              refine wpAnyH_done (by kernel_rfl) ?_ _
              try go_simp
              clear hHeld
              go_wp2
              go_roundw
              case rel => exact ⟨j + 1, false, by omega, by go_num, rfl, HNK, bw⟩
              case measure => simp [RowKit.intOf]; omega
            · have l1' : decide (dn < xn) = false := decide_eq_false l1
              by_cases l2 : j < i
              · have l2' : decide (j < i) = true := decide_eq_true l2
                have HNK := Lib.hid (KeptTo.yes (vx := vx) (HBD.out.2 ⟨rfl, .inr l2⟩))
                go_upto_region 9 with fail
                go_region_held3 (fun w' => w'.cell? ⟨b, off + j, none⟩ = some (.slice da dn dc) ∧ w'.cell? ⟨b, off + i, none⟩ = some (.slice xa xn xc)) (first | exact ⟨s0, s1⟩ | exact ⟨m0, k0⟩ | go_keep)
                  (first
                    | (go_at_call 20; ((with_reducible refine Calls.mono (hcon.out _ BD.out) ?_); rintro e w7 ⟨rfl, hb7⟩; obtain ⟨⟨s0, s1⟩, bw⟩ := KB.out _ hb7; clear hb7)))

                go_wp2
                go_roundw
                case rel => exact ⟨j + 1, false, by omega, by go_num, rfl, HNK, bw⟩
                case measure => simp [RowKit.intOf]; omega

              · have l2' : decide (j < i) = false := decide_eq_false l2
                have HNK := Lib.hid (HK.out.no (fun h => by have := (HBD.out.1 h).2; omega))
                go_upto_region 9 with fail
                go_region_held3 (fun w' => w'.cell? ⟨b, off + j, none⟩ = some (.slice da dn dc) ∧ w'.cell? ⟨b, off + i, none⟩ = some (.slice xa xn xc)) (first | exact ⟨s0, s1⟩ | exact ⟨m0, k0⟩ | go_keep)
                  (first
                    | (go_at_call 20; ((with_reducible refine Calls.mono (hcon.out _ BD.out) ?_); rintro e w7 ⟨rfl, hb7⟩; obtain ⟨⟨s0, s1⟩, bw⟩ := KB.out _ hb7; clear hb7)))

                go_wp2
                go_roundw
                case rel => exact ⟨j + 1, kp, by omega, by go_num, rfl, HNK, bw⟩
                case measure => simp [RowKit.intOf]; omega

        · have hne : ¬ (j : Int) < (n : Int) := by omega
          have HKE : Hid (kp = true ↔ (okV ((xa, xn, xc), X) && keepG subV (K.take i) ((xa, xn, xc), X) (K.drop (i + 1))) = true) := Lib.hid (by
            have h := HK.out
            unfold KeptTo at h
            rw [h, Bool.and_eq_true, HKP.out, HNV.out]
            have e : okV ((xa, xn, xc), X) = vx := HVX.out
            rw [e]
            constructor
            · rintro ⟨h1, h2⟩; exact ⟨h1, fun k hk => h2 k (by omega)⟩
            · rintro ⟨h1, h2⟩; exact ⟨h1, fun k hk => h2 k (by omega)⟩)
          have HOW2 := Lib.hid (HOW.out.below HB2.out)
          cases kp with
          | false =>
            have HSK : Hid (out ++ redG subV okV (K.take (i + 1)) (K.drop (i + 1)) = R) := Lib.hid (by
              rw [← HF.out, HST.out, if_neg (fun h => by have := HKE.out.2 h; cases this)])
            clear HKE
            go_wp2
            go_roundw
            case rel => exact ⟨i + 1, m, ao, co, out, by omega, by go_num, rfl, by omega, HM, HOW2, BL2, HSK⟩
            case measure => simp [RowKit.intOf]; omega
          | true =>
            have HSK : Hid (out ++ [((xa, xn, xc), X)] ++ redG subV okV (K.take (i + 1)) (K.drop (i + 1)) = R) := Lib.hid (by
              rw [← HF.out, HST.out, if_pos (HKE.out.1 rfl), List.append_assoc]; rfl)
            clear HKE
            obtain ⟨b2, off2, e2, hb2, hc2⟩ := (HS.out.below BL2.out).at (by omega)
            cases e2
            have k0 := hc2 i hlt
            clear hc2
            rw [HXE.out] at k0
            replace k0 : wr.cell? ⟨b, off + i, none⟩ = some (.slice xa xn xc) := k0
            have BA := Lib.hid ((Below.refl wr.heap.size wr).alloc (o := .cells #[.slice xa xn xc] 24) (Nat.le_refl _))
            have KC := Lib.hid (SlC.one (heap_alloc_new wr (.cells #[.slice xa xn xc] 24)) ((HX'.out.below HB2.out).below BA.out))
            go_wp2_with (at_builtin; refine wpList_append_cls rfl (.tmp 52) (.tmp 57) 43 43 rfl Tryd.underlying43 Tryd.underlying43 w.heap.size _ out rfl (HOW2.out.below BA.out) _ _ _ _ rfl KC.out (by rw [HM.out]; omega) (Nat.le_trans BL2.out.size BA.out.size) ?_; intro v4 w5 hO4 hB4; have O4 := Lib.hid hO4; have B4 := Lib.hid ((BL2.out.alloc BL2.out.size (.cells #[.slice xa xn xc] 24)).trans hB4); clear hO4 hB4; obtain ⟨a4, c4, hv4⟩ := O4.out.slice; rw [List.length_append, HM.out] at hv4; change v4 = .slice a4 (m + 1) c4 at hv4; subst hv4)
            exact ⟨⟨i + 1, m + 1, a4, c4, _, by omega, by go_num, rfl, by omega, Lib.hid (by rw [List.length_append, HM.out]; rfl), O4, B4, HSK⟩, by simp only [RowKit.intOf]; omega⟩
    · have hne : ¬ (i : Int) < (n : Int) := by omega
      have HRE : Hid (out = R) := Lib.hid (by rw [← HF.out, red_end (by rw [HNV.out]; omega), List.append_nil])
      go_wp2
      refine bodyPost_ret (results_tmp rfl _ _ _) rfl ?_
      exact ⟨_, rfl, by rw [← HRE.out]; exact HOW.out, HB.out⟩

end Go.Proofs.YtljgcjmelmpgoaaDoor
