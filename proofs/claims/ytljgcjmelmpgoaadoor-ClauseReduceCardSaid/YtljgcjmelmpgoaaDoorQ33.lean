/- Lists of clauses; small. -/
import Derived.Test.YtljgcjmelmpgoaaDoorQ31
namespace Go.Proofs.YtljgcjmelmpgoaaDoor
open Go.RowKit
set_option linter.unusedVariables false

/-- a clause in a list of clauses: where it lies, and its literals -/
abbrev Cl : Type := (Option Addr × Nat × Nat) × List Lt
abbrev c0 : Cl := ((none, 0, 0), [])
def Cl.val (x : Cl) : Value := .slice x.1.1 x.1.2.1 x.1.2.2
def Cl.ok (w : World) (x : Cl) : Prop := SlL w x.1.1 x.1.2.1 x.1.2.2 x.2
/-- a slice of clauses -/
def SlC (w : World) (ad : Option Addr) (n cap : Nat) (K : List Cl) : Prop :=
  (K.length = n ∧ n ≤ cap ∧ cap ≤ 9223372036854775807 ∧ (n = 0 ∨ ∃ b off, ad = some ⟨b, off, none⟩ ∧ b < w.heap.size ∧ ∀ i, i < n → w.cell? ⟨b, off + i, none⟩ = some (K.getD i c0).val)) ∧ ∀ x ∈ K, x.ok w
theorem Cl.ok.below {w w' : World} {x : Cl} (h : x.ok w) (hb : Below w.heap.size w w') : x.ok w' := SlL.below h hb
theorem SlC.below {w w' : World} {ad : Option Addr} {n cap : Nat} {K : List Cl} (h : SlC w ad n cap K) (hb : Below w.heap.size w w') : SlC w' ad n cap K := by
  obtain ⟨⟨h1, h2, h3, h4⟩, h5⟩ := h
  refine ⟨⟨h1, h2, h3, ?_⟩, fun x hx => (h5 x hx).below hb⟩
  rcases h4 with h4 | ⟨b, off, e, hlt, hc⟩
  · exact .inl h4
  · exact .inr ⟨b, off, e, Nat.lt_of_lt_of_le hlt hb.size, fun i hi => (hb.cell (p := ⟨b, off + i, none⟩) hlt).trans (hc i hi)⟩
theorem SlC.at {w : World} {ad : Option Addr} {n cap : Nat} {K : List Cl} (h : SlC w ad n cap K) (hn : 0 < n) : ∃ b off, ad = some ⟨b, off, none⟩ ∧ b < w.heap.size ∧ ∀ i, i < n → w.cell? ⟨b, off + i, none⟩ = some (K.getD i c0).val := by
  rcases h.1.2.2.2 with h | h
  · omega
  · exact h
theorem cl_mem {K : List Cl} {i : Nat} (h : i < K.length) : K.getD i c0 ∈ K := by
  rw [List.getD_eq_getElem?_getD, List.getElem?_eq_getElem h]
  exact List.getElem_mem h
theorem SlC.entry {w : World} {ad : Option Addr} {n cap : Nat} {K : List Cl} (h : SlC w ad n cap K) {i : Nat} (hi : i < n) : (K.getD i c0).ok w := h.2 _ (cl_mem (by rw [h.1.1]; exact hi))
/-- all units less than 6 -/
def smallL (L : List Lt) : Bool := L.all fun x => decide (0 ≤ x.1) && decide (x.1 < 6)
def smallC (K : List Cl) : Bool := K.all fun x => smallL x.2
theorem smallL_iff {L : List Lt} : smallL L = true ↔ ∀ i, i < L.length → 0 ≤ (L.getD i d0).1 ∧ (L.getD i d0).1 < 6 := by
  unfold smallL
  rw [List.all_eq_true]
  constructor
  · intro h i hi
    have := h _ (mem_at hi rfl)
    simpa using this
  · intro h x hx
    obtain ⟨k, hk, e⟩ := List.getElem_of_mem hx
    have := h k hk
    rw [List.getD_eq_getElem?_getD, List.getElem?_eq_getElem hk, Option.getD_some, e] at this
    simpa using this
theorem smallC_iff {K : List Cl} : smallC K = true ↔ ∀ i, i < K.length → smallL (K.getD i c0).2 = true := by
  unfold smallC
  rw [List.all_eq_true]
  constructor
  · intro h i hi
    exact h _ (cl_mem hi)
  · intro h x hx
    obtain ⟨k, hk, e⟩ := List.getElem_of_mem hx
    have := h k hk
    rwa [List.getD_eq_getElem?_getD, List.getElem?_eq_getElem hk, Option.getD_some, e] at this
set_option maxHeartbeats 4000000 in
set_option maxRecDepth 100000 in
theorem small_c (ad : Option Addr) (n cap : Nat) (K : List Cl) (w : World) (hs : SlC w ad n cap K) :
    Calls Tryd.prog 21 #[.slice ad n cap] w fun e w' => e = .returned (.bool (smallC K)) ∧ Below w.heap.size w w' := by
  have HS := Lib.hid hs
  have hcap : n ≤ 9223372036854775807 := by have := hs.1.2.1; have := hs.1.2.2.1; omega
  clear hs
  obtain ⟨V, hV⟩ : ∃ V, smallC K = V := ⟨_, rfl⟩
  rw [hV]
  have HV := Lib.hid hV
  clear hV
  go_enter Tryd.func21, Tryd.ntmps21
  go_wp2
  go_loopw [4, 9] (fun s4 s wr => ∃ i : Nat, i ≤ n ∧ s = .int .i64 (i : Nat) ∧ Hid (∀ k, k < i → smallL (K.getD k c0).2 = true) ∧ Hid (Below w.heap.size w wr)) (fun _ s _ => n - (intOf s).toNat)
  case atStart => exact ⟨0, by omega, rfl, Lib.hid (fun k hk => absurd hk (Nat.not_lt_zero k)), Lib.hid (Below.refl _ _)⟩
  case round =>
    obtain ⟨i, hi, rfl, hno, HB⟩ := hrel
    by_cases hlt : i < n
    · obtain ⟨b, off, rfl, hb, hc⟩ := (HS.out.below HB.out).at (by omega)
      have k0 := hc i hlt
      clear hc
      have hi0 : (0 : Int) ≤ (i : Int) := by omega
      have hi1 : (i : Int) < (n : Int) := by omega
      have HX := Lib.hid ((HS.out.below HB.out).entry hlt)
      obtain ⟨x, hx⟩ : ∃ x, K.getD i c0 = x := ⟨_, rfl⟩
      rw [hx] at k0 HX
      have HXE := Lib.hid hx
      clear hx
      obtain ⟨⟨xa, xn, xc⟩, X⟩ := x
      replace k0 : wr.cell? ⟨b, off + i, none⟩ = some (.slice xa xn xc) := k0
      have HX' : Hid (SlL wr xa xn xc X) := HX
      clear HX
      have hxc : xn ≤ 9223372036854775807 := by have := HX'.out.2.1; have := HX'.out.2.2.1; omega
      go_wp2
      clear k0 hb
      go_loopw [6, 15] (fun s6 s ww => ∃ j : Nat, j ≤ xn ∧ s = .int .i64 (j : Nat) ∧ Hid (∀ k, k < j → 0 ≤ (X.getD k d0).1 ∧ (X.getD k d0).1 < 6) ∧ Hid (Below wr.heap.size wr ww)) (fun _ s _ => xn - (intOf s).toNat)
      case atStart => exact ⟨0, by omega, rfl, Lib.hid (fun k hk => absurd hk (Nat.not_lt_zero k)), Lib.hid (Below.refl _ _)⟩
      case round =>
        obtain ⟨j, hj, rfl, hok, HB2⟩ := hrel
        have BW := Lib.hid (HB.out.trans (HB2.out.mono HB.out.size))
        by_cases hlt2 : j < xn
        · obtain ⟨b2, off2, rfl, hb2, hc2⟩ := (HX'.out.below HB2.out).at (by omega)
          obtain ⟨m0, m1⟩ := hc2 j hlt2
          clear hc2
          obtain ⟨u, hu⟩ : ∃ u, (X.getD j d0).1 = u := ⟨_, rfl⟩
          obtain ⟨o, ho⟩ : ∃ o, (X.getD j d0).2 = o := ⟨_, rfl⟩
          rw [hu] at m0
          rw [ho] at m1
          have HU := Lib.hid hu
          clear hu ho
          have hj0 : (0 : Int) ≤ (j : Int) := by omega
          have hj1 : (j : Int) < (xn : Int) := by omega
          have BA := Lib.hid (BW.out.alloc BW.out.size (.cells #[.int .i64 u, .bool o] 30))
          have B2A := Lib.hid (HB2.out.alloc HB2.out.size (.cells #[.int .i64 u, .bool o] 30))
          have HNO : Hid (¬ (0 ≤ u ∧ u < 6) → V = false) := Lib.hid (fun hbad => by
            rw [← HV.out, ← Bool.not_eq_true]
            intro hc
            have h1 := smallC_iff.1 hc i (by rw [HS.out.1.1]; exact hlt)
            rw [HXE.out] at h1
            have h2 := smallL_iff.1 h1 j (by rw [HX'.out.1]; exact hlt2)
            rw [HU.out] at h2
            exact hbad h2)
          by_cases g1 : u < 0
          · have HN : Hid (V = false) := Lib.hid (HNO.out (by omega))
            go_wp2
            refine bodyPost_ret (results_tmp rfl _ _ _) rfl ?_
            exact ⟨by rw [HN.out]; rfl, BA.out⟩
          · by_cases g2 : u < 6
            · have HK : Hid (∀ k, k < j + 1 → 0 ≤ (X.getD k d0).1 ∧ (X.getD k d0).1 < 6) := Lib.hid (fun k hk => by
                by_cases hkj : k = j
                · rw [hkj, HU.out]; omega
                · exact hok.out k (by omega))
              go_wp2
              go_roundw
              case rel => exact ⟨j + 1, by omega, by go_num, HK, B2A⟩
              case measure => simp [intOf]; omega
            · have HN : Hid (V = false) := Lib.hid (HNO.out (by omega))
              have g3 : 6 ≤ u := by omega
              go_wp2
              refine bodyPost_ret (results_tmp rfl _ _ _) rfl ?_
              exact ⟨by rw [HN.out]; rfl, BA.out⟩
        · have hne : ¬ (j : Int) < (xn : Int) := by omega
          have HNX : Hid (∀ k, k < i + 1 → smallL (K.getD k c0).2 = true) := Lib.hid (fun k hk => by
            by_cases hki : k = i
            · rw [hki, HXE.out]; exact smallL_iff.2 (fun t ht => hok.out t (by rw [HX'.out.1] at ht; omega))
            · exact hno.out k (by omega))
          go_wp2
          go_roundw
          case rel => exact ⟨i + 1, by omega, by go_num, HNX, BW⟩
          case measure => simp [intOf]; omega
    · have hne : ¬ (i : Int) < (n : Int) := by omega
      have HN : Hid (V = true) := Lib.hid (by rw [← HV.out, smallC_iff]; exact fun k hk => hno.out k (by rw [HS.out.1.1] at hk; omega))
      go_wp2
      refine bodyPost_ret (results_tmp rfl _ _ _) rfl ?_
      exact ⟨by rw [HN.out]; rfl, HB.out⟩

end Go.Proofs.YtljgcjmelmpgoaaDoor
