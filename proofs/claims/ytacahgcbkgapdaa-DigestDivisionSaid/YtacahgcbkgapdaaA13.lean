/- What came in as a slice of bytes; the laws of one sum and of the nil hash. -/
import Derived.Test.YtacahgcbkgapdaaA12
import Derived.Laws.BytesArg
namespace Go.Proofs.Ytacahgcbkgapdaa
open Go.RowKit
set_option linter.unusedVariables false

theorem sl_of_row {w : World} {a : Option Addr} {len cap : Nat} {zs : List Int} (h : (a = none ∧ len = 0 ∧ cap = 0 ∧ zs = []) ∨
    ∃ x, a = some x ∧ len ≤ cap ∧ cap ≤ maxLen ∧ zs.length = cap ∧ (∀ i, i < zs.length → w.cell? (x.add i) = some (.int .u8 (zs.getD i 0))) ∧ ∀ n ∈ zs, (Lit.int .u8 n).wf = true) :
    SlB w a len cap (zs.take len) ∧ (a = none → len = 0 ∧ cap = 0) := by
  rcases h with ⟨rfl, rfl, rfl, rfl⟩ | ⟨x, rfl, hl, hm, hz, hc, hw⟩
  · exact ⟨SlB.nil w none 0 (by omega), fun _ => ⟨rfl, rfl⟩⟩
  · refine ⟨⟨by rw [List.length_take]; omega, hl, by unfold maxLen at hm; omega, ?_⟩, fun h => by cases h⟩
    by_cases h0 : len = 0
    · exact .inl h0
    · right
      obtain ⟨b, off, spot⟩ := x
      have hc0 := hc 0 (by omega)
      have hspot : spot = none := by simpa [Addr.add] using World.cell?_spot hc0
      subst hspot
      have hb : b < w.heap.size := by
        rw [Addr.add_mid] at hc0
        rcases Nat.lt_or_ge b w.heap.size with h | h
        · exact h
        · simp [World.cell?, Array.getElem?_eq_none h] at hc0
      refine ⟨b, off, rfl, hb, fun i hi => ?_⟩
      have := hc i (by omega)
      rw [Addr.add_mid] at this
      rw [this]
      simp [List.getD, hi]
theorem sl_of_own {w : World} {base : Nat} {a : Option Addr} {U c : Nat} {L : List Int} (h : OwnB w base (.slice a U c) L) (hl : L.length = U) : SlB w a U c L ∧ (a = none → U = 0 ∧ c = 0) := by
  rcases id h.2 with ⟨hv, h0⟩ | ⟨g, cap, cur, hv, hg, hh, h1, h2, _⟩
  · injection hv with e1 e2 e3
    subst e1; subst e3; subst e2
    obtain rfl : L = [] := List.eq_nil_of_length_eq_zero hl
    exact ⟨SlB.nil w none 0 (by omega), fun _ => ⟨rfl, rfl⟩⟩
  · injection hv with e1 e2 e3
    subst e1; subst e3
    refine ⟨⟨hl, by omega, by unfold maxLen at h2; omega, ?_⟩, fun h => by cases h⟩
    by_cases h0 : U = 0
    · exact .inl h0
    · obtain ⟨g', e, _, h3, _, _, hc⟩ := own_bytes h hl (by omega)
      cases e
      exact .inr ⟨g, 0, rfl, h3, fun i hi => hc i (by omega)⟩
theorem own_base {w : World} {base : Nat} {a : Option Addr} {U c : Nat} {L : List Int} (h : OwnB w base (.slice a U c) L) (hl : L.length = U) : ∀ b off, a = some ⟨b, off, none⟩ → base ≤ b := by
  intro b off e
  subst e
  rcases id h.2 with ⟨hv, h0⟩ | ⟨g, cap, cur, hv, hg, hh, h1, h2, _⟩
  · injection hv with e1; cases e1
  · injection hv with e1; cases e1; exact hg
theorem conv_sl {w : World} {a : Option Addr} {n cap : Nat} {l : List Int} (h : SlB w a n cap l) (hz : a = none → n = 0 ∧ cap = 0) :
    (convert 22 9 (.slice a n cap)).run Try.prog w = .ok (.string (strOfNums l)) w := by
  obtain ⟨h1, h2, h3, h4⟩ := h
  cases a with
  | none =>
    obtain ⟨rfl, rfl⟩ := hz rfl
    obtain rfl : l = [] := List.eq_nil_of_length_eq_zero h1
    exact run_convert_bytes_nil w 22 5 Try.underlying22 Try.underlying5 0 0 9 Try.underlying9
  | some x =>
    rcases h4 with rfl | ⟨b, off, e, _, hc⟩
    · obtain rfl : l = [] := List.eq_nil_of_length_eq_zero h1
      exact by
        rw [run_convert_bytes_string w 22 9 5 _ 0 cap Try.underlying22 Try.underlying5 Try.underlying9, run_bytesToString w x 0 cap [] (by have := run_loadCells_list (P := Try.prog) w x [] (fun j v h => by simp at h); simpa using this)]
        rfl
    · cases e
      exact run_convert_bytes_arg w 22 5 Try.underlying22 Try.underlying5 b off n cap l h1 hc 9 Try.underlying9
theorem SlB.grown_own {w w' : World} {ad : Option Addr} {n cap g : Nat} {l : List Int} {o : Obj} {r : Option Nat} (h : SlB (w.alloc o) ad n cap l) (hg : (w.alloc o).grownBy w' r) (hr : r = some g) (hlt : ∀ b off, ad = some ⟨b, off, none⟩ → 0 < n → b ≠ g) : SlB w' ad n cap l := by
  subst hr
  obtain ⟨h1, h2, h3, h4⟩ := h
  refine ⟨h1, h2, h3, ?_⟩
  rcases h4 with h4 | ⟨b, off, e, hl, hc⟩
  · exact .inl h4
  · by_cases h0 : 0 < n
    · exact .inr ⟨b, off, e, Nat.lt_of_lt_of_le hl hg.size, fun i hi => hg.cell (hc i hi) (by simpa using hlt b off e h0)⟩
    · exact .inl (by omega)
theorem SlB.block {w : World} {ad : Option Addr} {n cap : Nat} {l : List Int} (h : SlB w ad n cap l) : ∀ b off, ad = some ⟨b, off, none⟩ → 0 < n → b < w.heap.size := by
  intro b off e h0
  rcases h.2.2.2 with h4 | ⟨b', off', e', hl, _⟩
  · omega
  · rw [e] at e'; cases e'; exact hl
set_option maxHeartbeats 1000000 in
set_option maxRecDepth 100000 in
theorem law_sum (ad : Option Addr) (n cap : Nat) (l : List Int) (w : World) (hs : SlB w ad n cap l) (hz : ad = none → n = 0 ∧ cap = 0) :
    Calls Try.prog 3 #[.slice ad n cap] w fun e w' => e = .returned (.bool true) ∧ Below w.heap.size w w' := by
  have HS := Lib.hid hs; clear hs
  have HL := Lib.hid HS.out.1
  by_cases hn : 400 < n
  · go_enter Try.func3, Try.ntmps3
    go_wp2_with fail
    refine (awake_c w).mono ?_
    rintro e w1 ⟨rfl, hb1⟩
    have B1 := Lib.hid hb1
    clear hb1
    go_wp2_with fail
    refine (awake_c w1).mono ?_
    rintro e w2 ⟨rfl, hb2⟩
    have B2 := Lib.hid (B1.out.trans (hb2.mono B1.out.size))
    go_wp2
    refine bodyPost_ret (results_tmp rfl _ _ _) rfl ?_
    exact ⟨rfl, B2.out⟩
  · have HD1 := Lib.hid (fun (va : Option Addr) (vc : Nat) (w2 : World) (h : SlB w2 va n vc l) => digestSum_c va n vc l w2 h (by omega))
    have HD2 := Lib.hid (fun (w3 : World) (h : SlB w3 ad n cap l) => refSum_c ad n cap l w3 h (by omega) hz)
    have lD : (dig l).length = 32 := dig_len l
    obtain ⟨D, hD⟩ : ∃ D, dig l = D := ⟨_, rfl⟩
    rw [hD] at lD HD1 HD2
    clear hD
    go_enter Try.func3, Try.ntmps3
    go_wp2_with fail
    refine (awake_c w).mono ?_
    rintro e w1 ⟨rfl, hb1⟩
    have B1 := Lib.hid hb1
    have S1 := Lib.hid (HS.out.below hb1)
    clear hb1
    have OH : Hid ((w1.alloc (.cells #[] 5)).ownsRow w1.heap.size 5 1 (.slice (some ⟨w1.heap.size, 0, none⟩) 0 0) 0 []) := Lib.hid (World.ownsRow_made w1 #[] 0 (Nat.le_refl _) (by unfold maxLen; omega) rfl)
    go_wp2_with (at_builtin; refine wpList_append_sl rfl (.tmp 12) (.tmp 13) rfl w1.heap.size _ _ _ rfl OH.out ad n cap l rfl (S1.out.below ((Below.refl _ _).alloc (Nat.le_refl _) _)) hz (by omega) (by rw [World.size_alloc]; omega) ?_; intro v1 w2 O1 G1; rw [Nat.zero_add, List.nil_append] at O1; have OH1 := Lib.hid O1; have GH1 := Lib.hid G1; clear O1 G1)
    obtain ⟨va, vc, rfl⟩ := own_slice OH1.out
    have ho : OwnB w2 w1.heap.size (.slice va n vc) l := by
      have := OH1.out
      unfold OwnB; rw [HL.out]; simpa using this
    have S2 := Lib.hid ((S1.out.below ((Below.refl _ _).alloc (Nat.le_refl _) _)).grown_own GH1.out (g := w1.heap.size) rfl (fun b off e h0 => by have := S1.out.block b off e h0; omega))
    have B2 := Lib.hid (below_grownO (B1.out.alloc (o := .cells #[] 5) B1.out.size) GH1.out (by rw [World.size_alloc]; have := B1.out.size; omega) (fun k hk => by have e' := Option.some.inj (show some w1.heap.size = some k from hk); have := B1.out.size; omega))
    have C2 := Lib.hid (sl_of_own ho HL.out)
    clear ho OH1 GH1 OH S1 B1
    refine (HD1.out va vc w2 C2.out.1).mono ?_
    rintro e w3 ⟨rfl, hb3⟩
    have S3 := Lib.hid (S2.out.below hb3)
    have C3 := Lib.hid (C2.out.1.below hb3)
    have B3 := Lib.hid (B2.out.trans (hb3.mono B2.out.size))
    clear hb3 S2 B2
    go_wp2_with fail
    refine (HD2.out w3 S3.out).mono ?_
    rintro e w4 ⟨rfl, hb4⟩
    have S4 := Lib.hid (S3.out.below hb4)
    have C4 := Lib.hid (C3.out.below hb4)
    have B4 := Lib.hid (B3.out.trans (hb4.mono B3.out.size))
    clear hb4 S3 B3
    have q1 := eqIn_same w4 D lD
    have q2 := fun x y => grd w4 .eql x y (vals .u8 D).toArray (vals .u8 D).toArray
    have c1 := conv_sl S4.out hz
    have c2 := conv_sl C4.out C2.out.2
    go_wp2
    refine bodyPost_ret (results_tmp rfl _ _ _) rfl ?_
    exact ⟨rfl, B4.out⟩

end Go.Proofs.Ytacahgcbkgapdaa
