/- Lists of literals in memory; Valid. -/
import Derived.Test.YtljgcjmelmpgoaaDoorChecked
import Derived.WalkKit
import Derived.ProofKit
import Derived.BigQuiet
import Derived.BigRegion
import Derived.Deep.QuietTactic
import Derived.Deep.MidRow
import Derived.Outline
import Derived.Lib.Hide
import Derived.Laws.CopyOwn
import Derived.Deep.RegionLaw
import Derived.Deep.DeepCutAuto
import Derived.Deep.LoopGhost
import Derived.Laws.AppendOwnNone
import Derived.Deep.RegionWith
namespace Go.Proofs.YtljgcjmelmpgoaaDoor
open Go.RowKit
set_option linter.unusedVariables false

theorem below_drewN {B : Nat} {w0 w : World} (h : Below B w0 w) (n : Nat) : Below B w0 (w.drewN n) := ⟨h.os, h.tape, h.output, h.size, h.block⟩
/-- a literal: its unit, and whether it is on -/
abbrev Lt : Type := Int × Bool
abbrev d0 : Lt := (0, false)
/-- a slice of literals that reads as L -/
def SlL (w : World) (ad : Option Addr) (n cap : Nat) (L : List Lt) : Prop :=
  L.length = n ∧ n ≤ cap ∧ cap ≤ 9223372036854775807 ∧ (n = 0 ∨ ∃ b off, ad = some ⟨b, off, none⟩ ∧ b < w.heap.size ∧ ∀ i, i < n → w.cell? ⟨b, off + i * 2, none⟩ = some (.int .i64 (L.getD i d0).1) ∧ w.cell? ⟨b, off + i * 2 + 1, none⟩ = some (.bool (L.getD i d0).2))
theorem SlL.below {w w' : World} {ad : Option Addr} {n cap : Nat} {L : List Lt} (h : SlL w ad n cap L) (hb : Below w.heap.size w w') : SlL w' ad n cap L := by
  obtain ⟨h1, h2, h3, h4⟩ := h
  refine ⟨h1, h2, h3, ?_⟩
  rcases h4 with h4 | ⟨b, off, e, hlt, hc⟩
  · exact .inl h4
  · exact .inr ⟨b, off, e, Nat.lt_of_lt_of_le hlt hb.size, fun i hi => ⟨(hb.cell (p := ⟨b, off + i * 2, none⟩) hlt).trans (hc i hi).1, (hb.cell (p := ⟨b, off + i * 2 + 1, none⟩) hlt).trans (hc i hi).2⟩⟩
theorem SlL.nil (w : World) (ad : Option Addr) (cap : Nat) (hc : cap ≤ 9223372036854775807) : SlL w ad 0 cap [] := ⟨rfl, Nat.zero_le _, hc, .inl rfl⟩
theorem SlL.at {w : World} {ad : Option Addr} {n cap : Nat} {L : List Lt} (h : SlL w ad n cap L) (hn : 0 < n) : ∃ b off, ad = some ⟨b, off, none⟩ ∧ b < w.heap.size ∧ ∀ i, i < n → w.cell? ⟨b, off + i * 2, none⟩ = some (.int .i64 (L.getD i d0).1) ∧ w.cell? ⟨b, off + i * 2 + 1, none⟩ = some (.bool (L.getD i d0).2) := by
  rcases h.2.2.2 with h | h
  · omega
  · exact h
/-- literals in ascending order of their units, from a number on -/
def vldFrom (last : Int) : List Lt → Bool
  | [] => true
  | (u, _) :: r => decide (last < u) && decide (u < 1024) && vldFrom u r
def vld (L : List Lt) : Bool := vldFrom (-1) L
theorem drop_at {L : List Lt} {i : Nat} (h : i < L.length) : L.drop i = L.getD i d0 :: L.drop (i + 1) := by
  rw [List.drop_eq_getElem_cons h]; simp [h]
theorem vld_step {L : List Lt} {i : Nat} {last u : Int} (h : i < L.length) (hu : (L.getD i d0).1 = u) : vldFrom last (L.drop i) = (decide (last < u) && decide (u < 1024) && vldFrom u (L.drop (i + 1))) := by
  rw [drop_at h]
  show (decide (last < (L.getD i d0).1) && decide ((L.getD i d0).1 < 1024) && vldFrom (L.getD i d0).1 (L.drop (i + 1))) = _
  rw [hu]
set_option maxHeartbeats 1000000 in
set_option maxRecDepth 100000 in
theorem valid_c (ad : Option Addr) (n cap : Nat) (L : List Lt) (w : World) (hs : SlL w ad n cap L) :
    Calls Tryd.prog 15 #[.slice ad n cap] w fun e w' => e = .returned (.bool (vld L)) ∧ Below w.heap.size w w' := by
  have HS := Lib.hid hs
  have hcap : n ≤ 9223372036854775807 := by have := hs.2.1; have := hs.2.2.1; omega
  clear hs
  obtain ⟨V, hV⟩ : ∃ V, vld L = V := ⟨_, rfl⟩
  rw [hV]
  have HV := Lib.hid hV
  clear hV
  go_enter Tryd.func15, Tryd.ntmps15
  go_wp2
  go_loopw [3, 8] (fun s3 s wr => ∃ (i : Nat) (last : Int), i ≤ n ∧ s = .int .i64 (i : Nat) ∧ s3 = .int .i64 last ∧ Hid (vldFrom last (L.drop i) = V) ∧ Hid (Below w.heap.size w wr)) (fun _ s _ => n - (intOf s).toNat)
  case atStart => exact ⟨0, -1, by omega, rfl, rfl, HV, Lib.hid (Below.refl _ _)⟩
  case round =>
    obtain ⟨i, last, hi, rfl, rfl, HF, HB⟩ := hrel
    by_cases hlt : i < n
    · obtain ⟨b, off, rfl, hb, hc⟩ := (HS.out.below HB.out).at (by omega)
      obtain ⟨k0, k1⟩ := hc i hlt
      clear hc
      obtain ⟨u, hu⟩ : ∃ u, (L.getD i d0).1 = u := ⟨_, rfl⟩
      obtain ⟨o, ho⟩ : ∃ o, (L.getD i d0).2 = o := ⟨_, rfl⟩
      rw [hu] at k0
      rw [ho] at k1
      have HST := Lib.hid (vld_step (last := last) (by rw [HS.out.1]; exact hlt) hu)
      clear hu ho
      have BA : Hid (Below w.heap.size w (wr.alloc (.cells #[.int .i64 u, .bool o] 30))) := Lib.hid (HB.out.alloc HB.out.size _)
      by_cases h1 : last < u
      · have h1' : ¬ u ≤ last := by omega
        by_cases h2 : u < 1024
        · have h2' : ¬ (1024 : Int) ≤ u := by omega
          have HN : Hid (vldFrom u (L.drop (i + 1)) = V) := Lib.hid (by rw [← HF.out, HST.out, decide_eq_true h1, decide_eq_true h2]; rfl)
          clear h1 h2
          go_wp2
          go_roundw
          case rel => exact ⟨i + 1, u, by omega, by go_num, rfl, HN, BA⟩
          case measure => simp [intOf]; omega
        · have h2' : (1024 : Int) ≤ u := by omega
          have HN : Hid (V = false) := Lib.hid (by rw [← HF.out, HST.out, decide_eq_false h2]; simp)
          clear h1 h2
          go_wp2
          refine bodyPost_ret (results_tmp rfl _ _ _) rfl ?_
          exact ⟨by rw [HN.out]; rfl, BA.out⟩
      · have h1' : u ≤ last := by omega
        have HN : Hid (V = false) := Lib.hid (by rw [← HF.out, HST.out, decide_eq_false h1]; simp)
        clear h1
        go_wp2
        refine bodyPost_ret (results_tmp rfl _ _ _) rfl ?_
        exact ⟨by rw [HN.out]; rfl, BA.out⟩
    · have hin : i = n := by omega
      have HN : Hid (V = true) := Lib.hid (by rw [← HF.out, List.drop_of_length_le (by rw [HS.out.1]; omega)]; rfl)
      go_wp2
      refine bodyPost_ret (results_tmp rfl _ _ _) rfl ?_
      exact ⟨by rw [HN.out]; rfl, HB.out⟩

end Go.Proofs.YtljgcjmelmpgoaaDoor
