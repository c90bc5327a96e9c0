/- Lists of numbers in memory; the reference: after. -/
import Derived.Test.YtigokfcoofbdlaaChecked
import Derived.Test.YtigokfcoofbdlaaS0
import Derived.WalkKit
import Derived.ProofKit
import Derived.BigQuiet
import Derived.BigRegion
import Derived.Deep.QuietTactic
import Derived.Deep.MidRow
import Derived.Outline
import Derived.Lib.Hide
import Derived.Laws.CopyOwn
import Derived.Deep.RegionLaw
import Derived.Deep.DeepCutAuto
import Derived.Deep.LoopGhost
import Derived.Laws.AppendOwnNone
import Derived.Deep.RegionWith
namespace Go.Proofs.Ytigokfcoofbdlaa
open Go.RowKit
set_option linter.unusedVariables false

abbrev ivals (l : List Int) : List Value := l.map (Value.int .i64)
theorem iv_at {l : List Int} {i : Nat} (h : i < l.length) : (ivals l)[i]? = some (.int .i64 (l.getD i 0)) := by
  simp [ivals, h]
/-- a slice of ints that reads as l -/
def SlI (w : World) (ad : Option Addr) (n cap : Nat) (l : List Int) : Prop :=
  l.length = n ∧ n ≤ cap ∧ cap ≤ 9223372036854775807 ∧ (n = 0 ∨ ∃ b off, ad = some ⟨b, off, none⟩ ∧ b < w.heap.size ∧ ∀ i, i < n → w.cell? ⟨b, off + i, none⟩ = some (.int .i64 (l.getD i 0)))
theorem SlI.below {w w' : World} {ad : Option Addr} {n cap : Nat} {l : List Int} (h : SlI w ad n cap l) (hb : Below w.heap.size w w') : SlI w' ad n cap l := by
  obtain ⟨h1, h2, h3, h4⟩ := h
  refine ⟨h1, h2, h3, ?_⟩
  rcases h4 with h4 | ⟨b, off, e, hlt, hc⟩
  · exact .inl h4
  · exact .inr ⟨b, off, e, Nat.lt_of_lt_of_le hlt hb.size, fun i hi => (hb.cell (p := ⟨b, off + i, none⟩) hlt).trans (hc i hi)⟩
theorem SlI.nil (w : World) (ad : Option Addr) (cap : Nat) (hc : cap ≤ 9223372036854775807) : SlI w ad 0 cap [] := ⟨rfl, Nat.zero_le _, hc, .inl rfl⟩
theorem SlI.at {w : World} {ad : Option Addr} {n cap : Nat} {l : List Int} (h : SlI w ad n cap l) (hn : 0 < n) : ∃ b off, ad = some ⟨b, off, none⟩ ∧ ∀ i, i < n → w.cell? ⟨b, off + i, none⟩ = some (.int .i64 (l.getD i 0)) := by
  rcases h.2.2.2 with h | ⟨b, off, e, _, hc⟩
  · omega
  · exact ⟨b, off, e, hc⟩
/-- the first number of a list that is greater than x, or its first one -/
def aftI (l : List Int) (x : Int) : Int := (l.find? fun y => decide (x < y)).getD (l.headD 0)
theorem find_hit {l : List Int} {x : Int} {i : Nat} (h : i < l.length) (hn : ∀ k, k < i → ¬ x < l.getD k 0) (hx : x < l.getD i 0) : aftI l x = l.getD i 0 := by
  unfold aftI
  suffices l.find? (fun y => decide (x < y)) = some (l.getD i 0) by rw [this]; rfl
  induction l generalizing i with
  | nil => simp at h
  | cons y l ih =>
    cases i with
    | zero => simp at hx ⊢; simp [hx]
    | succ i =>
      have h0 := hn 0 (by omega)
      simp only [List.getD_cons_zero] at h0
      rw [List.find?_cons_of_neg (by simpa using h0)]
      simpa using ih (i := i) (by simpa using h) (fun k hk => by have := hn (k + 1) (by omega); simpa using this) (by simpa using hx)
theorem find_miss {l : List Int} {x : Int} (h : ∀ k, k < l.length → ¬ x < l.getD k 0) (hl : 0 < l.length) : aftI l x = l.getD 0 0 := by
  unfold aftI
  rw [List.find?_eq_none.2 (fun y hy => by
    obtain ⟨k, hk, e⟩ := List.getElem_of_mem hy
    have := h k hk
    rw [List.getD_eq_getElem?_getD, List.getElem?_eq_getElem hk] at this
    simp only [Option.getD_some] at this
    rw [e] at this
    simpa using this)]
  cases l with
  | nil => simp at hl
  | cons y l => simp
set_option maxHeartbeats 1000000 in
set_option maxRecDepth 100000 in
theorem after_c (ad : Option Addr) (n cap : Nat) (l : List Int) (x : Int) (w : World) (hs : SlI w ad n cap l) (hn : 0 < n) :
    Calls Try.prog 25 #[.slice ad n cap, .int .i64 x] w fun e w' => e = .returned (.int .i64 (aftI l x)) ∧ w = w' := by
  obtain ⟨b, off, rfl, hc⟩ := hs.at hn
  have HC := Lib.hid hc
  have HL := Lib.hid hs.1
  have hcap : n ≤ 9223372036854775807 := by have := hs.2.1; have := hs.2.2.1; omega
  have k00 := hc 0 hn
  rw [Nat.add_zero] at k00
  clear hs hc
  go_enter Try.func25, Try.ntmps25
  go_wp2
  go_loopw [5] (fun s wr => ∃ i : Nat, i ≤ n ∧ s = .int .i64 i ∧ w = wr ∧ Hid (∀ k, k < i → ¬ x < l.getD k 0)) (fun s _ => n - (intOf s).toNat)
  case atStart => exact ⟨0, by omega, rfl, rfl, Lib.hid (fun k hk => absurd hk (Nat.not_lt_zero k))⟩
  case round =>
    obtain ⟨i, hi, rfl, rfl, hno⟩ := hrel
    by_cases hlt : i < n
    · have k0 := HC.out i hlt
      have hhit := Lib.hid (fun h => find_hit (x := x) (show i < l.length by rw [HL.out]; exact hlt) hno.out h)
      obtain ⟨y, hy⟩ : ∃ y, l.getD i 0 = y := ⟨_, rfl⟩
      rw [hy] at k0 hhit
      have HYY := Lib.hid hy
      clear hy
      by_cases hgt : x < y
      · go_wp2
        refine bodyPost_ret (results_tmp rfl _ _ _) rfl ?_
        exact ⟨by rw [hhit.out hgt]; rfl, rfl⟩
      · go_wp2
        go_roundw
        case rel => exact ⟨i + 1, by omega, by go_num, trivial, Lib.hid (fun k hk => by
          rcases Nat.lt_or_ge k i with h | h
          · exact hno.out k h
          · have : k = i := by omega
            rw [this, HYY.out]; exact hgt)⟩
        case measure => simp [intOf]; omega
    · have hin : i = n := by omega
      have hm := find_miss (l := l) (x := x) (fun k hk => hno.out k (by rw [HL.out] at hk; omega)) (by rw [HL.out]; exact hn)
      have HMM := Lib.hid hm
      clear hm
      go_wp2
      refine bodyPost_ret (results_tmp rfl _ _ _) rfl ?_
      exact ⟨by rw [HMM.out]; rfl, rfl⟩

end Go.Proofs.Ytigokfcoofbdlaa
