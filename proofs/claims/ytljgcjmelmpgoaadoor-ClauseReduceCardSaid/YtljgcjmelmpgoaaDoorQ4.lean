/- The reference: Value. -/
import Derived.Test.YtljgcjmelmpgoaaDoorQ3
namespace Go.Proofs.YtljgcjmelmpgoaaDoor
open Go.RowKit
set_option linter.unusedVariables false

/-- a slice of ints that reads as l -/
def SlI (w : World) (ad : Option Addr) (n cap : Nat) (l : List Int) : Prop :=
  l.length = n ∧ n ≤ cap ∧ cap ≤ 9223372036854775807 ∧ (n = 0 ∨ ∃ b off, ad = some ⟨b, off, none⟩ ∧ b < w.heap.size ∧ ∀ i, i < n → w.cell? ⟨b, off + i, none⟩ = some (.int .i64 (l.getD i 0)))
theorem SlI.below {w w' : World} {ad : Option Addr} {n cap : Nat} {l : List Int} (h : SlI w ad n cap l) (hb : Below w.heap.size w w') : SlI w' ad n cap l := by
  obtain ⟨h1, h2, h3, h4⟩ := h
  refine ⟨h1, h2, h3, ?_⟩
  rcases h4 with h4 | ⟨b, off, e, hlt, hc⟩
  · exact .inl h4
  · exact .inr ⟨b, off, e, Nat.lt_of_lt_of_le hlt hb.size, fun i hi => (hb.cell (p := ⟨b, off + i, none⟩) hlt).trans (hc i hi)⟩
theorem SlI.at {w : World} {ad : Option Addr} {n cap : Nat} {l : List Int} (h : SlI w ad n cap l) (hn : 0 < n) : ∃ b off, ad = some ⟨b, off, none⟩ ∧ b < w.heap.size ∧ ∀ i, i < n → w.cell? ⟨b, off + i, none⟩ = some (.int .i64 (l.getD i 0)) := by
  rcases h.2.2.2 with h | h
  · omega
  · exact h
/-- what a literal is worth under phases: 1 true, -1 false, 0 open -/
def lval (P : List Int) (x : Lt) : Int :=
  if x.1 < 0 ∨ (P.length : Int) ≤ x.1 then 0
  else if P.getD x.1.toNat 0 = 1 then (if x.2 then 1 else -1)
  else if P.getD x.1.toNat 0 = 2 then (if x.2 then -1 else 1) else 0
set_option maxHeartbeats 2000000 in
set_option maxRecDepth 100000 in
theorem value_c (u : Int) (o : Bool) (ad : Option Addr) (n cap : Nat) (P : List Int) (w : World) (hs : SlI w ad n cap P) :
    Calls Tryd.prog 44 #[.agg #[.int .i64 u, .bool o], .slice ad n cap] w fun e w' => e = .returned (.int .i64 (lval P (u, o))) ∧ Below w.heap.size w w' := by
  have HS := Lib.hid hs
  have hcap : n ≤ 9223372036854775807 := by have := hs.2.1; have := hs.2.2.1; omega
  clear hs
  have BX : Hid (Below w.heap.size w (w.alloc (.cells #[.int .i64 u, .bool o] 30))) := Lib.hid ((Below.refl _ _).alloc (Nat.le_refl _) _)
  by_cases h0 : u < 0
  · have HV : Hid (lval P (u, o) = 0) := Lib.hid (by unfold lval; rw [if_pos (.inl h0)])
    go_enter Tryd.func44, Tryd.ntmps44
    go_wp2
    refine bodyPost_ret (results_tmp rfl _ _ _) rfl ?_
    exact ⟨by rw [HV.out]; rfl, BX.out⟩
  · by_cases h1 : (n : Int) ≤ u
    · have HV : Hid (lval P (u, o) = 0) := Lib.hid (by unfold lval; rw [if_pos (.inr (by rw [HS.out.1]; exact h1))])
      go_enter Tryd.func44, Tryd.ntmps44
      go_wp2
      refine bodyPost_ret (results_tmp rfl _ _ _) rfl ?_
      exact ⟨by rw [HV.out]; rfl, BX.out⟩
    · obtain ⟨m, rfl⟩ : ∃ m : Nat, u = (m : Int) := ⟨u.toNat, by omega⟩
      have hmn : m < n := by omega
      obtain ⟨b, off, rfl, hb, hc⟩ := (HS.out.below BX.out).at (by omega)
      have k0 := hc m hmn
      clear hc
      obtain ⟨p, hp⟩ : ∃ p, P.getD m 0 = p := ⟨_, rfl⟩
      rw [hp] at k0
      have HV : Hid (lval P ((m : Int), o) = if p = 1 then (if o then 1 else -1) else if p = 2 then (if o then -1 else 1) else 0) := Lib.hid (by
        unfold lval
        rw [if_neg (by rw [HS.out.1]; intro h; rcases h with h | h <;> omega)]
        show (if P.getD ((m : Int)).toNat 0 = 1 then _ else _) = _
        rw [Int.toNat_natCast, hp])
      have m0 : (0 : Int) ≤ (m : Int) := by omega
      have m1 : (m : Int) < (n : Int) := by omega
      clear h0 h1 hp
      by_cases p1 : p = 1
      · subst p1
        cases o
        all_goals
          go_enter Tryd.func44, Tryd.ntmps44
          go_wp2
          go_quiet (fail)
          go_wp2
          refine bodyPost_ret (results_tmp rfl _ _ _) rfl ?_
          exact ⟨by rw [HV.out]; rfl, below_drewN BX.out _⟩
      · by_cases p2 : p = 2
        · subst p2
          cases o
          all_goals
            go_enter Tryd.func44, Tryd.ntmps44
            go_wp2
            go_quiet (fail)
            go_wp2
            refine bodyPost_ret (results_tmp rfl _ _ _) rfl ?_
            exact ⟨by rw [HV.out]; rfl, below_drewN BX.out _⟩
        · have q1 : (p != 1) = true := by rw [bne_iff_ne]; exact p1
          have q2 : (p != 2) = true := by rw [bne_iff_ne]; exact p2
          have HV2 : Hid (lval P ((m : Int), o) = 0) := Lib.hid (by rw [HV.out, if_neg p1, if_neg p2])
          go_enter Tryd.func44, Tryd.ntmps44
          go_wp2
          refine bodyPost_ret (results_tmp rfl _ _ _) rfl ?_
          exact ⟨by rw [HV2.out]; rfl, BX.out⟩

end Go.Proofs.YtljgcjmelmpgoaaDoor
