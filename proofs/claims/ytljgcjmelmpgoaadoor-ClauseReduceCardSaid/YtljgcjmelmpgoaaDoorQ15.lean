/- The reference: Make. -/
import Derived.Test.YtljgcjmelmpgoaaDoorQ14
namespace Go.Proofs.YtljgcjmelmpgoaaDoor
open Go.RowKit
set_option linter.unusedVariables false

/-- the reference's clause of literals, before it is looked at -/
def made (L : List Lt) : List Lt := L.foldl ins []
theorem made_step {L : List Lt} {i : Nat} {x : Lt} (h : i < L.length) (hx : L.getD i d0 = x) : made (L.take (i + 1)) = ins (made (L.take i)) x := by
  unfold made
  rw [take_snoc h, hx, List.foldl_append]; rfl
theorem ins_length (L : List Lt) (x : Lt) : (ins L x).length ≤ L.length + 1 := by
  unfold ins
  split
  · exact Nat.le_succ _
  · rename_i h
    clear h
    induction L with
    | nil => exact Nat.le_refl _
    | cons y r ih =>
      show (if x.1 < y.1 then x :: y :: r else y :: ins1 r x).length ≤ _
      split
      · exact Nat.le_refl _
      · exact Nat.succ_le_succ ih
theorem made_length {L : List Lt} : ∀ {i : Nat}, i ≤ L.length → (made (L.take i)).length ≤ i
  | 0, _ => by rw [List.take_zero]; exact Nat.le_refl _
  | i + 1, h => by
    rw [made_step (x := L.getD i d0) h rfl]
    exact Nat.le_trans (ins_length _ _) (Nat.succ_le_succ (made_length (Nat.le_of_succ_le h)))
/-- what the reference's Make answers -/
def MakeSays (w : World) (L : List Lt) (e : Ending) (w' : World) : Prop :=
  ∃ v, e = .returned (.tuple #[v, .bool (vld (made L))]) ∧ OwnL w' w.heap.size v (if vld (made L) = true then made L else []) ∧ Below w.heap.size w w'
set_option maxHeartbeats 4000000 in
set_option maxRecDepth 100000 in
theorem rmake_c (a : Option Addr) (n c : Nat) (L : List Lt) (w : World) (hs : SlL w a n c L) (hn : n ≤ 1000) :
    Calls Tryd.prog 13 #[.slice a n c] w fun e w' => MakeSays w L e w' := by
  have HS := Lib.hid hs
  have HLN : Hid (L.length = n) := Lib.hid hs.1
  have hcap : n ≤ 9223372036854775807 := by omega
  clear hs
  go_enter Tryd.func13, Tryd.ntmps13
  go_wp2
  go_loopw [4, 5] (fun s3 s wr => ∃ (i m : Nat) (ao : Option Addr) (co : Nat), i ≤ n ∧ s = .int .i64 (i : Nat) ∧ s3 = .slice ao m co ∧ m ≤ i ∧ Hid ((made (L.take i)).length = m) ∧ Hid (OwnL wr w.heap.size (.slice ao m co) (made (L.take i))) ∧ Hid (Below w.heap.size w wr)) (fun _ s _ => n - (intOf s).toNat)
  case atStart => exact ⟨0, 0, none, 0, by omega, rfl, rfl, by omega, Lib.hid rfl, Lib.hid ⟨rfl, .inl ⟨rfl, rfl⟩⟩, Lib.hid (Below.refl _ _)⟩
  case round =>
    obtain ⟨i, m, ao, co, hi, rfl, rfl, hmi, HM, HOW, HB⟩ := hrel
    by_cases hlt : i < n
    · obtain ⟨b, off, rfl, hb, hc⟩ := (HS.out.below HB.out).at (by omega)
      obtain ⟨k0, k1⟩ := hc i hlt
      clear hc
      obtain ⟨u, hu⟩ : ∃ u, (L.getD i d0).1 = u := ⟨_, rfl⟩
      obtain ⟨o, ho⟩ : ∃ o, (L.getD i d0).2 = o := ⟨_, rfl⟩
      rw [hu] at k0
      rw [ho] at k1
      have HI := Lib.hid (made_step (x := (u, o)) (by rw [HLN.out]; exact hlt) (by rw [← hu, ← ho]))
      have HL' := Lib.hid (made_length (L := L) (i := i + 1) (by rw [HLN.out]; exact hlt))
      clear hu ho
      have hi1 : (0 : Int) ≤ (i : Int) := by omega
      have hi2 : (i : Int) < (n : Int) := by omega
      go_wp2_with fail
      refine (insert_c w.heap.size ao m co _ u o _ (by first | exact HOW.out | exact HOW.out.below (below_drewN (Below.refl _ _) _)) HM.out (by omega) HB.out.size).mono ?_
      rintro e w2 ⟨v2, rfl, hO2, hb2⟩
      rw [← HI.out] at hO2
      obtain ⟨a2, c2, rfl⟩ := hO2.slice
      have O2 := Lib.hid hO2
      have B2 := Lib.hid (HB.out.trans (hb2.mono HB.out.size))
      clear hO2 hb2
      obtain ⟨m2, hm2⟩ : ∃ y, (made (L.take (i + 1))).length = y := ⟨_, rfl⟩
      have M2 := Lib.hid hm2
      have hm3 : m2 ≤ i + 1 := by rw [← hm2]; exact HL'.out
      rw [hm2] at O2
      rw [hm2]
      clear hm2
      go_wp2
      exact ⟨⟨i + 1, m2, a2, c2, by omega, by go_num, rfl, hm3, M2, O2, B2⟩, by simp only [intOf]; omega⟩
    · obtain rfl : i = n := by omega
      have hne : ¬ ((i : Int) < (i : Int)) := by omega
      have TK : L.take i = L := List.take_of_length_le (by rw [HLN.out]; exact Nat.le_refl _)
      rw [TK] at HM HOW
      clear TK
      go_wp2_with fail
      refine (rvalid_c ao m co (made L) _ (HOW.out.sl HM.out)).mono ?_
      rintro e w1 ⟨rfl, hb1⟩
      have O1 := Lib.hid (HOW.out.below hb1)
      have B1 := Lib.hid (HB.out.trans (hb1.mono HB.out.size))
      clear hb1
      obtain ⟨t, ht⟩ : ∃ t, vld (made L) = t := ⟨_, rfl⟩
      have HT := Lib.hid ht
      rw [ht]
      clear ht
      cases t with
      | true =>
        go_wp2
        refine bodyPost_ret (results_tmp2 rfl _ _ _) rfl ?_
        exact ⟨_, by rw [HT.out]; rfl, by rw [if_pos HT.out]; exact O1.out, B1.out⟩
      | false =>
        go_wp2
        refine bodyPost_ret (results_tmp2 rfl _ _ _) rfl ?_
        exact ⟨_, by rw [HT.out]; rfl, by rw [if_neg (by rw [HT.out]; decide)]; exact ⟨rfl, .inl ⟨rfl, rfl⟩⟩, B1.out⟩

end Go.Proofs.YtljgcjmelmpgoaaDoor
