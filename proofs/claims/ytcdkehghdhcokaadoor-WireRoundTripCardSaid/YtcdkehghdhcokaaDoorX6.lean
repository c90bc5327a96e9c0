/- Nat, Text and Bytes of the program at any bytes. -/
import Derived.Test.YtcdkehghdhcokaaDoorX5
namespace Go.Proofs.YtcdkehghdhcokaaDoor.wr
open Go.RowKit
set_option linter.unusedVariables false

theorem lbs_takes : ∀ (m : Nat) (T : List Int), lbs m (T.take (4 * m)) = lbs m T
  | 0, T => by simp [lbs]
  | m + 1, [] => by simp
  | m + 1, [a] => by rw [show 4 * (m + 1) = 4 * m + 3 + 1 by omega]; simp
  | m + 1, [a, b] => by rw [show 4 * (m + 1) = 4 * m + 2 + 1 + 1 by omega]; simp
  | m + 1, [a, b, c] => by rw [show 4 * (m + 1) = 4 * m + 1 + 1 + 1 + 1 by omega]; simp
  | m + 1, a :: b :: c :: d :: T => by
    rw [show 4 * (m + 1) = 4 * m + 1 + 1 + 1 + 1 by omega]
    simp only [List.take_succ_cons]
    unfold lbs
    rw [lbs_takes m T]
theorem nR_some {L T : List Int} {m : Nat} (h : dec L = some (m, T)) : nR (some L) = if T.length / 4 < m then ([], 5, none) else if 0 < m ∧ (lbs m T).getD (m - 1) 0 = 0 then ([], 5, none) else (lbs m T, 0, some (T.drop (4 * m))) := by
  unfold nR nat8
  dsimp only
  rw [h]
  dsimp only
  by_cases h1 : T.length / 4 < m
  · rw [if_pos h1, if_pos h1]
  · rw [if_neg h1, if_neg h1]
    by_cases h2 : 0 < m ∧ (lbs m T).getD (m - 1) 0 = 0
    · rw [if_pos h2, if_pos h2]
    · rw [if_neg h2, if_neg h2]
theorem nR_none {L : List Int} (h : dec L = none) : nR (some L) = ([], 5, none) := by
  unfold nR nat8
  dsimp only
  rw [h]
theorem nat_g (R : Nat) (s : Option (List Int)) (w : World) (h : St 63 w R s) (hby : ∀ L, s = some L → Bytes L) (hlen : ∀ L, s = some L → L.length ≤ 100000) :
    Calls Tryd.prog 22 #[.pointer (some ⟨R, 0, none⟩)] w (NPost 63 w R (nR s)) := by
  cases s with
  | none => exact nat_bad R w (fun _ _ => take_bad R 4 none w h hby rfl)
  | some L =>
    cases hd : dec L with
    | none =>
      rw [nR_none hd]
      exact nat_bad R w (fun _ _ => take_bad R 4 (some L) w h hby (uR_none hd))
    | some p =>
      obtain ⟨m, T⟩ := p
      rw [nR_some hd]
      have hb := hby L rfl
      have hl := hlen L rfl
      obtain ⟨e1, e2⟩ := dec_grp hb hd
      clear hby hlen hd
      subst e1
      rw [List.length_append] at hl
      by_cases h1 : T.length / 4 < m
      · rw [if_pos h1]
        exact nat_bad R w (fun _ _ => take_short4 R m T w h hb e2 (by omega) h1)
      · rw [if_neg h1]
        have e3 : T = T.take (4 * m) ++ T.drop (4 * m) := (List.take_append_drop _ _).symm
        have H := nat_some R m (T.take (4 * m)) (T.drop (4 * m)) w (by rw [← e3]; exact h) (by rw [← e3]; exact hb) (by rw [List.length_take]; omega) (by rw [← e3]; omega)
        rw [lbs_takes] at H
        exact H
/-- what Bytes and Text read -/
def tk : Option (List Int) → List Int × Int × Option (List Int)
  | none => ([], 5, none)
  | some L => match dec L with | none => ([], 5, none) | some (m, T) => if T.length < m then ([], 5, none) else (T.take m, 0, some (T.drop m))
theorem tk_none {L : List Int} (h : dec L = none) : tk (some L) = ([], 5, none) := by unfold tk; dsimp only; rw [h]
theorem tk_some {L T : List Int} {m : Nat} (h : dec L = some (m, T)) : tk (some L) = if T.length < m then ([], 5, none) else (T.take m, 0, some (T.drop m)) := by unfold tk; dsimp only; rw [h]
/-- what Text does -/
def TPost (t : Nat) (w : World) (R : Nat) (r : List Int × Int × Option (List Int)) (e : Ending) (w' : World) : Prop := e = .returned (.tuple #[.string (strOfNums r.1), .int .i64 r.2.1]) ∧ St t w' R r.2.2 ∧ w.grownBy w' (some R)
/-- what Bytes does -/
def BPost8 (t : Nat) (w : World) (R : Nat) (r : List Int × Int × Option (List Int)) (e : Ending) (w' : World) : Prop := ∃ a n c, e = .returned (.tuple #[.slice a n c, .int .i64 r.2.1]) ∧ SlB w' a n c r.1 ∧ St t w' R r.2.2 ∧ w.grownBy w' (some R)
/-- what take(1) does -/
def KPost (w : World) (R : Nat) (r : List Int × Int × Option (List Int)) (e : Ending) (w' : World) : Prop := ∃ a n c, e = .returned (.tuple #[.slice a n c, .int .i64 r.2.1]) ∧ SlB w' a n c r.1 ∧ St 63 w' R r.2.2 ∧ w.grownBy w' (some R)
theorem take_g (R : Nat) (s : Option (List Int)) (w : World) (h : St 63 w R s) (hby : ∀ L, s = some L → Bytes L) (hlen : ∀ L, s = some L → L.length ≤ 100000) :
    Calls Tryd.prog 41 #[.pointer (some ⟨R, 0, none⟩), .int .i64 1] w (KPost w R (tk s)) := by
  have no : ∀ e w', NoTake w R e w' → KPost w R ([], 5, none) e w' := fun e w' ⟨h1, h2, h3⟩ => ⟨none, 0, 0, h1, SlB.nil _, h2, h3⟩
  cases s with
  | none => exact (take_bad R 1 none w h hby rfl).mono no
  | some L =>
    cases hd : dec L with
    | none =>
      rw [tk_none hd]
      exact (take_bad R 1 (some L) w h hby (uR_none hd)).mono no
    | some p =>
      obtain ⟨m, T⟩ := p
      rw [tk_some hd]
      have hb := hby L rfl
      have hl := hlen L rfl
      obtain ⟨e1, e2⟩ := dec_grp hb hd
      clear hby hlen hd
      subst e1
      rw [List.length_append] at hl
      by_cases h1 : T.length < m
      · rw [if_pos h1]
        exact (take_short1 R m T w h hb e2 (by omega) (by omega)).mono no
      · rw [if_neg h1]
        have e3 : T = T.take m ++ T.drop m := (List.take_append_drop _ _).symm
        have H := take_ok1 R m (T.take m) (T.drop m) w (by rw [← e3]; exact h) (by rw [← e3]; exact hb) (by rw [List.length_take]; omega) (by rw [← e3]; omega)
        exact H.mono (fun e w' ⟨a, c, g1, g2, g3, g4⟩ => ⟨a, _, c, g1, g2, g3, g4⟩)
set_option maxHeartbeats 4000000 in
set_option maxRecDepth 100000 in
theorem text_g (R : Nat) (s : Option (List Int)) (w : World) (h : St 63 w R s) (hby : ∀ L, s = some L → Bytes L) (hlen : ∀ L, s = some L → L.length ≤ 100000) :
    Calls Tryd.prog 25 #[.pointer (some ⟨R, 0, none⟩)] w (TPost 63 w R (tk s)) := by
  have HT := Lib.hid (take_g R s w h hby hlen)
  clear h hby hlen
  obtain ⟨r, hr⟩ : ∃ r, tk s = r := ⟨_, rfl⟩
  rw [hr] at HT ⊢
  obtain ⟨B, er, s'⟩ := r
  obtain ⟨st, hst⟩ : ∃ st, strOfNums B = st := ⟨_, rfl⟩
  unfold TPost
  dsimp only
  rw [hst]
  clear hr
  go_enter Tryd.func25, Tryd.ntmps25
  go_wp2_with fail
  refine HT.out.mono ?_
  rintro e w1 ⟨a, n, c, rfl, hs, hr, hg⟩
  have RR := Lib.hid hr
  have GG := Lib.hid hg
  have cv := conv_sl hs
  clear hs hr hg HT
  dsimp only at cv
  rw [hst] at cv
  dsimp only
  go_wp2
  refine bodyPost_ret (results_tmp2 rfl _ _ _) rfl ?_
  exact ⟨rfl, RR.out, GG.out⟩
set_option maxHeartbeats 4000000 in
set_option maxRecDepth 100000 in
theorem bytes_g (R : Nat) (s : Option (List Int)) (w : World) (h : St 63 w R s) (hby : ∀ L, s = some L → Bytes L) (hlen : ∀ L, s = some L → L.length ≤ 8000) :
    Calls Tryd.prog 32 #[.pointer (some ⟨R, 0, none⟩)] w (BPost8 63 w R (tk s)) := by
  have HT := Lib.hid (take_g R s w h hby (fun L e => Nat.le_trans (hlen L e) (by omega)))
  have hB : (tk s).1.length ≤ 8000 := by
    cases s with
    | none => simp [tk]
    | some L =>
      cases hd : dec L with
      | none => rw [tk_none hd]; simp
      | some p =>
        obtain ⟨m, T⟩ := p
        rw [tk_some hd]
        have hl := hlen L rfl
        rw [(dec_grp (hby L rfl) hd).1, List.length_append] at hl
        split
        · simp
        · simp only [List.length_take]; omega
  clear h hby hlen
  obtain ⟨r, hr⟩ : ∃ r, tk s = r := ⟨_, rfl⟩
  rw [hr] at HT hB ⊢
  obtain ⟨B, er, s'⟩ := r
  clear hr
  go_enter Tryd.func32, Tryd.ntmps32
  go_wp2_with fail
  refine HT.out.mono ?_
  rintro e w1 ⟨a, n, c, rfl, hs, hr, hg⟩
  have RR := Lib.hid hr
  have GG := Lib.hid hg
  have CC := Lib.hid (clone_c a n c B w1 hs (by rw [← hs.1]; exact hB))
  clear hs hr hg HT
  dsimp only
  go_wp2_with fail
  refine CC.out.mono ?_
  rintro e w2 ⟨v, rfl, hO, hb⟩
  obtain ⟨a2, c2, rfl⟩ := hO.slice
  have SS := Lib.hid (hO.sl rfl)
  have R2 := Lib.hid (RR.out.below hb)
  have G2 := Lib.hid (grown_below GG.out hb)
  clear hO hb CC
  go_wp2
  refine bodyPost_ret (results_tmp2 rfl _ _ _) rfl ?_
  exact ⟨a2, _, c2, rfl, SS.out, R2.out, G2.out⟩

end Go.Proofs.YtcdkehghdhcokaaDoor.wr
