/- The reference: Text. -/
import Derived.Test.YtljgcjmelmpgoaaDoorQ37
namespace Go.Proofs.YtljgcjmelmpgoaaDoor
open Go.RowKit
set_option linter.unusedVariables false

theorem join_snoc (xs : List (List UInt8)) (y sep : List UInt8) (h : xs ≠ []) : Lib.join (xs ++ [y]) sep = Lib.join xs sep ++ (sep ++ y) := by
  cases xs with
  | nil => exact absurd rfl h
  | cons x r =>
    rw [List.cons_append, Lib.join_cons, Lib.join_cons]
    unfold Lib.joinTail
    simp
/-- the text of the first clauses' literals -/
def pre (L : List Lt) (i : Nat) : List UInt8 := Lib.join ((L.take i).map litText) [32, 124, 32]
theorem pre_one {L : List Lt} {x : Lt} (h : 0 < L.length) (hx : L.getD 0 d0 = x) : pre L (0 + 1) = litText x := by
  unfold pre
  rw [take_snoc h, hx, List.take_zero, List.nil_append, List.map_singleton, Lib.join_one]
theorem pre_step {L : List Lt} {i : Nat} {x : Lt} (h : i < L.length) (h0 : 0 < i) (hx : L.getD i d0 = x) : pre L (i + 1) = pre L i ++ ([32, 124, 32] ++ litText x) := by
  unfold pre
  rw [take_snoc h, hx, List.map_append, List.map_singleton]
  refine join_snoc _ _ _ ?_
  intro hn
  have := congrArg List.length hn
  rw [List.length_map, List.length_take, List.length_nil] at this
  omega
theorem size4 (sb su t : ByteArray) (h : su.size ≤ 4) (ht : t.size ≤ 4) : ((((sb ++ ByteArray.mk #[32, 124, 32]) ++ ByteArray.mk #[117]) ++ su) ++ t).size ≤ sb.size + 12 := by
  have e1 : (ByteArray.mk #[32, 124, 32]).size = 3 := rfl
  have e2 : (ByteArray.mk #[117]).size = 1 := rfl
  rw [ByteArray.size_append, ByteArray.size_append, ByteArray.size_append, ByteArray.size_append, e1, e2]
  omega
theorem size3 (sb su t : ByteArray) (h : su.size ≤ 4) (ht : t.size ≤ 4) : (((sb ++ ByteArray.mk #[117]) ++ su) ++ t).size ≤ sb.size + 12 := by
  have e2 : (ByteArray.mk #[117]).size = 1 := rfl
  rw [ByteArray.size_append, ByteArray.size_append, ByteArray.size_append, e2]
  omega
theorem litText_off (u : Int) (su : ByteArray) (h : ByteArray.mk (Lib.itoa u).toArray = su) (sb : ByteArray) (S : List UInt8) (hs : sb = ByteArray.mk S.toArray) :
    ((sb ++ ByteArray.mk #[117]) ++ su) ++ ByteArray.mk #[32, 111, 102, 102] = ByteArray.mk (S ++ litText (u, false)).toArray := by
  subst h hs
  apply ByteArray.ext
  apply Array.ext'
  rw [str_cat, str_cat, str_cat]
  simp [litText, tail2]
theorem litText_on (u : Int) (su : ByteArray) (h : ByteArray.mk (Lib.itoa u).toArray = su) (sb : ByteArray) (S : List UInt8) (hs : sb = ByteArray.mk S.toArray) :
    ((sb ++ ByteArray.mk #[117]) ++ su) ++ ByteArray.mk #[32, 111, 110] = ByteArray.mk (S ++ litText (u, true)).toArray := by
  subst h hs
  apply ByteArray.ext
  apply Array.ext'
  rw [str_cat, str_cat, str_cat]
  simp [litText, tail2]
theorem sep_cat (sb : ByteArray) (S : List UInt8) (hs : sb = ByteArray.mk S.toArray) : sb ++ ByteArray.mk #[32, 124, 32] = ByteArray.mk (S ++ [32, 124, 32]).toArray := by
  subst hs
  exact ByteArray.mk_append_mk S [32, 124, 32]
set_option maxHeartbeats 4000000 in
set_option maxRecDepth 100000 in
theorem rtext_c (a : Option Addr) (n c : Nat) (L : List Lt) (w : World) (hs : SlL w a n c L) (hn : n ≤ 1000) (hu : ∀ x ∈ L, 0 ≤ x.1 ∧ x.1 < 1024) :
    Calls Tryd.prog 31 #[.slice a n c] w fun e w' => e = .returned (.string ⟨(textL L).toArray⟩) ∧ Below w.heap.size w w' := by
  have HS := Lib.hid hs
  have HLN := Lib.hid hs.1
  have HU := Lib.hid hu
  clear hs hu
  go_enter Tryd.func31, Tryd.ntmps31
  go_wp2
  go_loopw [3, 4] (fun s3 s wr => ∃ (i : Nat) (sb : ByteArray), i ≤ n ∧ s = .int .i64 (i : Nat) ∧ s3 = .string sb ∧ sb.size ≤ 12 * i ∧ Hid (sb = ByteArray.mk (pre L i).toArray) ∧ Hid (Below w.heap.size w wr)) (fun _ s _ => n - (RowKit.intOf s).toNat)
  case atStart => exact ⟨0, _, by omega, rfl, rfl, by decide, Lib.hid rfl, Lib.hid (Below.refl _ _)⟩
  case round =>
    obtain ⟨i, sb, hi, rfl, rfl, hsz, HSB, HB⟩ := hrel
    by_cases hlt : i < n
    · obtain ⟨b, off, rfl, hb, hc⟩ := (HS.out.below HB.out).at (by omega)
      obtain ⟨k0, k1⟩ := hc i hlt
      clear hc
      obtain ⟨u, hu⟩ : ∃ u, (L.getD i d0).1 = u := ⟨_, rfl⟩
      obtain ⟨o, ho⟩ : ∃ o, (L.getD i d0).2 = o := ⟨_, rfl⟩
      rw [hu] at k0
      rw [ho] at k1
      have HE : Hid (L.getD i d0 = (u, o)) := Lib.hid (by rw [← hu, ← ho])
      have HUB : 0 ≤ u ∧ u < 1024 := by
        have := HU.out (L.getD i d0) (mem_at (by rw [HLN.out]; exact hlt) rfl)
        rwa [hu] at this
      obtain ⟨k, rfl⟩ : ∃ k : Nat, u = (k : Int) := ⟨u.toNat, by omega⟩
      have hk : k < 1024 := by omega
      obtain ⟨su, hsu⟩ : ∃ s, ByteArray.mk (Lib.decDigits k).toArray = s := ⟨_, rfl⟩
      have HSU : Hid (ByteArray.mk (Lib.itoa (k : Int)).toArray = su) := Lib.hid (by unfold Lib.itoa; rw [if_neg (by omega), Int.toNat_natCast]; exact hsu)
      have hss : su.size ≤ 4 := by
        have := itoa_len (k : Int) (by omega)
        unfold Lib.itoa at this
        rw [if_neg (by omega), Int.toNat_natCast] at this
        rw [← hsu]; simpa [ByteArray.size] using this
      have HSU2 := Lib.hid hsu
      clear hu ho hsu HUB
      have hi0 : (0 : Int) ≤ (i : Int) := by omega
      have hi1 : (i : Int) < (n : Int) := by omega
      have HLI := Lib.hid (show i < L.length by rw [HLN.out]; exact hlt)
      by_cases h0 : i = 0
      · subst h0
        have hsz0 : sb.size ≤ 0 := by omega
        have HP := Lib.hid (pre_one HLI.out HE.out)
        clear hi0 hi1 hsz
        rw [Nat.zero_mul, Nat.add_zero] at k0 k1
        have hn0 : 0 < n := hlt
        have HP0 : Hid (sb = ByteArray.mk ([] : List UInt8).toArray) := HSB
        go_wp2_with fail
        refine Calls.mono (num_c k k (Nat.le_refl _) hk wr) ?_
        rintro e w2 ⟨rfl, hb2⟩
        rw [HSU2.out]
        have B2 := Lib.hid (HB.out.trans (hb2.mono HB.out.size))
        have kk1 := (hb2.cell (p := ⟨b, off + 1, none⟩) hb).trans k1
        clear hb2 k0 k1
        cases o with
        | false =>
          have HNX : Hid (((sb ++ ByteArray.mk #[117]) ++ su) ++ ByteArray.mk #[32, 111, 102, 102] = ByteArray.mk (pre L (0 + 1)).toArray) := Lib.hid (by
            rw [HP.out, litText_off k su HSU.out sb [] HP0.out, List.nil_append])
          go_wp2
          go_roundw
          case rel => exact ⟨0 + 1, _, by omega, by go_num, rfl, Nat.le_trans (size3 sb su _ hss (by decide)) (by omega), HNX, B2⟩
          case measure => simp [RowKit.intOf]; omega
        | true =>
          have HNX : Hid (((sb ++ ByteArray.mk #[117]) ++ su) ++ ByteArray.mk #[32, 111, 110] = ByteArray.mk (pre L (0 + 1)).toArray) := Lib.hid (by
            rw [HP.out, litText_on k su HSU.out sb [] HP0.out, List.nil_append])
          go_wp2
          go_roundw
          case rel => exact ⟨0 + 1, _, by omega, by go_num, rfl, Nat.le_trans (size3 sb su _ hss (by decide)) (by omega), HNX, B2⟩
          case measure => simp [RowKit.intOf]; omega
      · have h0' : (0 : Int) < (i : Int) := by omega
        have HP := Lib.hid (pre_step HLI.out (by omega) HE.out)
        have hszn : sb.size ≤ 12000 := by omega
        clear h0
        go_wp2_with fail
        refine Calls.mono (num_c k k (Nat.le_refl _) hk wr) ?_
        rintro e w2 ⟨rfl, hb2⟩
        rw [HSU2.out]
        have B2 := Lib.hid (HB.out.trans (hb2.mono HB.out.size))
        have kk1 := (hb2.cell (p := ⟨b, off + i * 2 + 1, none⟩) hb).trans k1
        clear hb2 k0 k1
        cases o with
        | false =>
          have HNX : Hid ((((sb ++ ByteArray.mk #[32, 124, 32]) ++ ByteArray.mk #[117]) ++ su) ++ ByteArray.mk #[32, 111, 102, 102] = ByteArray.mk (pre L (i + 1)).toArray) := Lib.hid (by
            rw [HP.out, litText_off k su HSU.out _ (pre L i ++ [32, 124, 32]) (sep_cat sb _ HSB.out), List.append_assoc])
          go_wp2
          go_roundw
          case rel => exact ⟨i + 1, _, by omega, by go_num, rfl, Nat.le_trans (size4 sb su _ hss (by decide)) (by omega), HNX, B2⟩
          case measure => simp [RowKit.intOf]; omega
        | true =>
          have HNX : Hid ((((sb ++ ByteArray.mk #[32, 124, 32]) ++ ByteArray.mk #[117]) ++ su) ++ ByteArray.mk #[32, 111, 110] = ByteArray.mk (pre L (i + 1)).toArray) := Lib.hid (by
            rw [HP.out, litText_on k su HSU.out _ (pre L i ++ [32, 124, 32]) (sep_cat sb _ HSB.out), List.append_assoc])
          go_wp2
          go_roundw
          case rel => exact ⟨i + 1, _, by omega, by go_num, rfl, Nat.le_trans (size4 sb su _ hss (by decide)) (by omega), HNX, B2⟩
          case measure => simp [RowKit.intOf]; omega
    · have hin : i = n := by omega
      have hne : ¬ (i : Int) < (n : Int) := by omega
      have HPN : Hid (pre L i = Lib.join (L.map litText) [32, 124, 32]) := Lib.hid (by unfold pre; rw [hin, List.take_of_length_le (by rw [HLN.out]; exact Nat.le_refl _)])
      by_cases hL : L = []
      · have HT : Hid (textL L = [101, 109, 112, 116, 121]) := Lib.hid (by unfold textL; rw [if_pos hL])
        have HS0 : Hid (sb = ByteArray.mk #[]) := Lib.hid (by rw [HSB.out, HPN.out, hL]; rfl)
        have e1 : sb.toList = [] := by rw [HS0.out]; exact ByteArray.toList_mk []
        clear hL hin
        go_wp2
        refine bodyPost_ret (results_tmp rfl _ _ _) rfl ?_
        exact ⟨by rw [HT.out]; rfl, HB.out⟩
      · have HT : Hid (textL L = Lib.join (L.map litText) [32, 124, 32]) := Lib.hid (by unfold textL; rw [if_neg hL])
        have hj : Lib.join (L.map litText) [32, 124, 32] ≠ [] := by
          cases L with
          | nil => exact absurd rfl hL
          | cons x r => rw [List.map_cons, Lib.join_cons]; simp [litText]
        have HSL : Hid (sb.toList = Lib.join (L.map litText) [32, 124, 32]) := Lib.hid (by rw [HSB.out, HPN.out, ByteArray.toList_mk])
        have e1 : ¬ sb.toList = [] := by rw [HSL.out]; exact hj
        have e2 : (sb.toList == []) = false := by rw [beq_eq_false_iff_ne]; exact e1
        have e3 : sb.toList.isEmpty = false := by rw [HSL.out]; cases h : Lib.join (L.map litText) [32, 124, 32] with | nil => exact absurd h hj | cons _ _ => rfl
        clear hL hin hj
        go_wp2
        refine bodyPost_ret (results_tmp rfl _ _ _) rfl ?_
        exact ⟨by rw [HT.out, ← HPN.out, ← HSB.out]; rfl, HB.out⟩

end Go.Proofs.YtljgcjmelmpgoaaDoor
