/- Walks of layer 1: adding and subtracting in place. -/
import Derived.Test.YtgoiechhhnhgaaaDoorB1
namespace Go.Proofs.YtgoiechhhnhgaaaDoor
open Go.RowKit
set_option linter.unusedVariables false
theorem nv_take_succ (l : List Nat) (i : Nat) : nv (l.take (i + 1)) = nv (l.take i) + BB ^ i * l.getD i 0 := by
  by_cases h : i < l.length
  · have h1 : (l.take (i + 1)).length = i + 1 := by simp; omega
    have h2 := nv_top h1
    rw [List.take_take, Nat.min_eq_left (by omega)] at h2
    rw [h2]
    simp [List.getD_eq_getElem?_getD]
  · rw [List.take_of_length_le (by omega), List.take_of_length_le (by omega), getD_over (by omega)]; simp
theorem nv_take_drop (l : List Nat) {i : Nat} (h : i ≤ l.length) : nv l = nv (l.take i) + BB ^ i * nv (l.drop i) := by
  conv => lhs; rw [← List.take_append_drop i l]
  rw [nv_append, List.length_take, Nat.min_eq_left h]
theorem nv_drop_ext {a b : List Nat} {i : Nat} (h : ∀ j, i ≤ j → a.getD j 0 = b.getD j 0) : nv (a.drop i) = nv (b.drop i) := by
  apply nv_ext
  intro j
  have := h (i + j) (by omega)
  simpa [List.getD_eq_getElem?_getD] using this
theorem take_set (L : List Nat) (i x : Nat) : (L.set i x).take i = L.take i := by
  rw [List.take_set]; apply List.set_eq_of_length_le; simp; omega
theorem getD_set_same {L : List Nat} {i x : Nat} (h : i < L.length) : (L.set i x).getD i 0 = x := by
  simp [List.getD_eq_getElem?_getD, h]
theorem getD_set_ne {L : List Nat} {i j x : Nat} (h : i ≠ j) : (L.set i x).getD j 0 = L.getD j 0 := by
  simp [List.getD_eq_getElem?_getD, h]
/-- the lowest i limbs are added -/
structure AddInv (S T L : List Nat) (i c : Nat) : Prop where
  carry : c < 2
  rest : ∀ j, i ≤ j → L.getD j 0 = S.getD j 0
  sum : nv (L.take i) + BB ^ i * c = nv (S.take i) + nv (T.take i)
theorem AddInv.start (S T : List Nat) : AddInv S T S 0 0 := ⟨by omega, fun _ _ => rfl, by simp [nv]⟩
theorem mod_div_sum (p v : Nat) : p * (v % BB) + p * BB * (v / BB) = p * v := by
  rw [Nat.mul_assoc, ← Nat.mul_add, Nat.mod_add_div]
theorem AddInv.step {S T L : List Nat} {i c s t : Nat} (h : AddInv S T L i c) (hi : i < L.length) (hs : S.getD i 0 = s) (ht : T.getD i 0 = t) (hS : s < BB) (hT : t < BB) :
    AddInv S T (L.set i ((c + (s + t)) % BB)) (i + 1) ((c + (s + t)) / BB) := by
  have hc := h.carry
  refine ⟨?_, fun j hj => ?_, ?_⟩
  · rw [Nat.div_lt_iff_lt_mul BB_pos]; omega
  · rw [getD_set_ne (by omega)]; exact h.rest j (by omega)
  · rw [nv_take_succ, take_set, getD_set_same hi, nv_take_succ S, nv_take_succ T, hs, ht, Nat.pow_succ]
    have h1 := mod_div_sum (BB ^ i) (c + (s + t))
    have h2 := h.sum
    rw [Nat.mul_add, Nat.mul_add] at h1
    omega
theorem AddInv.done {S T L : List Nat} {i c n : Nat} (h : AddInv S T L i c) (hL : L.length = n) (hS : S.length = n) (hl : Lim L) (hT : T.length ≤ i) (hi : i ≤ n) (hz : c = 0 ∨ i = n) :
    nv L = (nv S + nv T) % BB ^ n := by
  have h2 := h.sum
  rw [List.take_of_length_le hT] at h2
  have hlt := nv_lt hl
  rw [hL] at hlt
  have key : nv L + BB ^ n * c = nv S + nv T := by
    rcases hz with rfl | rfl
    · rw [nv_take_drop L (i := i) (by omega), nv_take_drop S (i := i) (by omega), nv_drop_ext h.rest]; omega
    · rw [List.take_of_length_le (by omega), List.take_of_length_le (by omega)] at h2; exact h2
  rw [← key, Nat.add_mul_mod_self_left, Nat.mod_eq_of_lt hlt]
theorem Win.set' {w : World} {b off n : Nat} {L : List Nat} (h : Win w b off n L) {i : Nat} (hi : i < n) {x : Nat} (hx : x < BB) {X : Int} (hX : X = x) : Win (w.setCell ⟨b, off + i, none⟩ (.int .u32 X)) b off n (L.set i x) := by
  subst hX; exact h.set hi hx
/-- what adding or subtracting in place leaves -/
def IPost (b off n N : Nat) (w : World) (e : Ending) (w' : World) : Prop := e = Ending.returned (.tuple #[]) ∧ ∃ L, Win w' b off n L ∧ nv L = N ∧ Only b off (off + n) w w'
set_option maxHeartbeats 800000 in
theorem addInto_c (b off n cap : Nat) (S : List Nat) (a' : Option Addr) (len' cap' : Nat) (T : List Nat) (w : World) (h : Win w b off n S) (hcap : n ≤ cap) (hcm : cap ≤ 9223372036854775807)
    (h' : Rd w a' len' cap' T) (hf : Far a' len' b) (hle : len' ≤ n) :
    Calls Tryd.prog 46 #[.slice (some ⟨b, off, none⟩) n cap, .slice a' len' cap'] w (IPost b off n ((nv S + nv T) % BB ^ n) w) := by
  have HW := Lib.hid h
  have HF := Lib.hid hf
  have HR := Lib.hid h'
  have HS := Lib.hid h.len_eq
  have HT := Lib.hid h'.len_eq
  have hlc' := h'.le_cap
  have hcm' := h'.cap_le
  clear h h' hf
  go_enter Tryd.func46, Tryd.ntmps46
  go_wp2
  go_loopw [10, 4] (fun i s wr => ∃ (k c : Nat) (L : List Nat), k ≤ len' ∧ i = .int .i64 k ∧ s = .int .u64 c ∧ c < 2 ∧ Hid (AddInv S T L k c) ∧ Hid (Win wr b off n L) ∧ Hid (Only b off (off + n) w wr)) (fun i _ _ => len' - (intOf i).toNat)
  case atStart => exact ⟨0, 0, S, by omega, rfl, rfl, by omega, Lib.hid (AddInv.start S T), HW, Lib.hid (Only.refl _ _ _ _)⟩
  case round =>
    obtain ⟨k, c, L, hk, rfl, rfl, hc, hinv, hwin, honly⟩ := hrel
    by_cases hlt : k < len'
    · obtain ⟨s, hs⟩ : ∃ s, S.getD k 0 = s := ⟨_, rfl⟩
      obtain ⟨t, ht⟩ : ∃ t, T.getD k 0 = t := ⟨_, rfl⟩
      have hsl : s < BB := by rw [← hs]; exact HW.out.lim.at k
      have htl : t < BB := by rw [← ht]; exact HR.out.lim.at k
      have hst := Lib.hid (hinv.out.step (by rw [hwin.out.len_eq]; omega) hs ht hsl htl)
      have c1 := hwin.out.cell k (by omega)
      rw [hinv.out.rest k (Nat.le_refl _), hs] at c1
      have f1 := hwin.out.free k (by omega)
      have hr2 := HR.out.only honly.out HF.out
      rcases hr2.cells with h0 | ⟨b', off', e, h0⟩
      · omega
      have c2 := h0 k hlt
      rw [ht] at c2
      have hwin2 := Lib.hid (hwin.out.set' (i := k) (by omega) (x := (c + (s + t)) % BB) (Nat.mod_lt _ BB_pos) (X := (↑c + (↑s + ↑t)) % 4294967296) (by simp [BB_eq]))
      have honly2 := Lib.hid (honly.out.set (j := off + k) (by omega) (by omega) (.int .u32 ((↑c + (↑s + ↑t)) % 4294967296)))
      rw [BB_eq] at hsl htl
      have hdiv : ((c + (s + t)) / BB : Nat) = (c + (s + t)) / 4294967296 := by rw [BB_eq]
      rw [hdiv] at hst
      clear hs ht hr2 h0 hdiv
      subst e
      go_wp2
      go_roundw
      case rel => exact ⟨k + 1, (c + (s + t)) / 4294967296, _, by omega, by go_num, by go_num, by omega, hst, hwin2, honly2⟩
      case measure => simp [intOf]; omega
    · have hkl : k = len' := by omega
      subst hkl
      go_wp2
      obtain ⟨wo, rfl⟩ : ∃ wo : World, wo = wr := ⟨_, rfl⟩
      go_loopw [7, 4] (fun i s wr => ∃ (j d : Nat) (M : List Nat), j ≤ n ∧ k ≤ j ∧ i = .int .i64 j ∧ s = .int .u64 d ∧ d < 2 ∧ Hid (AddInv S T M j d) ∧ Hid (Win wr b off n M) ∧ Hid (Only b off (off + n) w wr)) (fun i _ _ => n - (intOf i).toNat)
      case atStart => exact ⟨k, c, L, by omega, by omega, rfl, rfl, hc, hinv, hwin, honly⟩
      case round =>
        obtain ⟨j, d, M, hj, hkj, rfl, rfl, hd, hinv, hwin, honly⟩ := hrel
        by_cases hd0 : d = 0
        · subst hd0
          have hfin := Lib.hid (hinv.out.done hwin.out.len_eq HS.out hwin.out.lim (by rw [HT.out]; exact hkj) hj (.inl rfl))
          go_wp2
          refine bodyPost_ret (results_none rfl _ _ _) rfl ?_
          exact ⟨rfl, M, hwin.out, hfin.out, honly.out⟩
        · have hne : ((d : Int) != 0) = true := by rw [bne_iff_ne]; omega
          by_cases hjn : j < n
          · obtain ⟨s, hs⟩ : ∃ s, S.getD j 0 = s := ⟨_, rfl⟩
            have hsl : s < BB := by rw [← hs]; exact HW.out.lim.at j
            have hst := Lib.hid (hinv.out.step (by rw [hwin.out.len_eq]; omega) hs (getD_over (by rw [HT.out]; omega)) hsl BB_pos)
            have c1 := hwin.out.cell j (by omega)
            rw [hinv.out.rest j (Nat.le_refl _), hs] at c1
            have f1 := hwin.out.free j (by omega)
            have hwin2 := Lib.hid (hwin.out.set' (i := j) (by omega) (x := (d + (s + 0)) % BB) (Nat.mod_lt _ BB_pos) (X := (↑d + ↑s) % 4294967296) (by simp [BB_eq]))
            have honly2 := Lib.hid (honly.out.set (j := off + j) (by omega) (by omega) (.int .u32 ((↑d + ↑s) % 4294967296)))
            rw [BB_eq] at hsl
            have hdiv : ((d + (s + 0)) / BB : Nat) = (d + s) / 4294967296 := by rw [BB_eq, Nat.add_zero]
            rw [hdiv] at hst
            clear hs hdiv
            go_wp2
            go_roundw
            case rel => exact ⟨j + 1, (d + s) / 4294967296, _, by omega, by omega, by go_num, by go_num, by omega, hst, hwin2, honly2⟩
            case measure => simp [intOf]; omega
          · have hjn : j = n := by omega
            have hfin := Lib.hid (hinv.out.done hwin.out.len_eq HS.out hwin.out.lim (by rw [HT.out]; exact hkj) hj (.inr hjn))
            subst hjn
            go_wp2
            refine bodyPost_ret (results_none rfl _ _ _) rfl ?_
            exact ⟨rfl, M, hwin.out, hfin.out, honly.out⟩
end Go.Proofs.YtgoiechhhnhgaaaDoor
