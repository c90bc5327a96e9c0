/- Walks of layer 1: mulSub. -/
import Derived.Test.YtgoiechhhnhgaaaDoorD2
namespace Go.Proofs.YtgoiechhhnhgaaaDoor
open Go.RowKit
set_option linter.unusedVariables false
/-- the lowest i limbs of a multiple are subtracted -/
structure MsInv (S T L : List Nat) (g i c o : Nat) : Prop where
  carry : c < BB
  borrow : o < 2
  rest : ∀ j, i ≤ j → L.getD j 0 = S.getD j 0
  sum : nv (S.take i) + BB ^ i * (o + c) = nv (L.take i) + g * nv (T.take i)
theorem MsInv.start (S T : List Nat) (g : Nat) : MsInv S T S g 0 0 0 := ⟨BB_pos, by omega, fun _ _ => rfl, by simp [nv]⟩
theorem ms_bound {g t c : Nat} (hg : g < BB) (ht : t < BB) (hc : c < BB) : c + g * t < BB * BB := by
  have h1 : g * t ≤ (BB - 1) * t := Nat.mul_le_mul_right _ (by omega)
  have h2 : (BB - 1) * t ≤ (BB - 1) * (BB - 1) := Nat.mul_le_mul_left _ (by omega)
  rw [BB_eq] at *
  omega
theorem MsInv.step {S T L : List Nat} {g i c o s t v D B : Nat} (h : MsInv S T L g i c o) (hi : i < L.length) (hs : S.getD i 0 = s) (ht : T.getD i 0 = t) (hS : s < BB) (hT : t < BB) (hg : g < BB)
    (hv : c + g * t = v) (hD : sbD s (v % BB) o = D) (hB : sbB s (v % BB) o = B) : MsInv S T (L.set i D) g (i + 1) (v / BB) B := by
  have h1 := sb_eq hS (Nat.mod_lt v BB_pos) h.borrow
  have hb := sbB_lt s (v % BB) o
  rw [hD, hB] at h1
  rw [hB] at hb
  have hv2 : v < BB * BB := by rw [← hv]; exact ms_bound hg hT h.carry
  have hvm := Nat.mod_add_div v BB
  refine ⟨by rw [Nat.div_lt_iff_lt_mul BB_pos]; exact hv2, hb, fun j hj => ?_, ?_⟩
  · rw [getD_set_ne (by omega)]; exact h.rest j (by omega)
  · rw [nv_take_succ (L.set _ _), take_set, getD_set_same hi, nv_take_succ S, nv_take_succ T, hs, ht, Nat.pow_succ]
    have h2 := h.sum
    generalize v % BB = lo at *
    generalize v / BB = hi' at *
    have h3 : BB ^ i * (s + BB * (B + hi')) = BB ^ i * (D + (c + g * t) + o) := by
      rw [hv, ← hvm, Nat.mul_add BB]
      congr 1
      omega
    rw [Nat.mul_add (BB ^ i), Nat.mul_add (BB ^ i), Nat.mul_add (BB ^ i), Nat.mul_add (BB ^ i)] at h3
    rw [Nat.mul_add (BB ^ i)] at h2
    rw [Nat.mul_assoc (BB ^ i), Nat.mul_add g, Nat.mul_left_comm g]
    omega
theorem MsInv.done {S T L : List Nat} {g n c o s D B : Nat} (h : MsInv S T L g n c o) (hL : L.length = n + 1) (hSl : S.length = n + 1) (hT : T.length = n) (hs : S.getD n 0 = s) (hS : s < BB)
    (hD : sbD s c o = D) (hB : sbB s c o = B) : nv S + BB ^ (n + 1) * B = nv (L.set n D) + g * nv T := by
  have h1 := sb_eq hS h.carry h.borrow
  rw [hD, hB] at h1
  have h2 := h.sum
  rw [List.take_of_length_le (by omega : T.length ≤ n)] at h2
  have e1 : nv S = nv (S.take n) + BB ^ n * s := by rw [← hs, ← nv_take_succ, List.take_of_length_le (by omega)]
  have e2 : nv (L.set n D) = nv (L.take n) + BB ^ n * D := by
    have := nv_take_succ (L.set n D) n
    rw [take_set, getD_set_same (by omega), List.take_of_length_le (by rw [List.length_set]; omega)] at this
    exact this
  rw [e1, e2, Nat.pow_succ, Nat.mul_assoc]
  have h3 : BB ^ n * (D + c + o) = BB ^ n * (s + BB * B) := by rw [h1]
  rw [Nat.mul_add (BB ^ n), Nat.mul_add (BB ^ n), Nat.mul_add (BB ^ n)] at h3
  rw [Nat.mul_add (BB ^ n)] at h2
  omega
/-- what mulSub leaves -/
def MsPost (b off n : Nat) (S : List Nat) (G : Nat) (w : World) (e : Ending) (w' : World) : Prop :=
  ∃ (L : List Nat) (o : Nat), o < 2 ∧ e = Ending.returned (.bool ((o : Int) != 0)) ∧ Win w' b off (n + 1) L ∧ nv S + BB ^ (n + 1) * o = nv L + G ∧ Only b off (off + (n + 1)) w w'
set_option maxHeartbeats 800000 in
theorem mulSub_c (b off n cap : Nat) (S : List Nat) (a' : Option Addr) (cap' : Nat) (T : List Nat) (g : Nat) (w : World) (h : Win w b off (n + 1) S) (hcap : n + 1 ≤ cap) (hcm : cap ≤ 9223372036854775807)
    (h' : Rd w a' n cap' T) (hf : Far a' n b) (hg : g < 4294967296) :
    Calls Tryd.prog 66 #[.slice (some ⟨b, off, none⟩) (n + 1) cap, .slice a' n cap', .int .u64 g] w (MsPost b off n S (g * nv T) w) := by
  have HW := Lib.hid h
  have HF := Lib.hid hf
  have HR := Lib.hid h'
  have HS := Lib.hid h.len_eq
  have HT := Lib.hid h'.len_eq
  have hlc' := h'.le_cap
  have hcm' := h'.cap_le
  clear h h' hf
  go_enter Tryd.func66, Tryd.ntmps66
  go_wp2
  go_loopw [14, 7, 8] (fun i s z wr => ∃ (k c o : Nat) (L : List Nat), k ≤ n ∧ i = .int .i64 k ∧ s = .int .u64 c ∧ z = .int .u32 o ∧ c < 4294967296 ∧ o < 2 ∧ Hid (MsInv S T L g k c o) ∧ Hid (Win wr b off (n + 1) L) ∧ Hid (Only b off (off + (n + 1)) w wr)) (fun i _ _ _ => n - (intOf i).toNat)
  case atStart => exact ⟨0, 0, 0, S, by omega, rfl, rfl, rfl, by omega, by omega, Lib.hid (MsInv.start S T g), HW, Lib.hid (Only.refl _ _ _ _)⟩
  case round =>
    obtain ⟨k, c, o, L, hk, rfl, rfl, rfl, hc, ho, hinv, hwin, honly⟩ := hrel
    by_cases hlt : k < n
    · obtain ⟨s, hs⟩ : ∃ s, S.getD k 0 = s := ⟨_, rfl⟩
      obtain ⟨t, ht⟩ : ∃ t, T.getD k 0 = t := ⟨_, rfl⟩
      have hsl : s < BB := by rw [← hs]; exact HW.out.lim.at k
      have htl : t < BB := by rw [← ht]; exact HR.out.lim.at k
      obtain ⟨p, hp⟩ : ∃ p, g * t = p := ⟨_, rfl⟩
      obtain ⟨v, hv⟩ : ∃ v, c + p = v := ⟨_, rfl⟩
      have hvb : v < 18446744073709551616 := by rw [← hv, ← hp]; exact ms_bound hg htl hc
      have hpb : p < 18446744073709551616 := by omega
      have hpi : ((g : Int) * t) = (p : Nat) := by rw [← hp]; push_cast; rfl
      obtain ⟨D, hD⟩ : ∃ D, sbD s (v % BB) o = D := ⟨_, rfl⟩
      obtain ⟨B, hB⟩ : ∃ B, sbB s (v % BB) o = B := ⟨_, rfl⟩
      have hst := Lib.hid (hinv.out.step (by rw [hwin.out.len_eq]; omega) hs ht hsl htl hg (by rw [hp, hv]) hD hB)
      have c1 := hwin.out.cell k (by omega)
      rw [hinv.out.rest k (Nat.le_refl _), hs] at c1
      have f1 := hwin.out.free k (by omega)
      have hr2 := HR.out.only honly.out HF.out
      rcases hr2.cells with h0 | ⟨b', off', e, h0⟩
      · omega
      have c2 := h0 k hlt
      rw [ht] at c2
      have hDl : D < BB := by rw [← hD]; exact sbD_lt _ _ _
      have hBl : B < 2 := by rw [← hB]; exact sbB_lt _ _ _
      have SB0 := sub32_c s (v % BB) o wr hsl (Nat.mod_lt _ (by decide)) ho
      rw [hD, hB, show ((v % BB : Nat) : Int) = (v : Int) % 4294967296 from by rw [BB_eq]; omega] at SB0
      have SB := Lib.hid SB0
      have hwin2 := Lib.hid (hwin.out.set (i := k) (by omega) (x := D) hDl)
      have honly2 := Lib.hid (honly.out.set (j := off + k) (by omega) (by omega) (.int .u32 ↑D))
      have hvi : ((c : Int) + (p : Nat)) = (v : Nat) := by rw [← hv]; push_cast; rfl
      have hcd : v / BB = v / 4294967296 := by rw [BB_eq]
      rw [hcd] at hst
      have hwp : IntKind.u64.wrap ((g : Int) * t) = (p : Nat) := by rw [hpi]; simp [IntKind.wrap, IntKind.bits, IntKind.signed]; omega
      rw [BB_eq] at hsl htl
      clear hs ht hr2 h0 hD hB SB0 hcd hp hv hpi
      subst e
      go_wp2_with (go_at_call 56; refine SB.out.mono ?_; rintro e w' ⟨rfl, rfl⟩)
      go_roundw
      case rel => exact ⟨k + 1, v / 4294967296, B, _, by omega, by go_num, by go_num, rfl, by omega, hBl, hst, hwin2, honly2⟩
      case measure => simp [intOf]; omega
    · obtain ⟨s, hs⟩ : ∃ s, S.getD k 0 = s := ⟨_, rfl⟩
      have hkl : k = n := by omega
      subst hkl
      have hsl : s < BB := by rw [← hs]; exact HW.out.lim.at k
      obtain ⟨D, hD⟩ : ∃ D, sbD s c o = D := ⟨_, rfl⟩
      obtain ⟨B, hB⟩ : ∃ B, sbB s c o = B := ⟨_, rfl⟩
      have hfin := Lib.hid (hinv.out.done hwin.out.len_eq HS.out HT.out hs hsl hD hB)
      have c1 := hwin.out.cell k (by omega)
      rw [hinv.out.rest k (Nat.le_refl _), hs] at c1
      have f1 := hwin.out.free k (by omega)
      have hDl : D < BB := by rw [← hD]; exact sbD_lt _ _ _
      have hBl : B < 2 := by rw [← hB]; exact sbB_lt _ _ _
      have SB0 := sub32_c s c o wr hsl hc ho
      rw [hD, hB] at SB0
      have SB := Lib.hid SB0
      have hwin2 := Lib.hid (hwin.out.set (i := k) (by omega) (x := D) hDl)
      have honly2 := Lib.hid (honly.out.set (j := off + k) (by omega) (by omega) (.int .u32 ↑D))
      clear hs hD hB SB0
      go_wp2_with (go_at_call 56; refine SB.out.mono ?_; rintro e w' ⟨rfl, rfl⟩)
      go_ret
      exact ⟨_, B, hBl, rfl, hwin2.out, hfin.out, honly2.out⟩
end Go.Proofs.YtgoiechhhnhgaaaDoor
