/- Walks of layer 1: the reference's Mul. -/
import Derived.Test.YtgoiechhhnhgaaaDoorI2
namespace Go.Proofs.YtgoiechhhnhgaaaDoor
open Go.RowKit
set_option linter.unusedVariables false
theorem limb_q (a : Option Addr) (len cap : Nat) (l : List Nat) (i d : Nat) (w : World) (h : Rd w a len cap l) (hd : l.getD i 0 = d) (n : Nat) :
    Calls Tryd.prog 45 #[.slice a len cap, .int .i64 i] (w.drewN n) fun e w' => e = .returned (.int .u32 (d : Nat)) ∧ w' = w.drewN n := by
  subst hd
  exact (limb_c a len cap l i _ (h.drewN n)).mono fun _ _ ⟨h1, h2⟩ => ⟨h1, h2.symm⟩
theorem wr64 {x : Nat} (h : x < 18446744073709551616) : IntKind.u64.wrap (x : Int) = x := by simp [IntKind.wrap, IntKind.bits, IntKind.signed]; omega
theorem Win.set0 {w : World} {b n : Nat} {L : List Nat} (h : Win w b 0 n L) {i : Nat} (hi : i < n) {x : Nat} (hx : x < BB) {X : Int} (hX : X = x) : Win (w.setCell ⟨b, i, none⟩ (.int .u32 X)) b 0 n (L.set i x) := by
  have := h.set' hi hx hX
  rwa [Nat.zero_add] at this
theorem NPost.ofCn {n : Nat} {w w' : World} {u : Value} (h : Cn w' u n) (hb : Below w.heap.size w w') : NPost n w (.returned u) w' := by
  obtain ⟨a, len, cap, rfl, hr⟩ := h
  have := hr.len_eq
  subst this
  exact ⟨a, cap, rfl, hr, hb⟩
set_option maxHeartbeats 1600000 in
theorem rmul_c (a a' : Option Addr) (la ca lb cb : Nat) (x y : List Nat) (w : World) (h : Rd w a la ca x) (h' : Rd w a' lb cb y) (hb : la + lb ≤ 1048575) :
    Calls Tryd.prog 33 #[.slice a la ca, .slice a' lb cb] w (NPost (nv x * nv y) w) := by
  have H := Lib.hid h
  have H' := Lib.hid h'
  have LX := Lib.hid h.len_eq
  have LY := Lib.hid h'.len_eq
  have q1 := h.le_cap
  have q2 := h.cap_le
  have q3 := h'.le_cap
  have q4 := h'.cap_le
  clear h h'
  go_enter Tryd.func33, Tryd.ntmps33
  go_wp2_with (at_make; refine wpList_make_win _ rfl _ _ 22 rfl Tryd.underlying22 _ (la + lb + 1) rfl rfl (by push_cast; rfl) (by omega) ?_)
  intro w1 hwin1 hb1 hs1
  have HX1 := Lib.hid (H.out.below hb1)
  have HY1 := Lib.hid (H'.out.below hb1)
  have FX := Lib.hid (H.out.far (Nat.le_refl _))
  have FY := Lib.hid (H'.out.far (Nat.le_refl _))
  go_wp2
  go_loopw [6] (fun i wr => ∃ (k : Nat) (L : List Nat), k ≤ la ∧ i = .int .i64 k ∧ Hid (MulOut y x L k) ∧ Hid (Win wr w.heap.size 0 (la + lb + 1) L) ∧ Hid (Only w.heap.size 0 (0 + (la + lb + 1)) w1 wr)) (fun i _ => la - (intOf i).toNat)
  case atStart => exact ⟨0, _, by omega, rfl, Lib.hid (MulOut.start y x _), hwin1, Lib.hid (Only.refl _ _ _ _)⟩
  case round =>
    obtain ⟨k, L, hk, rfl, hout, hwin, honly⟩ := hrel
    by_cases hlt : k < la
    · obtain ⟨v, hv⟩ : ∃ v, x.getD k 0 = v := ⟨_, rfl⟩
      have hvl : v < 4294967296 := by rw [← hv]; exact H.out.lim.at k
      have HV := Lib.hid hv
      have hcx : Hid (∀ wx, Only w.heap.size 0 (0 + (la + lb + 1)) w1 wx → ∃ b off, a = some ⟨b, off, none⟩ ∧ wx.cell? ⟨b, off + k, none⟩ = some (.int .u32 (v : Int))) := Lib.hid (by
        intro wx hox
        rcases (HX1.out.only hox FX.out).cells with h1 | ⟨b', off', e, h1⟩
        · omega
        · refine ⟨b', off', e, ?_⟩
          rw [h1 k hlt, hv])
      clear hv
      go_wp2
      obtain ⟨wo, rfl⟩ : ∃ wo : World, wo = wr := ⟨_, rfl⟩
      go_loopw [7, 8] (fun s i wr => ∃ (j c : Nat) (M : List Nat), j ≤ lb + 1 ∧ i = .int .i64 j ∧ s = .int .u64 c ∧ c < 4294967296 ∧ Hid (MulIn L y M v k j c) ∧ Hid (j = lb + 1 → c = 0) ∧ Hid (Win wr w.heap.size 0 (la + lb + 1) M) ∧ Hid (Only w.heap.size 0 (0 + (la + lb + 1)) w1 wr)) (fun _ i _ => lb + 1 - (intOf i).toNat)
      case atStart => exact ⟨0, 0, L, by omega, rfl, rfl, by omega, Lib.hid (MulIn.start L y v k), Lib.hid (fun h => by omega), hwin, honly⟩
      case round =>
        obtain ⟨j, c, M, hj, rfl, rfl, hc, hin, hcz, hwm, hom⟩ := hrel
        by_cases hja : j ≤ lb
        · obtain ⟨t, ht⟩ : ∃ t, y.getD j 0 = t := ⟨_, rfl⟩
          obtain ⟨p, hp⟩ : ∃ p, L.getD (k + j) 0 = p := ⟨_, rfl⟩
          have htl : t < BB := by rw [← ht]; exact H'.out.lim.at j
          have hpl : p < BB := by rw [← hp]; exact hwin.out.lim.at _
          obtain ⟨m, hm⟩ : ∃ m, v * t = m := ⟨_, rfl⟩
          have hm' : t * v = m := by rw [Nat.mul_comm]; exact hm
          obtain ⟨q, hq⟩ : ∃ q, m + p = q := ⟨_, rfl⟩
          obtain ⟨u, hu⟩ : ∃ u, c + q = u := ⟨_, rfl⟩
          have hub : u < 18446744073709551616 := by rw [← hu, ← hq, ← hm']; exact mul_bound htl hvl hpl hc
          have hst0 := hin.out.step (v := u) (by rw [hwm.out.len_eq]; omega) ht hp htl hvl hpl (by rw [hm', hq]; exact hu)
          have hcz2 : Hid (j + 1 = lb + 1 → u / 4294967296 = 0) := Lib.hid (by
            intro e
            have h1 : t = 0 := by rw [← ht]; exact getD_over (by rw [LY.out]; omega)
            have h2 : p = 0 := by rw [← hp]; exact hout.out.zero _ (by rw [LY.out]; omega)
            have h3 : u = c := by rw [← hu, ← hq, ← hm, h1, h2]; omega
            rw [h3]; omega)
          have c1 := hwm.out.cell (k + j) (by omega)
          rw [hin.out.same _ (Nat.le_refl _), hp] at c1
          have f1 := hwm.out.free (k + j) (by omega)
          obtain ⟨b3, off3, e, c3⟩ := hcx.out wr hom.out
          subst e
          have LQ := Lib.hid (limb_q _ _ _ _ j t wr (HY1.out.only hom.out FY.out) ht)
          have hwin2 := Lib.hid (fun n => (hwm.out.dr (w' := wr.drewN n) ⟨n, rfl⟩).set0 (i := k + j) (by omega) (x := u % BB) (Nat.mod_lt _ BB_pos) (X := (u : Int) % 4294967296) (by simp [BB_eq]))
          have honly2 := Lib.hid (fun n => (hom.out.drewN n).set (j := k + j) (by omega) (by omega) (.int .u32 ((u : Int) % 4294967296)))
          rw [show u / BB = u / 4294967296 from by rw [BB_eq]] at hst0
          have hst := Lib.hid hst0
          have e1 := wr64 (x := v) (by omega)
          rw [BB_eq] at htl hpl
          have e2 := wr64 (x := t) (by omega)
          have e3 := wr64 (x := p) (by omega)
          have e4 : IntKind.u64.wrap ((v : Int) * t) = (m : Nat) := by
            rw [show ((v : Int) * t) = (m : Nat) from by rw [← hm]; push_cast; rfl]
            exact wr64 (by omega)
          have e5 : IntKind.u64.wrap ((m : Int) + p) = (q : Nat) := by
            rw [show ((m : Int) + p) = (q : Nat) from by rw [← hq]; push_cast; rfl]
            exact wr64 (by omega)
          have e6 : IntKind.u64.wrap ((c : Int) + q) = (u : Nat) := by
            rw [show ((c : Int) + q) = (u : Nat) from by rw [← hu]; push_cast; rfl]
            exact wr64 (by omega)
          have i0 : (0 : Int) ≤ (k : Int) + j := by omega
          have i1 : ((k : Int) + j).toNat = k + j := by omega
          have i2 : IntKind.i64.wrap ((k : Int) + j) = (k : Int) + j := IntWalk.i64_in _ (by omega)
          rw [Nat.zero_add] at c1 f1
          clear ht hp hm hm' hq hu hst0
          go_wp2
          go_quiet ((go_at_call 45; exact Calls.quiet_of_same (LQ.out _)))
          clear e1 e2 e3 e4 e5 e6 i0 i1 i2
          go_wp2
          go_roundw
          case rel => exact ⟨j + 1, u / 4294967296, _, by omega, by go_num, by go_num, by omega, hst, hcz2, Lib.hid (hwin2.out _), Lib.hid (honly2.out _)⟩
          case measure => simp [intOf]; omega
        · have hjn : j = lb + 1 := by omega
          subst hjn
          have hc0 := hcz.out rfl
          subst hc0
          have hst := Lib.hid (hout.out.nextR hin.out LY.out HV.out)
          go_wp2
          go_roundw
          case rel => exact ⟨k + 1, _, by omega, by go_num, hst, hwm, hom⟩
          case measure => simp [intOf]; omega
    · have hkl : k = la := by omega
      subst hkl
      have hfin := hout.out.done (by rw [LX.out]; exact Nat.le_refl _)
      rw [Nat.mul_comm] at hfin
      have HF := Lib.hid hfin
      have hb3 := hb1.trans (honly.out.below (Nat.le_refl _))
      clear hfin
      go_wp2_with fail
      refine Calls.mono (rmake_c _ _ (k + lb + 1) _ _ (hwin.out.rd (Nat.le_refl _) (by omega)) (by omega)) ?_
      rw [HF.out]
      rintro e w4 hp
      obtain ⟨u, rfl, hu, hk⟩ := hp.cn
      have HU := Lib.hid hu
      have hb4 := hb3.trans (hk.mono hb3.size)
      clear hp hu
      go_wp2_with fail
      go_ret
      exact NPost.ofCn HU.out hb4
end Go.Proofs.YtgoiechhhnhgaaaDoor
