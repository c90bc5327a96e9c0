/- Walks of layer 1: mulInto, Mul. -/
import Derived.Test.YtgoiechhhnhgaaaDoorI1
import Derived.Test.YtgoiechhhnhgaaaDoorH2
namespace Go.Proofs.YtgoiechhhnhgaaaDoor
open Go.RowKit
set_option linter.unusedVariables false
set_option maxHeartbeats 400000 in
theorem mulInto_c (b off la lb n cap : Nat) (P : List Nat) (a : Option Addr) (ca : Nat) (x : List Nat) (a' : Option Addr) (cb : Nat) (y : List Nat) (w : World) (h : Win w b off n P) (hn : n = la + lb) (hcap : n ≤ cap) (hcm : cap ≤ 9223372036854775807)
    (hx : Rd w a la ca x) (hy : Rd w a' lb cb y) (fx : Far a la b) (fy : Far a' lb b) (h0 : P = zer n) (hs : la < 48 ∨ lb < 48) :
    Calls Tryd.prog 48 #[.slice (some ⟨b, off, none⟩) n cap, .slice a la ca, .slice a' lb cb] w (IPost b off n (nv x * nv y) w) := by
  subst h0
  have qa := hx.le_cap
  have qb := hx.cap_le
  have qc := hy.le_cap
  have qd := hy.cap_le
  by_cases hlt : la < lb
  · have C := mulSimple_c b off lb la cap (zer n) a' cb y a ca x w (by rw [Nat.add_comm, ← hn]; exact h) (by omega) hcm hy hx fy fx (MulOut.start y x n)
    rw [Nat.add_comm lb, ← hn, Nat.mul_comm (nv y)] at C
    have HC := Lib.hid C
    have h48 : la < 48 := by omega
    clear C h hx hy fx fy hs hn
    go_enter Tryd.func48, Tryd.ntmps48
    go_wp2_with fail
    refine Calls.mono HC.out ?_
    rintro e w1 ⟨rfl, hp⟩
    go_wp2_with fail
    refine bodyPost_ret (results_none rfl _ _ _) rfl ?_
    exact ⟨rfl, hp⟩
  · have C := mulSimple_c b off la lb cap (zer n) a ca x a' cb y w (by rw [← hn]; exact h) (by omega) hcm hx hy fx fy (MulOut.start x y n)
    rw [← hn] at C
    have HC := Lib.hid C
    have h48 : lb < 48 := by omega
    clear C h hx hy fx fy hs hn
    go_enter Tryd.func48, Tryd.ntmps48
    go_wp2_with fail
    refine Calls.mono HC.out ?_
    rintro e w1 ⟨rfl, hp⟩
    go_wp2_with fail
    refine bodyPost_ret (results_none rfl _ _ _) rfl ?_
    exact ⟨rfl, hp⟩
theorem mul_zero_c (a a' : Option Addr) (len cap len' cap' : Nat) (l t : List Nat) (w : World) (h : Rd w a len cap l) (h' : Rd w a' len' cap' t) (h0 : nv l = 0 ∨ nv t = 0) :
    Calls Tryd.prog 32 #[.slice a len cap, .slice a' len' cap'] w (NPost 0 w) := by
  have H := Lib.hid h
  have H' := Lib.hid h'
  obtain ⟨x, n, hx⟩ := Tm.mk' l
  obtain ⟨y, m, hy⟩ := Tm.mk' t
  have HX := Lib.hid hx.lend
  have HY := Lib.hid hy.lend
  have hz : Hid ((dig 0).length = 0) := Lib.hid (by rw [dig_zero]; rfl)
  have hz2 : Hid (dig 0 = []) := Lib.hid dig_zero
  have hnm : n = 0 ∨ m = 0 := by
    rcases h0 with e | e
    · left; rw [← hx.lend, e, dig_zero]; rfl
    · right; rw [← hy.lend, e, dig_zero]; rfl
  clear h h' hx hy h0
  by_cases hn0 : n = 0
  · subst hn0
    clear hnm
    go_enter Tryd.func32, Tryd.ntmps32
    go_wp2_with fail
    refine Calls.mono (trim_c _ _ _ l _ H.out) ?_
    rw [HX.out]
    rintro e w' ⟨rfl, rfl⟩
    go_wp2_with fail
    refine Calls.mono (trim_c _ _ _ t _ H'.out) ?_
    rw [HY.out]
    rintro e w' ⟨rfl, rfl⟩
    go_wp2_with fail
    go_ret
    unfold NPost
    rw [hz.out, hz2.out]
    exact ⟨none, 0, rfl, Rd.nil _, Below.refl _ _⟩
  · have hm0 : m = 0 := by omega
    subst hm0
    have hnB : ((n : Int) == 0) = false := by simp; omega
    clear hnm
    go_enter Tryd.func32, Tryd.ntmps32
    go_wp2_with fail
    refine Calls.mono (trim_c _ _ _ l _ H.out) ?_
    rw [HX.out]
    rintro e w' ⟨rfl, rfl⟩
    go_wp2_with fail
    refine Calls.mono (trim_c _ _ _ t _ H'.out) ?_
    rw [HY.out]
    rintro e w' ⟨rfl, rfl⟩
    go_wp2_with fail
    go_ret
    unfold NPost
    rw [hz.out, hz2.out]
    exact ⟨none, 0, rfl, Rd.nil _, Below.refl _ _⟩
set_option maxHeartbeats 800000 in
theorem mul_one_c (a a' : Option Addr) (len cap len' cap' : Nat) (l t : List Nat) (w : World) (h : Rd w a len cap l) (h' : Rd w a' len' cap' t) (h1 : (dig (nv l)).length = 1) (h2 : (dig (nv t)).length = 1) :
    Calls Tryd.prog 32 #[.slice a len cap, .slice a' len' cap'] w (NPost (nv l * nv t) w) := by
  have H := Lib.hid h
  have H' := Lib.hid h'
  obtain ⟨x, n, hx⟩ := Tm.mk' l
  obtain ⟨y, m, hy⟩ := Tm.mk' t
  obtain rfl : n = 1 := by rw [← hx.lend, h1]
  obtain rfl : m = 1 := by rw [← hy.lend, h2]
  have HX := Lib.hid h1
  have HY := Lib.hid h2
  have RX := hx.rd h
  have RY := hy.rd h'
  obtain ⟨u, rfl⟩ : ∃ u, x = [u] := List.length_eq_one_iff.1 hx.len
  obtain ⟨v, rfl⟩ : ∃ v, y = [v] := List.length_eq_one_iff.1 hy.len
  have hu : nv l = u := by rw [← hx.val]; simp [nv]
  have hv : nv t = v := by rw [← hy.val]; simp [nv]
  rw [hu, hv]
  have hul : u < 4294967296 := RX.lim.head
  have hvl : v < 4294967296 := RY.lim.head
  have q1 := RX.le_cap
  have q2 := RX.cap_le
  have q3 := RY.le_cap
  have q4 := RY.cap_le
  have hb := mul_bound (a := u) (y := v) (p := 0) (c := 0) hul hvl BB_pos BB_pos
  obtain ⟨M, hM⟩ : ∃ M, u * v = M := ⟨_, rfl⟩
  rw [hM] at hb ⊢
  have hMl : M < 18446744073709551616 := by
    have : BB * BB = 18446744073709551616 := by decide
    omega
  have OF := Lib.hid (fun w => of_c M hMl w)
  have hmi : IntKind.u64.wrap (IntKind.u64.wrap (u : Int) * IntKind.u64.wrap (v : Int)) = (M : Nat) := by
    have e1 : IntKind.u64.wrap (u : Int) = u := by simp [IntKind.wrap, IntKind.bits, IntKind.signed]; omega
    have e2 : IntKind.u64.wrap (v : Int) = v := by simp [IntKind.wrap, IntKind.bits, IntKind.signed]; omega
    rw [e1, e2, show ((u : Int) * v) = (M : Nat) from by rw [← hM]; push_cast; rfl]
    simp [IntKind.wrap, IntKind.bits, IntKind.signed]; omega
  rcases RX.cells with hc | ⟨b, off, rfl, hc⟩
  · omega
  rcases RY.cells with hc' | ⟨b', off', rfl, hc'⟩
  · omega
  have c1 := hc 0 (by omega)
  have c2 := hc' 0 (by omega)
  simp at c1 c2
  clear h h' hx hy h1 h2 RX RY hu hv hM hc hc' hb
  go_enter Tryd.func32, Tryd.ntmps32
  go_wp2_with fail
  refine Calls.mono (trim_c _ _ _ l _ H.out) ?_
  rw [HX.out]
  rintro e w' ⟨rfl, rfl⟩
  go_wp2_with fail
  refine Calls.mono (trim_c _ _ _ t _ H'.out) ?_
  rw [HY.out]
  rintro e w' ⟨rfl, rfl⟩
  go_wp2_with fail
  go_region_with ((go_at_call 23; ((with_reducible refine (OF.out _).mono ?_); rintro e w' ⟨qa, qc, rfl, hq, hqb⟩)))
  all_goals
    have hb4 : Below w.heap.size w w' := (show Below w.heap.size w w.drew from ⟨rfl, rfl, rfl, Nat.le_refl _, fun _ _ => rfl⟩).trans hqb
    obtain ⟨lq, hlq⟩ : ∃ lq, (dig M).length = lq := ⟨_, rfl⟩
    have HLQ := Lib.hid hlq
    rw [hlq] at hq ⊢
    have HQ := Lib.hid hq
    clear hq hlq hmi
    go_wp2
    go_ret
    unfold NPost
    rw [HLQ.out]
    exact ⟨_, _, rfl, HQ.out, hb4⟩
set_option maxHeartbeats 800000 in
theorem mul_more_c (a a' : Option Addr) (len cap len' cap' : Nat) (l t : List Nat) (w : World) (h : Rd w a len cap l) (h' : Rd w a' len' cap' t) (hb : len ≤ 1048576) (hb' : len' ≤ 1048576) (h0 : nv l ≠ 0) (h0' : nv t ≠ 0)
    (h1 : ¬ ((dig (nv l)).length = 1 ∧ (dig (nv t)).length = 1)) (hs : (dig (nv l)).length < 48 ∨ (dig (nv t)).length < 48) :
    Calls Tryd.prog 32 #[.slice a len cap, .slice a' len' cap'] w (NPost (nv l * nv t) w) := by
  have H := Lib.hid h
  have H' := Lib.hid h'
  obtain ⟨x, n, hx⟩ := Tm.mk' l
  obtain ⟨y, m, hy⟩ := Tm.mk' t
  have HX := Lib.hid hx.lend
  have HY := Lib.hid hy.lend
  have HRX := Lib.hid (hx.rd h)
  have HRY := Lib.hid (hy.rd h')
  have hn0 : n ≠ 0 := by
    intro e
    have := hx.lend
    rw [e, List.length_eq_zero_iff, dig_nil_iff] at this
    exact h0 this
  have hm0 : m ≠ 0 := by
    intro e
    have := hy.lend
    rw [e, List.length_eq_zero_iff, dig_nil_iff] at this
    exact h0' this
  have hnb : n ≤ 1048576 := by have := dig_length_le h.lim; rw [h.len_eq, hx.lend] at this; omega
  have hmb : m ≤ 1048576 := by have := dig_length_le h'.lim; rw [h'.len_eq, hy.lend] at this; omega
  have q1 := HRX.out.le_cap
  have q2 := HRX.out.cap_le
  have q3 := HRY.out.le_cap
  have q4 := HRY.out.cap_le
  have hnB : ((n : Int) == 0) = false := by simp; omega
  have hmB : ((m : Int) == 0) = false := by simp; omega
  rw [hx.lend, hy.lend] at h1
  have hs48 : n < 48 ∨ m < 48 := by rw [← hx.lend, ← hy.lend]; exact hs
  have HS := Lib.hid hs48
  have HVX := Lib.hid hx.val
  have HVY := Lib.hid hy.val
  have key : ∀ (N M : Bool), ((n : Int) == 1) = N → ((m : Int) == 1) = M → (N && M) = false → Calls Tryd.prog 32 #[.slice a len cap, .slice a' len' cap'] w (NPost (nv l * nv t) w) := by
    intro N M hN hM hNM
    have HNM : N = false ∨ (N = true ∧ M = false) := by cases N <;> cases M <;> simp_all
    clear h h' hx hy h0 h0' h1 hs hs48 hNM
    rcases HNM with rfl | ⟨rfl, rfl⟩
    all_goals
      go_enter Tryd.func32, Tryd.ntmps32
      go_wp2_with fail
      refine Calls.mono (trim_c _ _ _ l _ H.out) ?_
      rw [HX.out]
      rintro e w' ⟨rfl, rfl⟩
      go_wp2_with fail
      refine Calls.mono (trim_c _ _ _ t _ H'.out) ?_
      rw [HY.out]
      rintro e w' ⟨rfl, rfl⟩
      go_wp2_with (at_make; refine wpList_make_win _ rfl _ _ 25 rfl Tryd.underlying25 _ (n + m) rfl rfl (by push_cast; rfl) (by omega) ?_)
      intro w1 hwin1 hb1 hs1
      have HRX1 := Lib.hid (HRX.out.below hb1)
      have HRY1 := Lib.hid (HRY.out.below hb1)
      have HFX := Lib.hid (HRX.out.far (Nat.le_refl _))
      have HFY := Lib.hid (HRY.out.far (Nat.le_refl _))
      go_wp2_with fail
      refine Calls.mono (mulInto_c _ _ n m _ _ _ _ _ _ _ _ _ _ hwin1.out rfl (Nat.le_refl _) (by omega) HRX1.out HRY1.out HFX.out HFY.out rfl HS.out) ?_
      rintro e w2 ⟨rfl, L, hwin2, hL, ho2⟩
      rw [HVX.out, HVY.out] at hL
      have HW2 := Lib.hid hwin2
      have HL := Lib.hid hL
      have hb2 : Below w.heap.size w w2 := hb1.trans (ho2.below (Nat.le_refl _))
      clear hwin2 hL ho2
      go_wp2_with fail
      refine Calls.mono (trim_c _ _ _ _ _ (HW2.out.rd (Nat.le_refl _) (by omega))) ?_
      rintro e w4 ⟨rfl, rfl⟩
      go_wp2_with fail
      go_ret
      exact Rd.npost HW2.out (Nat.le_refl _) (by omega) HL.out hb2
  refine key _ _ rfl rfl ?_
  rw [Bool.and_eq_false_iff]
  by_cases e : n = 1
  · right; rw [beq_eq_false_iff_ne]; intro e2; exact h1 ⟨e, by omega⟩
  · left; rw [beq_eq_false_iff_ne]; intro e2; omega
theorem mul_c (a a' : Option Addr) (len cap len' cap' : Nat) (l t : List Nat) (w : World) (h : Rd w a len cap l) (h' : Rd w a' len' cap' t) (hb : len ≤ 1048576) (hb' : len' ≤ 1048576)
    (hs : (dig (nv l)).length < 48 ∨ (dig (nv t)).length < 48) :
    Calls Tryd.prog 32 #[.slice a len cap, .slice a' len' cap'] w (NPost (nv l * nv t) w) := by
  by_cases h0 : nv l = 0 ∨ nv t = 0
  · have := mul_zero_c a a' len cap len' cap' l t w h h' h0
    rcases h0 with e | e
    · rw [e, Nat.zero_mul]; exact this
    · rw [e, Nat.mul_zero]; exact this
  · by_cases h1 : (dig (nv l)).length = 1 ∧ (dig (nv t)).length = 1
    · exact mul_one_c a a' len cap len' cap' l t w h h' h1.1 h1.2
    · exact mul_more_c a a' len cap len' cap' l t w h h' hb hb' (by omega) (by omega) h1 hs
theorem mul_n {w : World} {v u : Value} {n m k j : Nat} (h : Nm w v n k) (h' : Nm w u m j) (hk : k ≤ 1048575) (hj : j ≤ 1048575) (hs : k < 48 ∨ j < 48) :
    Calls Tryd.prog 32 #[v, u] w fun e w' => ∃ x, e = .returned x ∧ Cn w' x (n * m) ∧ Keep w w' := by
  obtain ⟨l, ⟨a, len, cap, rfl, hr⟩, rfl, hl⟩ := h
  obtain ⟨l', ⟨a', len', cap', rfl, hr'⟩, rfl, hl'⟩ := h'
  exact (mul_c _ _ _ _ _ _ _ _ w hr hr' (by rw [← hr.len_eq]; omega) (by rw [← hr'.len_eq]; omega) (by have := dig_length_le hr.lim; have := dig_length_le hr'.lim; omega)).mono fun _ _ h => h.cn
end Go.Proofs.YtgoiechhhnhgaaaDoor
