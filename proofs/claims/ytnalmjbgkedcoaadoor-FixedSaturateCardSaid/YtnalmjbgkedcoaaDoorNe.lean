/- Carried over from another seat by program (portn.py). -/
import Derived.Test.YtnalmjbgkedcoaaDoorNd
namespace Go.Proofs.YtnalmjbgkedcoaaDoor
open Go.RowKit
set_option linter.unusedVariables false
theorem mul_bound {a y p c : Nat} (ha : a < BB) (hy : y < BB) (hp : p < BB) (hc : c < BB) : c + (a * y + p) < BB * BB := by
  have h1 : a * y ≤ (BB - 1) * (BB - 1) := Nat.mul_le_mul (by omega) (by omega)
  have h2 : (BB - 1) * (BB - 1) + 2 * (BB - 1) + 1 = BB * BB := by decide
  omega
/-- a row of the product: y times x is added at limb i -/
structure MulIn (P0 x L : List Nat) (y i k c : Nat) : Prop where
  val : nv L + BB ^ (i + k) * c = nv P0 + BB ^ i * (y * nv (x.take k))
  same : ∀ j, i + k ≤ j → L.getD j 0 = P0.getD j 0
  lt : c < BB
theorem MulIn.start (P0 x : List Nat) (y i : Nat) : MulIn P0 x P0 y i 0 0 := ⟨by simp [nv], fun _ _ => rfl, BB_pos⟩
theorem MulIn.step {P0 x L : List Nat} {y i k c a p v : Nat} (h : MulIn P0 x L y i k c) (hn : i + k < L.length) (hx : x.getD k 0 = a) (hp : P0.getD (i + k) 0 = p) (ha : a < BB) (hy : y < BB) (hpl : p < BB)
    (hv : c + (a * y + p) = v) : MulIn P0 x (L.set (i + k) (v % BB)) y i (k + 1) (v / BB) := by
  have hL : L.getD (i + k) 0 = p := (h.same _ (Nat.le_refl _)).trans hp
  refine ⟨?_, ?_, ?_⟩
  · have h1 := nv_set (y := v % BB) hn
    rw [hL] at h1
    have h2 := h.val
    have h3 := Nat.div_add_mod v BB
    rw [nv_take_succ, hx, show i + (k + 1) = (i + k) + 1 from by omega, Nat.pow_succ]
    obtain ⟨Q, hQ⟩ : ∃ Q, BB ^ (i + k) = Q := ⟨_, rfl⟩
    obtain ⟨D, hD⟩ : ∃ D, v / BB = D := ⟨_, rfl⟩
    obtain ⟨M, hM⟩ : ∃ M, v % BB = M := ⟨_, rfl⟩
    rw [hQ] at h1 h2 ⊢
    rw [hD, hM] at h3
    rw [hM] at h1
    rw [hM, hD]
    have e1 : BB ^ i * (y * (nv (x.take k) + BB ^ k * a)) = BB ^ i * (y * nv (x.take k)) + Q * (a * y) := by
      rw [Nat.mul_add, Nat.mul_add, ← hQ, Nat.pow_add]
      congr 1
      rw [Nat.mul_assoc, Nat.mul_comm y, Nat.mul_assoc]
    have e2 : Q * BB * D + Q * M = Q * v := by rw [Nat.mul_assoc, ← Nat.mul_add, h3]
    have e3 : Q * v = Q * c + (Q * (a * y) + Q * p) := by rw [← hv, Nat.mul_add, Nat.mul_add]
    rw [e1]
    omega
  · intro j hj
    rw [getD_set_ne (by omega)]
    exact h.same j (by omega)
  · have := mul_bound ha hy hpl h.lt
    rw [hv] at this
    exact Nat.div_lt_of_lt_mul this
/-- the rows before i are added -/
structure MulOut (x y L : List Nat) (i : Nat) : Prop where
  val : nv L = nv x * nv (y.take i)
  zero : ∀ j, x.length + i ≤ j → L.getD j 0 = 0
theorem MulOut.start (x y : List Nat) (n : Nat) : MulOut x y (List.replicate n 0) 0 := by
  refine ⟨?_, fun j _ => ?_⟩
  · have : nv (List.replicate n 0) = 0 := by
      induction n with
      | zero => rfl
      | succ n ih => rw [List.replicate_succ, nv, ih]; rfl
    rw [this]; simp [nv]
  · simp [List.getD_eq_getElem?_getD, List.getElem?_replicate]
    split <;> rfl
theorem MulOut.skip {x y L : List Nat} {i : Nat} (h : MulOut x y L i) (hy : y.getD i 0 = 0) : MulOut x y L (i + 1) := by
  refine ⟨?_, fun j hj => h.zero j (by omega)⟩
  rw [nv_take_succ, hy, h.val]
  simp
theorem MulOut.next {x y P0 L : List Nat} {i v c n : Nat} (h : MulOut x y P0 i) (hin : MulIn P0 x L v i n c) (hn : x.length = n) (hy : y.getD i 0 = v) (hl : i + n < L.length) : MulOut x y (L.set (i + n) c) (i + 1) := by
  have h0 : L.getD (i + n) 0 = 0 := (hin.same _ (Nat.le_refl _)).trans (h.zero _ (by omega))
  refine ⟨?_, ?_⟩
  · have h1 := nv_set (y := c) hl
    rw [h0] at h1
    have h2 := hin.val
    rw [List.take_of_length_le (by omega), h.val] at h2
    rw [nv_take_succ, hy, Nat.mul_add]
    have e : BB ^ i * (v * nv x) = nv x * (BB ^ i * v) := by rw [Nat.mul_comm (nv x), Nat.mul_assoc]
    omega
  · intro j hj
    rw [getD_set_ne (by omega), hin.same j (by omega)]
    exact h.zero j (by omega)
theorem MulOut.nextR {x y P0 L : List Nat} {i v n : Nat} (h : MulOut x y P0 i) (hin : MulIn P0 x L v i (n + 1) 0) (hn : x.length = n) (hy : y.getD i 0 = v) : MulOut x y L (i + 1) := by
  refine ⟨?_, ?_⟩
  · have h2 := hin.val
    rw [List.take_of_length_le (by omega), h.val] at h2
    rw [nv_take_succ, hy, Nat.mul_add]
    have e : BB ^ i * (v * nv x) = nv x * (BB ^ i * v) := by rw [Nat.mul_comm (nv x), Nat.mul_assoc]
    omega
  · intro j hj
    rw [hin.same j (by omega)]
    exact h.zero j (by omega)
theorem MulOut.done {x y L : List Nat} {i : Nat} (h : MulOut x y L i) (hi : y.length ≤ i) : nv L = nv x * nv y := by rw [h.val, List.take_of_length_le hi]

set_option maxHeartbeats 1600000 in
theorem mulSimple_c (b off la lb cap : Nat) (P : List Nat) (a : Option Addr) (ca : Nat) (x : List Nat) (a' : Option Addr) (cb : Nat) (y : List Nat) (w : World) (h : Win w b off (la + lb) P) (hcap : la + lb ≤ cap) (hcm : cap ≤ 9223372036854775807)
    (hx : Rd w a la ca x) (hy : Rd w a' lb cb y) (fx : Far a la b) (fy : Far a' lb b) (h0 : MulOut x y P 0) :
    Calls Tryd.prog 85 #[.slice (some ⟨b, off, none⟩) (la + lb) cap, .slice a la ca, .slice a' lb cb] w (IPost b off (la + lb) (nv x * nv y) w) := by
  have HW := Lib.hid h
  have FX := Lib.hid fx
  have FY := Lib.hid fy
  have RX := Lib.hid hx
  have RY := Lib.hid hy
  have LX := Lib.hid hx.len_eq
  have LY := Lib.hid hy.len_eq
  have H0 := Lib.hid h0
  have qa := hx.le_cap
  have qb := hx.cap_le
  have qc := hy.le_cap
  have qd := hy.cap_le
  clear h fx fy hx hy h0
  go_enter Tryd.func85, Tryd.ntmps85
  go_wp2
  go_loopw [13] (fun i wr => ∃ (k : Nat) (L : List Nat), k ≤ lb ∧ i = .int .i64 k ∧ Hid (MulOut x y L k) ∧ Hid (Win wr b off (la + lb) L) ∧ Hid (Only b off (off + (la + lb)) w wr)) (fun i _ => lb - (intOf i).toNat)
  case atStart => exact ⟨0, P, by omega, rfl, H0, HW, Lib.hid (Only.refl _ _ _ _)⟩
  case round =>
    obtain ⟨k, L, hk, rfl, hout, hwin, honly⟩ := hrel
    by_cases hlt : k < lb
    · obtain ⟨v, hv⟩ : ∃ v, y.getD k 0 = v := ⟨_, rfl⟩
      have hvl : v < 4294967296 := by rw [← hv]; exact RY.out.lim.at k
      have hr2 := RY.out.only honly.out FY.out
      rcases hr2.cells with h1 | ⟨b', off', e, h1⟩
      · omega
      have c2 := h1 k hlt
      rw [hv] at c2
      have HV := Lib.hid hv
      clear hv hr2 h1
      subst e
      by_cases hv0 : v = 0
      · subst hv0
        have hst := Lib.hid (hout.out.skip HV.out)
        go_wp2
        go_roundw
        case rel => exact ⟨k + 1, L, by omega, by go_num, hst, hwin, honly⟩
        case measure => simp [intOf]; omega
      · have hvB : ((v : Int) == 0) = false := by simp; omega
        go_wp2
        obtain ⟨wo, rfl⟩ : ∃ wo : World, wo = wr := ⟨_, rfl⟩
        go_loopw [8, 22] (fun s i wr => ∃ (j c : Nat) (M : List Nat), j ≤ la ∧ i = .int .i64 j ∧ s = .int .u64 c ∧ c < 4294967296 ∧ Hid (MulIn L x M v k j c) ∧ Hid (Win wr b off (la + lb) M) ∧ Hid (Only b off (off + (la + lb)) w wr)) (fun _ i _ => la - (intOf i).toNat)
        case atStart => exact ⟨0, 0, L, by omega, rfl, rfl, by omega, Lib.hid (MulIn.start L x v k), hwin, honly⟩
        case round =>
          obtain ⟨j, c, M, hj, rfl, rfl, hc, hin, hwm, hom⟩ := hrel
          by_cases hja : j < la
          · obtain ⟨t, ht⟩ : ∃ t, x.getD j 0 = t := ⟨_, rfl⟩
            obtain ⟨p, hp⟩ : ∃ p, L.getD (k + j) 0 = p := ⟨_, rfl⟩
            have htl : t < BB := by rw [← ht]; exact RX.out.lim.at j
            have hpl : p < BB := by rw [← hp]; exact hwin.out.lim.at _
            obtain ⟨m, hm⟩ : ∃ m, t * v = m := ⟨_, rfl⟩
            obtain ⟨u, hu⟩ : ∃ u, c + (m + p) = u := ⟨_, rfl⟩
            have hub : u < 18446744073709551616 := by rw [← hu, ← hm]; exact mul_bound htl hvl hpl hc
            have hst0 := hin.out.step (v := u) (by rw [hwm.out.len_eq]; omega) ht hp htl hvl hpl (by rw [hm]; exact hu)
            have c1 := hwm.out.cell (k + j) (by omega)
            rw [hin.out.same _ (Nat.le_refl _), hp] at c1
            have f1 := hwm.out.free (k + j) (by omega)
            have hr2 := RX.out.only hom.out FX.out
            rcases hr2.cells with h1 | ⟨b3, off3, e, h1⟩
            · omega
            have c3 := h1 j hja
            rw [ht] at c3
            have hwin2 := Lib.hid (hwm.out.set' (i := k + j) (by omega) (x := u % BB) (Nat.mod_lt _ BB_pos) (X := (u : Int) % 4294967296) (by simp [BB_eq]))
            have honly2 := Lib.hid (hom.out.set (j := off + (k + j)) (by omega) (by omega) (.int .u32 ((u : Int) % 4294967296)))
            rw [show u / BB = u / 4294967296 from by rw [BB_eq]] at hst0
            have hst := Lib.hid hst0
            have hmi : IntKind.u64.wrap ((t : Int) * v) = (m : Nat) := by
              rw [show ((t : Int) * v) = (m : Nat) from by rw [← hm]; push_cast; rfl]
              simp [IntKind.wrap, IntKind.bits, IntKind.signed]; omega
            have hui : ((c : Int) + ((m : Int) + p)) = (u : Nat) := by rw [← hu]; push_cast; rfl
            rw [BB_eq] at htl hpl
            clear ht hp hm hr2 h1 hst0
            have hmb : m < 18446744073709551616 := by omega
            have HU := Lib.hid hu
            clear hu
            subst e
            go_wp2
            go_roundw
            case rel => exact ⟨j + 1, u / 4294967296, _, by omega, by go_num, by go_num, by omega, hst, hwin2, honly2⟩
            case measure => simp [intOf]; omega
          · have hjn : j = la := by omega
            subst hjn
            have hst := Lib.hid (hout.out.next hin.out LX.out HV.out (by rw [hwm.out.len_eq]; omega))
            have c0 := hwm.out.cell (k + j) (by omega)
            have f1 := hwm.out.free (k + j) (by omega)
            have hwin2 := Lib.hid (hwm.out.set (i := k + j) (by omega) (x := c) hc)
            have honly2 := Lib.hid (hom.out.set (j := off + (k + j)) (by omega) (by omega) (.int .u32 ↑c))
            go_wp2
            go_roundw
            case rel => exact ⟨k + 1, _, by omega, by go_num, hst, hwin2, honly2⟩
            case measure => simp [intOf]; omega
    · have hkl : k = lb := by omega
      subst hkl
      have hfin := Lib.hid (hout.out.done (by rw [LY.out]; exact Nat.le_refl _))
      go_wp2
      refine bodyPost_ret (results_none rfl _ _ _) rfl ?_
      exact ⟨rfl, L, hwin.out, hfin.out, honly.out⟩

set_option maxHeartbeats 400000 in
theorem mulInto_c (b off la lb n cap : Nat) (P : List Nat) (a : Option Addr) (ca : Nat) (x : List Nat) (a' : Option Addr) (cb : Nat) (y : List Nat) (w : World) (h : Win w b off n P) (hn : n = la + lb) (hcap : n ≤ cap) (hcm : cap ≤ 9223372036854775807)
    (hx : Rd w a la ca x) (hy : Rd w a' lb cb y) (fx : Far a la b) (fy : Far a' lb b) (h0 : P = zer n) (hs : la < 48 ∨ lb < 48) :
    Calls Tryd.prog 68 #[.slice (some ⟨b, off, none⟩) n cap, .slice a la ca, .slice a' lb cb] w (IPost b off n (nv x * nv y) w) := by
  subst h0
  have qa := hx.le_cap
  have qb := hx.cap_le
  have qc := hy.le_cap
  have qd := hy.cap_le
  by_cases hlt : la < lb
  · have C := mulSimple_c b off lb la cap (zer n) a' cb y a ca x w (by rw [Nat.add_comm, ← hn]; exact h) (by omega) hcm hy hx fy fx (MulOut.start y x n)
    rw [Nat.add_comm lb, ← hn, Nat.mul_comm (nv y)] at C
    have HC := Lib.hid C
    have h48 : la < 48 := by omega
    clear C h hx hy fx fy hs hn
    go_enter Tryd.func68, Tryd.ntmps68
    go_wp2_with fail
    refine Calls.mono HC.out ?_
    rintro e w1 ⟨rfl, hp⟩
    go_wp2_with fail
    refine bodyPost_ret (results_none rfl _ _ _) rfl ?_
    exact ⟨rfl, hp⟩
  · have C := mulSimple_c b off la lb cap (zer n) a ca x a' cb y w (by rw [← hn]; exact h) (by omega) hcm hx hy fx fy (MulOut.start x y n)
    rw [← hn] at C
    have HC := Lib.hid C
    have h48 : lb < 48 := by omega
    clear C h hx hy fx fy hs hn
    go_enter Tryd.func68, Tryd.ntmps68
    go_wp2_with fail
    refine Calls.mono HC.out ?_
    rintro e w1 ⟨rfl, hp⟩
    go_wp2_with fail
    refine bodyPost_ret (results_none rfl _ _ _) rfl ?_
    exact ⟨rfl, hp⟩
theorem mul_zero_c (a a' : Option Addr) (len cap len' cap' : Nat) (l t : List Nat) (w : World) (h : Rd w a len cap l) (h' : Rd w a' len' cap' t) (h0 : nv l = 0 ∨ nv t = 0) :
    Calls Tryd.prog 44 #[.slice a len cap, .slice a' len' cap'] w (NPost 0 w) := by
  have H := Lib.hid h
  have H' := Lib.hid h'
  obtain ⟨x, n, hx⟩ := Tm.mk' l
  obtain ⟨y, m, hy⟩ := Tm.mk' t
  have HX := Lib.hid hx.lend
  have HY := Lib.hid hy.lend
  have hz : Hid ((dig 0).length = 0) := Lib.hid (by rw [dig_zero]; rfl)
  have hz2 : Hid (dig 0 = []) := Lib.hid dig_zero
  have hnm : n = 0 ∨ m = 0 := by
    rcases h0 with e | e
    · left; rw [← hx.lend, e, dig_zero]; rfl
    · right; rw [← hy.lend, e, dig_zero]; rfl
  clear h h' hx hy h0
  by_cases hn0 : n = 0
  · subst hn0
    clear hnm
    go_enter Tryd.func44, Tryd.ntmps44
    go_wp2_with fail
    refine Calls.mono (trim_c _ _ _ l _ H.out) ?_
    rw [HX.out]
    rintro e w' ⟨rfl, rfl⟩
    go_wp2_with fail
    refine Calls.mono (trim_c _ _ _ t _ H'.out) ?_
    rw [HY.out]
    rintro e w' ⟨rfl, rfl⟩
    go_wp2_with fail
    go_ret
    unfold NPost
    rw [hz.out, hz2.out]
    exact ⟨none, 0, rfl, Rd.nil _, Below.refl _ _⟩
  · have hm0 : m = 0 := by omega
    subst hm0
    have hnB : ((n : Int) == 0) = false := by simp; omega
    clear hnm
    go_enter Tryd.func44, Tryd.ntmps44
    go_wp2_with fail
    refine Calls.mono (trim_c _ _ _ l _ H.out) ?_
    rw [HX.out]
    rintro e w' ⟨rfl, rfl⟩
    go_wp2_with fail
    refine Calls.mono (trim_c _ _ _ t _ H'.out) ?_
    rw [HY.out]
    rintro e w' ⟨rfl, rfl⟩
    go_wp2_with fail
    go_ret
    unfold NPost
    rw [hz.out, hz2.out]
    exact ⟨none, 0, rfl, Rd.nil _, Below.refl _ _⟩
set_option maxHeartbeats 800000 in
theorem mul_one_c (a a' : Option Addr) (len cap len' cap' : Nat) (l t : List Nat) (w : World) (h : Rd w a len cap l) (h' : Rd w a' len' cap' t) (h1 : (dig (nv l)).length = 1) (h2 : (dig (nv t)).length = 1) :
    Calls Tryd.prog 44 #[.slice a len cap, .slice a' len' cap'] w (NPost (nv l * nv t) w) := by
  have H := Lib.hid h
  have H' := Lib.hid h'
  obtain ⟨x, n, hx⟩ := Tm.mk' l
  obtain ⟨y, m, hy⟩ := Tm.mk' t
  obtain rfl : n = 1 := by rw [← hx.lend, h1]
  obtain rfl : m = 1 := by rw [← hy.lend, h2]
  have HX := Lib.hid h1
  have HY := Lib.hid h2
  have RX := hx.rd h
  have RY := hy.rd h'
  obtain ⟨u, rfl⟩ : ∃ u, x = [u] := List.length_eq_one_iff.1 hx.len
  obtain ⟨v, rfl⟩ : ∃ v, y = [v] := List.length_eq_one_iff.1 hy.len
  have hu : nv l = u := by rw [← hx.val]; simp [nv]
  have hv : nv t = v := by rw [← hy.val]; simp [nv]
  rw [hu, hv]
  have hul : u < 4294967296 := RX.lim.head
  have hvl : v < 4294967296 := RY.lim.head
  have q1 := RX.le_cap
  have q2 := RX.cap_le
  have q3 := RY.le_cap
  have q4 := RY.cap_le
  have hb := mul_bound (a := u) (y := v) (p := 0) (c := 0) hul hvl BB_pos BB_pos
  obtain ⟨M, hM⟩ : ∃ M, u * v = M := ⟨_, rfl⟩
  rw [hM] at hb ⊢
  have hMl : M < 18446744073709551616 := by
    have : BB * BB = 18446744073709551616 := by decide
    omega
  have OF := Lib.hid (fun w => of_c M hMl w)
  have hmi : IntKind.u64.wrap (IntKind.u64.wrap (u : Int) * IntKind.u64.wrap (v : Int)) = (M : Nat) := by
    have e1 : IntKind.u64.wrap (u : Int) = u := by simp [IntKind.wrap, IntKind.bits, IntKind.signed]; omega
    have e2 : IntKind.u64.wrap (v : Int) = v := by simp [IntKind.wrap, IntKind.bits, IntKind.signed]; omega
    rw [e1, e2, show ((u : Int) * v) = (M : Nat) from by rw [← hM]; push_cast; rfl]
    simp [IntKind.wrap, IntKind.bits, IntKind.signed]; omega
  rcases RX.cells with hc | ⟨b, off, rfl, hc⟩
  · omega
  rcases RY.cells with hc' | ⟨b', off', rfl, hc'⟩
  · omega
  have c1 := hc 0 (by omega)
  have c2 := hc' 0 (by omega)
  simp at c1 c2
  clear h h' hx hy h1 h2 RX RY hu hv hM hc hc' hb
  go_enter Tryd.func44, Tryd.ntmps44
  go_wp2_with fail
  refine Calls.mono (trim_c _ _ _ l _ H.out) ?_
  rw [HX.out]
  rintro e w' ⟨rfl, rfl⟩
  go_wp2_with fail
  refine Calls.mono (trim_c _ _ _ t _ H'.out) ?_
  rw [HY.out]
  rintro e w' ⟨rfl, rfl⟩
  go_wp2_with fail
  go_region_with ((go_at_call 53; ((with_reducible refine (OF.out _).mono ?_); rintro e w' ⟨qa, qc, rfl, hq, hqb⟩)))
  all_goals
    have hb4 : Below w.heap.size w w' := (show Below w.heap.size w w.drew from ⟨rfl, rfl, rfl, Nat.le_refl _, fun _ _ => rfl⟩).trans hqb
    obtain ⟨lq, hlq⟩ : ∃ lq, (dig M).length = lq := ⟨_, rfl⟩
    have HLQ := Lib.hid hlq
    rw [hlq] at hq ⊢
    have HQ := Lib.hid hq
    clear hq hlq hmi
    go_wp2
    go_ret
    unfold NPost
    rw [HLQ.out]
    exact ⟨_, _, rfl, HQ.out, hb4⟩
set_option maxHeartbeats 800000 in
theorem mul_more_c (a a' : Option Addr) (len cap len' cap' : Nat) (l t : List Nat) (w : World) (h : Rd w a len cap l) (h' : Rd w a' len' cap' t) (hb : len ≤ 1048576) (hb' : len' ≤ 1048576) (h0 : nv l ≠ 0) (h0' : nv t ≠ 0)
    (h1 : ¬ ((dig (nv l)).length = 1 ∧ (dig (nv t)).length = 1)) (hs : (dig (nv l)).length < 48 ∨ (dig (nv t)).length < 48) :
    Calls Tryd.prog 44 #[.slice a len cap, .slice a' len' cap'] w (NPost (nv l * nv t) w) := by
  have H := Lib.hid h
  have H' := Lib.hid h'
  obtain ⟨x, n, hx⟩ := Tm.mk' l
  obtain ⟨y, m, hy⟩ := Tm.mk' t
  have HX := Lib.hid hx.lend
  have HY := Lib.hid hy.lend
  have HRX := Lib.hid (hx.rd h)
  have HRY := Lib.hid (hy.rd h')
  have hn0 : n ≠ 0 := by
    intro e
    have := hx.lend
    rw [e, List.length_eq_zero_iff, dig_nil_iff] at this
    exact h0 this
  have hm0 : m ≠ 0 := by
    intro e
    have := hy.lend
    rw [e, List.length_eq_zero_iff, dig_nil_iff] at this
    exact h0' this
  have hnb : n ≤ 1048576 := by have := dig_length_le h.lim; rw [h.len_eq, hx.lend] at this; omega
  have hmb : m ≤ 1048576 := by have := dig_length_le h'.lim; rw [h'.len_eq, hy.lend] at this; omega
  have q1 := HRX.out.le_cap
  have q2 := HRX.out.cap_le
  have q3 := HRY.out.le_cap
  have q4 := HRY.out.cap_le
  have hnB : ((n : Int) == 0) = false := by simp; omega
  have hmB : ((m : Int) == 0) = false := by simp; omega
  rw [hx.lend, hy.lend] at h1
  have hs48 : n < 48 ∨ m < 48 := by rw [← hx.lend, ← hy.lend]; exact hs
  have HS := Lib.hid hs48
  have HVX := Lib.hid hx.val
  have HVY := Lib.hid hy.val
  have key : ∀ (N M : Bool), ((n : Int) == 1) = N → ((m : Int) == 1) = M → (N && M) = false → Calls Tryd.prog 44 #[.slice a len cap, .slice a' len' cap'] w (NPost (nv l * nv t) w) := by
    intro N M hN hM hNM
    have HNM : N = false ∨ (N = true ∧ M = false) := by cases N <;> cases M <;> simp_all
    clear h h' hx hy h0 h0' h1 hs hs48 hNM
    rcases HNM with rfl | ⟨rfl, rfl⟩
    all_goals
      go_enter Tryd.func44, Tryd.ntmps44
      go_wp2_with fail
      refine Calls.mono (trim_c _ _ _ l _ H.out) ?_
      rw [HX.out]
      rintro e w' ⟨rfl, rfl⟩
      go_wp2_with fail
      refine Calls.mono (trim_c _ _ _ t _ H'.out) ?_
      rw [HY.out]
      rintro e w' ⟨rfl, rfl⟩
      go_wp2_with (at_make; refine wpList_make_win _ rfl _ _ 23 rfl Tryd.underlying23 _ (n + m) rfl rfl (by push_cast; rfl) (by omega) ?_)
      intro w1 hwin1 hb1 hs1
      have HRX1 := Lib.hid (HRX.out.below hb1)
      have HRY1 := Lib.hid (HRY.out.below hb1)
      have HFX := Lib.hid (HRX.out.far (Nat.le_refl _))
      have HFY := Lib.hid (HRY.out.far (Nat.le_refl _))
      go_wp2_with fail
      refine Calls.mono (mulInto_c _ _ n m _ _ _ _ _ _ _ _ _ _ hwin1.out rfl (Nat.le_refl _) (by omega) HRX1.out HRY1.out HFX.out HFY.out rfl HS.out) ?_
      rintro e w2 ⟨rfl, L, hwin2, hL, ho2⟩
      rw [HVX.out, HVY.out] at hL
      have HW2 := Lib.hid hwin2
      have HL := Lib.hid hL
      have hb2 : Below w.heap.size w w2 := hb1.trans (ho2.below (Nat.le_refl _))
      clear hwin2 hL ho2
      go_wp2_with fail
      refine Calls.mono (trim_c _ _ _ _ _ (HW2.out.rd (Nat.le_refl _) (by omega))) ?_
      rintro e w4 ⟨rfl, rfl⟩
      go_wp2_with fail
      go_ret
      exact Rd.npost HW2.out (Nat.le_refl _) (by omega) HL.out hb2
  refine key _ _ rfl rfl ?_
  rw [Bool.and_eq_false_iff]
  by_cases e : n = 1
  · right; rw [beq_eq_false_iff_ne]; intro e2; exact h1 ⟨e, by omega⟩
  · left; rw [beq_eq_false_iff_ne]; intro e2; omega
theorem mul_c (a a' : Option Addr) (len cap len' cap' : Nat) (l t : List Nat) (w : World) (h : Rd w a len cap l) (h' : Rd w a' len' cap' t) (hb : len ≤ 1048576) (hb' : len' ≤ 1048576)
    (hs : (dig (nv l)).length < 48 ∨ (dig (nv t)).length < 48) :
    Calls Tryd.prog 44 #[.slice a len cap, .slice a' len' cap'] w (NPost (nv l * nv t) w) := by
  by_cases h0 : nv l = 0 ∨ nv t = 0
  · have := mul_zero_c a a' len cap len' cap' l t w h h' h0
    rcases h0 with e | e
    · rw [e, Nat.zero_mul]; exact this
    · rw [e, Nat.mul_zero]; exact this
  · by_cases h1 : (dig (nv l)).length = 1 ∧ (dig (nv t)).length = 1
    · exact mul_one_c a a' len cap len' cap' l t w h h' h1.1 h1.2
    · exact mul_more_c a a' len cap len' cap' l t w h h' hb hb' (by omega) (by omega) h1 hs
theorem mul_n {w : World} {v u : Value} {n m k j : Nat} (h : Nm w v n k) (h' : Nm w u m j) (hk : k ≤ 1048575) (hj : j ≤ 1048575) (hs : k < 48 ∨ j < 48) :
    Calls Tryd.prog 44 #[v, u] w fun e w' => ∃ x, e = .returned x ∧ Cn w' x (n * m) ∧ Keep w w' := by
  obtain ⟨l, ⟨a, len, cap, rfl, hr⟩, rfl, hl⟩ := h
  obtain ⟨l', ⟨a', len', cap', rfl, hr'⟩, rfl, hl'⟩ := h'
  exact (mul_c _ _ _ _ _ _ _ _ w hr hr' (by rw [← hr.len_eq]; omega) (by rw [← hr'.len_eq]; omega) (by have := dig_length_le hr.lim; have := dig_length_le hr'.lim; omega)).mono fun _ _ h => h.cn

theorem limb_q (a : Option Addr) (len cap : Nat) (l : List Nat) (i d : Nat) (w : World) (h : Rd w a len cap l) (hd : l.getD i 0 = d) (n : Nat) :
    Calls Tryd.prog 72 #[.slice a len cap, .int .i64 i] (w.drewN n) fun e w' => e = .returned (.int .u32 (d : Nat)) ∧ w' = w.drewN n := by
  subst hd
  exact (limb_c a len cap l i _ (h.drewN n)).mono fun _ _ ⟨h1, h2⟩ => ⟨h1, h2.symm⟩
theorem wr64 {x : Nat} (h : x < 18446744073709551616) : IntKind.u64.wrap (x : Int) = x := by simp [IntKind.wrap, IntKind.bits, IntKind.signed]; omega
theorem Win.set0 {w : World} {b n : Nat} {L : List Nat} (h : Win w b 0 n L) {i : Nat} (hi : i < n) {x : Nat} (hx : x < BB) {X : Int} (hX : X = x) : Win (w.setCell ⟨b, i, none⟩ (.int .u32 X)) b 0 n (L.set i x) := by
  have := h.set' hi hx hX
  rwa [Nat.zero_add] at this
theorem NPost.ofCn {n : Nat} {w w' : World} {u : Value} (h : Cn w' u n) (hb : Below w.heap.size w w') : NPost n w (.returned u) w' := by
  obtain ⟨a, len, cap, rfl, hr⟩ := h
  have := hr.len_eq
  subst this
  exact ⟨a, cap, rfl, hr, hb⟩
set_option maxHeartbeats 1600000 in
theorem rmul_c (a a' : Option Addr) (la ca lb cb : Nat) (x y : List Nat) (w : World) (h : Rd w a la ca x) (h' : Rd w a' lb cb y) (hb : la + lb ≤ 1048575) :
    Calls Tryd.prog 54 #[.slice a la ca, .slice a' lb cb] w (NPost (nv x * nv y) w) := by
  have H := Lib.hid h
  have H' := Lib.hid h'
  have LX := Lib.hid h.len_eq
  have LY := Lib.hid h'.len_eq
  have q1 := h.le_cap
  have q2 := h.cap_le
  have q3 := h'.le_cap
  have q4 := h'.cap_le
  clear h h'
  go_enter Tryd.func54, Tryd.ntmps54
  go_wp2_with (at_make; refine wpList_make_win _ rfl _ _ 22 rfl Tryd.underlying22 _ (la + lb + 1) rfl rfl (by push_cast; rfl) (by omega) ?_)
  intro w1 hwin1 hb1 hs1
  have HX1 := Lib.hid (H.out.below hb1)
  have HY1 := Lib.hid (H'.out.below hb1)
  have FX := Lib.hid (H.out.far (Nat.le_refl _))
  have FY := Lib.hid (H'.out.far (Nat.le_refl _))
  go_wp2
  go_loopw [6] (fun i wr => ∃ (k : Nat) (L : List Nat), k ≤ la ∧ i = .int .i64 k ∧ Hid (MulOut y x L k) ∧ Hid (Win wr w.heap.size 0 (la + lb + 1) L) ∧ Hid (Only w.heap.size 0 (0 + (la + lb + 1)) w1 wr)) (fun i _ => la - (intOf i).toNat)
  case atStart => exact ⟨0, _, by omega, rfl, Lib.hid (MulOut.start y x _), hwin1, Lib.hid (Only.refl _ _ _ _)⟩
  case round =>
    obtain ⟨k, L, hk, rfl, hout, hwin, honly⟩ := hrel
    by_cases hlt : k < la
    · obtain ⟨v, hv⟩ : ∃ v, x.getD k 0 = v := ⟨_, rfl⟩
      have hvl : v < 4294967296 := by rw [← hv]; exact H.out.lim.at k
      have HV := Lib.hid hv
      have hcx : Hid (∀ wx, Only w.heap.size 0 (0 + (la + lb + 1)) w1 wx → ∃ b off, a = some ⟨b, off, none⟩ ∧ wx.cell? ⟨b, off + k, none⟩ = some (.int .u32 (v : Int))) := Lib.hid (by
        intro wx hox
        rcases (HX1.out.only hox FX.out).cells with h1 | ⟨b', off', e, h1⟩
        · omega
        · refine ⟨b', off', e, ?_⟩
          rw [h1 k hlt, hv])
      clear hv
      go_wp2
      obtain ⟨wo, rfl⟩ : ∃ wo : World, wo = wr := ⟨_, rfl⟩
      go_loopw [7, 8] (fun s i wr => ∃ (j c : Nat) (M : List Nat), j ≤ lb + 1 ∧ i = .int .i64 j ∧ s = .int .u64 c ∧ c < 4294967296 ∧ Hid (MulIn L y M v k j c) ∧ Hid (j = lb + 1 → c = 0) ∧ Hid (Win wr w.heap.size 0 (la + lb + 1) M) ∧ Hid (Only w.heap.size 0 (0 + (la + lb + 1)) w1 wr)) (fun _ i _ => lb + 1 - (intOf i).toNat)
      case atStart => exact ⟨0, 0, L, by omega, rfl, rfl, by omega, Lib.hid (MulIn.start L y v k), Lib.hid (fun h => by omega), hwin, honly⟩
      case round =>
        obtain ⟨j, c, M, hj, rfl, rfl, hc, hin, hcz, hwm, hom⟩ := hrel
        by_cases hja : j ≤ lb
        · obtain ⟨t, ht⟩ : ∃ t, y.getD j 0 = t := ⟨_, rfl⟩
          obtain ⟨p, hp⟩ : ∃ p, L.getD (k + j) 0 = p := ⟨_, rfl⟩
          have htl : t < BB := by rw [← ht]; exact H'.out.lim.at j
          have hpl : p < BB := by rw [← hp]; exact hwin.out.lim.at _
          obtain ⟨m, hm⟩ : ∃ m, v * t = m := ⟨_, rfl⟩
          have hm' : t * v = m := by rw [Nat.mul_comm]; exact hm
          obtain ⟨q, hq⟩ : ∃ q, m + p = q := ⟨_, rfl⟩
          obtain ⟨u, hu⟩ : ∃ u, c + q = u := ⟨_, rfl⟩
          have hub : u < 18446744073709551616 := by rw [← hu, ← hq, ← hm']; exact mul_bound htl hvl hpl hc
          have hst0 := hin.out.step (v := u) (by rw [hwm.out.len_eq]; omega) ht hp htl hvl hpl (by rw [hm', hq]; exact hu)
          have hcz2 : Hid (j + 1 = lb + 1 → u / 4294967296 = 0) := Lib.hid (by
            intro e
            have h1 : t = 0 := by rw [← ht]; exact getD_over (by rw [LY.out]; omega)
            have h2 : p = 0 := by rw [← hp]; exact hout.out.zero _ (by rw [LY.out]; omega)
            have h3 : u = c := by rw [← hu, ← hq, ← hm, h1, h2]; omega
            rw [h3]; omega)
          have c1 := hwm.out.cell (k + j) (by omega)
          rw [hin.out.same _ (Nat.le_refl _), hp] at c1
          have f1 := hwm.out.free (k + j) (by omega)
          obtain ⟨b3, off3, e, c3⟩ := hcx.out wr hom.out
          subst e
          have LQ := Lib.hid (limb_q _ _ _ _ j t wr (HY1.out.only hom.out FY.out) ht)
          have hwin2 := Lib.hid (fun n => (hwm.out.dr (w' := wr.drewN n) ⟨n, rfl⟩).set0 (i := k + j) (by omega) (x := u % BB) (Nat.mod_lt _ BB_pos) (X := (u : Int) % 4294967296) (by simp [BB_eq]))
          have honly2 := Lib.hid (fun n => (hom.out.drewN n).set (j := k + j) (by omega) (by omega) (.int .u32 ((u : Int) % 4294967296)))
          rw [show u / BB = u / 4294967296 from by rw [BB_eq]] at hst0
          have hst := Lib.hid hst0
          have e1 := wr64 (x := v) (by omega)
          rw [BB_eq] at htl hpl
          have e2 := wr64 (x := t) (by omega)
          have e3 := wr64 (x := p) (by omega)
          have e4 : IntKind.u64.wrap ((v : Int) * t) = (m : Nat) := by
            rw [show ((v : Int) * t) = (m : Nat) from by rw [← hm]; push_cast; rfl]
            exact wr64 (by omega)
          have e5 : IntKind.u64.wrap ((m : Int) + p) = (q : Nat) := by
            rw [show ((m : Int) + p) = (q : Nat) from by rw [← hq]; push_cast; rfl]
            exact wr64 (by omega)
          have e6 : IntKind.u64.wrap ((c : Int) + q) = (u : Nat) := by
            rw [show ((c : Int) + q) = (u : Nat) from by rw [← hu]; push_cast; rfl]
            exact wr64 (by omega)
          have i0 : (0 : Int) ≤ (k : Int) + j := by omega
          have i1 : ((k : Int) + j).toNat = k + j := by omega
          have i2 : IntKind.i64.wrap ((k : Int) + j) = (k : Int) + j := IntWalk.i64_in _ (by omega)
          rw [Nat.zero_add] at c1 f1
          clear ht hp hm hm' hq hu hst0
          go_wp2
          go_quiet ((go_at_call 72; exact Calls.quiet_of_same (LQ.out _)))
          clear e1 e2 e3 e4 e5 e6 i0 i1 i2
          go_wp2
          go_roundw
          case rel => exact ⟨j + 1, u / 4294967296, _, by omega, by go_num, by go_num, by omega, hst, hcz2, Lib.hid (hwin2.out _), Lib.hid (honly2.out _)⟩
          case measure => simp [intOf]; omega
        · have hjn : j = lb + 1 := by omega
          subst hjn
          have hc0 := hcz.out rfl
          subst hc0
          have hst := Lib.hid (hout.out.nextR hin.out LY.out HV.out)
          go_wp2
          go_roundw
          case rel => exact ⟨k + 1, _, by omega, by go_num, hst, hwm, hom⟩
          case measure => simp [intOf]; omega
    · have hkl : k = la := by omega
      subst hkl
      have hfin := hout.out.done (by rw [LX.out]; exact Nat.le_refl _)
      rw [Nat.mul_comm] at hfin
      have HF := Lib.hid hfin
      have hb3 := hb1.trans (honly.out.below (Nat.le_refl _))
      clear hfin
      go_wp2_with fail
      refine Calls.mono (rmake_c _ _ (k + lb + 1) _ _ (hwin.out.rd (Nat.le_refl _) (by omega)) (by omega)) ?_
      rw [HF.out]
      rintro e w4 hp
      obtain ⟨u, rfl, hu, hk⟩ := hp.cn
      have HU := Lib.hid hu
      have hb4 := hb3.trans (hk.mono hb3.size)
      clear hp hu
      go_wp2_with fail
      go_ret
      exact NPost.ofCn HU.out hb4
end Go.Proofs.YtnalmjbgkedcoaaDoor
