/- Carried over from another seat by program (portn.py). -/
import Derived.Test.YtnalmjbgkedcoaaDoorNb
import Derived.Test.YtnalmjbgkedcoaaDoorNy
namespace Go.Proofs.YtnalmjbgkedcoaaDoor
open Go.RowKit
set_option linter.unusedVariables false
theorem nv_set {L : List Nat} {i y : Nat} (h : i < L.length) : nv (L.set i y) + BB ^ i * L.getD i 0 = nv L + BB ^ i * y := by
  rw [nv_take_drop (L.set i y) (i := i) (by rw [List.length_set]; omega), take_set, nv_take_drop L (i := i) (by omega)]
  have e1 : (L.set i y).drop i = y :: L.drop (i + 1) := by
    rw [List.drop_eq_getElem_cons (by rw [List.length_set]; omega), List.drop_set_of_lt (by omega)]
    simp
  have e2 : L.drop i = L.getD i 0 :: L.drop (i + 1) := by
    rw [List.drop_eq_getElem_cons h]
    simp [List.getD_eq_getElem?_getD, h]
  rw [e1, e2, nv, nv, Nat.mul_add, Nat.mul_add]
  omega
theorem or_low {r c y : Nat} (hr : r < 32) (hc : c < 2 ^ r) : c ||| (y * 2 ^ r % 4294967296) = c + y * 2 ^ r % 4294967296 ∧ c + y * 2 ^ r % 4294967296 < 4294967296 := by
  have hd : 2 ^ r ∣ 4294967296 := by
    rw [show (4294967296 : Nat) = 2 ^ 32 from by decide]; exact Nat.pow_dvd_pow 2 (by omega)
  have h0 : y * 2 ^ r % 4294967296 % 2 ^ r = 0 := by rw [Nat.mod_mod_of_dvd _ hd, Nat.mul_mod_left]
  have h1 := nat_join r _ c h0 hc
  have hc2 : c < 2 ^ 32 := Nat.lt_of_lt_of_le hc (Nat.pow_le_pow_right (by decide) (by omega))
  have h2 : y * 2 ^ r % 4294967296 ||| c < 2 ^ 32 := Nat.or_lt_two_pow (Nat.mod_lt _ (by decide)) hc2
  rw [Nat.or_comm]
  omega
/-- the lowest j limbs are shifted -/
structure ShlInv (x L : List Nat) (q P j : Nat) : Prop where
  zero : ∀ i, j + q < i → L.getD i 0 = 0
  top : L.getD (j + q) 0 < P
  sum : nv L = BB ^ q * (P * nv (x.take j))
theorem ShlInv.step {x L : List Nat} {q P j c y : Nat} (h : ShlInv x L q P j) (hn : j + q + 1 < L.length) (hc : L.getD (j + q) 0 = c) (hy : x.getD j 0 = y) (hyl : y < BB) (hP : 0 < P) :
    ShlInv x ((L.set (j + q) (c + y * P % BB)).set (j + q + 1) (y * P / BB)) q P (j + 1) := by
  have a1 := nv_set (L := L) (i := j + q) (y := c + y * P % BB) (by omega)
  have a2 := nv_set (L := L.set (j + q) (c + y * P % BB)) (i := j + q + 1) (y := y * P / BB) (by rw [List.length_set]; omega)
  rw [getD_set_ne (by omega), h.zero _ (by omega)] at a2
  rw [hc] at a1
  have hm := Nat.mod_add_div (y * P) BB
  have hsum := h.sum
  refine ⟨fun i hi => ?_, ?_, ?_⟩
  · rw [getD_set_ne (by omega), getD_set_ne (by omega)]; exact h.zero i (by omega)
  · rw [show j + 1 + q = j + q + 1 from by omega, getD_set_same (by rw [List.length_set]; omega), Nat.div_lt_iff_lt_mul BB_pos, Nat.mul_comm P]
    exact Nat.mul_lt_mul_of_pos_right hyl hP
  · rw [nv_take_succ, hy, Nat.mul_add P, Nat.mul_add (BB ^ q), ← hsum]
    have e1 : BB ^ (j + q + 1) * (y * P / BB) = BB ^ (j + q) * (BB * (y * P / BB)) := by rw [Nat.pow_succ, Nat.mul_assoc]
    have e2 : BB ^ q * (P * (BB ^ j * y)) = BB ^ (j + q) * (y * P) := by
      rw [Nat.add_comm j q, Nat.pow_add, Nat.mul_assoc, Nat.mul_left_comm P, Nat.mul_comm P y]
    rw [e2]
    have e3 : BB ^ (j + q) * (y * P) = BB ^ (j + q) * (y * P % BB) + BB ^ (j + q) * (BB * (y * P / BB)) := by rw [← Nat.mul_add, hm]
    rw [Nat.mul_add] at a1
    rw [e1] at a2
    omega

def shE (k : Int) : Int := if k < 0 ∨ 1048576 < k then 2 else 0
set_option maxHeartbeats 1600000 in
theorem shl_pos (a : Option Addr) (len cap : Nat) (l : List Nat) (k q r : Nat) (w : World) (h : Rd w a len cap l) (hb : len ≤ 1048576) (hk : k ≤ 1048576) (hq : k / 32 = q) (hr : k % 32 = r) (h0 : ¬ (dig (nv l)).length = 0) :
    Calls Tryd.prog 46 #[.slice a len cap, .int .i64 k] w (NEPost (nv l * 2 ^ k) 0 w) := by
  have H := Lib.hid h
  have HT := h.trimmed
  have hle := dig_length_le h.lim
  rw [h.len_eq] at hle
  obtain ⟨x, hx⟩ : ∃ x, dig (nv l) = x := ⟨_, rfl⟩
  have hX : Hid (nv x = nv l) := Lib.hid (by rw [← hx, nv_dig])
  obtain ⟨n, hn⟩ : ∃ n, x.length = n := ⟨_, rfl⟩
  have HX : Hid ((dig (nv l)).length = n) := Lib.hid (by rw [hx, hn])
  have HN := Lib.hid hn
  rw [hx, hn] at HT hle h0
  have HRX := Lib.hid HT
  have hqi : ((k : Int) / 32) = q := by omega
  have hri : ((k : Int) % 32) = r := by omega
  have hq2 : q ≤ 32768 := by omega
  have hr2 : r < 32 := by omega
  obtain ⟨P, hP⟩ : ∃ P, 2 ^ r = P := ⟨_, rfl⟩
  have hPp : 0 < P := by rw [← hP]; exact Nat.two_pow_pos r
  have hPl : P ≤ 2147483648 := by rw [← hP]; exact (Nat.pow_le_pow_right (by decide) (show r ≤ 31 by omega) : 2 ^ r ≤ 2 ^ 31)
  have HP := Lib.hid hP
  have HFIN : Hid (BB ^ q * (P * nv x) = nv l * 2 ^ k) := Lib.hid (by
    rw [← hP, hX.out, BB_pow, ← Nat.mul_assoc, ← Nat.pow_add, Nat.mul_comm, show 32 * q + r = k from by omega])
  have HPI : Hid (((2 : Int) ^ r) = (P : Nat)) := Lib.hid (by rw [← hP]; norm_cast)
  clear h hx hn HT hq hr hP
  go_enter Tryd.func46, Tryd.ntmps46
  go_wp2_with fail
  refine (trim_c _ _ _ l _ H.out).mono ?_
  rw [HX.out]
  rintro e w' ⟨rfl, rfl⟩
  go_wp2_with (at_make; refine wpList_make_win _ rfl _ _ 23 rfl Tryd.underlying23 _ (n + q + 1) rfl rfl (by push_cast; rfl) (by omega) ?_)
  intro w1 hwin1 hb1 hs1
  have HR1 := Lib.hid (HRX.out.below hb1)
  have HF := Lib.hid (HRX.out.far (Nat.le_refl _))
  go_wp2
  go_loopw [36] (fun i wr => ∃ (j : Nat) (L : List Nat), j ≤ n ∧ i = .int .i64 j ∧ Hid (ShlInv x L q P j) ∧ Hid (Win wr w.heap.size 0 (n + q + 1) L) ∧ Hid (Only w.heap.size 0 (0 + (n + q + 1)) w1 wr)) (fun i _ => n - (intOf i).toNat)
  case atStart => exact ⟨0, _, by omega, rfl, Lib.hid ⟨fun i _ => zer_getD _ _, by rw [zer_getD]; exact hPp, by rw [nv_zer]; simp [nv]⟩, hwin1, Lib.hid (Only.refl _ _ _ _)⟩
  case round =>
    obtain ⟨j, L, hj, rfl, hinv, hwin, honly⟩ := hrel
    by_cases hjn : j < n
    · have hr1 := HR1.out.only honly.out HF.out
      rcases hr1.cells with h1 | ⟨b, off, rfl, h1⟩
      · omega
      obtain ⟨y, hy⟩ : ∃ y, x.getD j 0 = y := ⟨_, rfl⟩
      have hc := h1 j hjn
      have hyl : y < 4294967296 := by rw [← hy]; exact hr1.lim.at j
      rw [hy] at hc
      obtain ⟨c, hcc⟩ : ∃ c, L.getD (j + q) 0 = c := ⟨_, rfl⟩
      have hcP : c < P := by rw [← hcc]; exact hinv.out.top
      have hst0 := hinv.out.step (by rw [hwin.out.len_eq]; omega) hcc hy hyl hPp
      have hor := or_low (y := y) hr2 (c := c) (by rw [HP.out]; exact hcP)
      rw [HP.out] at hor
      obtain ⟨W, hW⟩ : ∃ W, y * P = W := ⟨_, rfl⟩
      have hWl : W < 18446744073709551616 := by
        rw [← hW]
        exact Nat.lt_of_lt_of_le (Nat.mul_lt_mul_of_pos_right hyl hPp) (Nat.le_trans (Nat.mul_le_mul_left _ hPl) (by decide))
      have hWi : ((y : Int) * 2 ^ r) = (W : Nat) := by rw [HPI.out, ← hW]; push_cast; rfl
      have hwr : IntKind.u64.wrap ((y : Int) * 2 ^ r) = (W : Nat) := by rw [hWi]; simp [IntKind.wrap, IntKind.bits, IntKind.signed]; omega
      rw [hW] at hst0 hor
      rw [show W % BB = W % 4294967296 from rfl, show W / BB = W / 4294967296 from rfl] at hst0
      obtain ⟨O, hO⟩ : ∃ O, c + W % 4294967296 = O := ⟨_, rfl⟩
      rw [hO] at hst0 hor
      have hob : bits BinOp.or IntKind.u32 (c : Int) ((W : Int) % 4294967296) = (O : Nat) := by
        rw [show ((W : Int) % 4294967296) = ((W % 4294967296 : Nat) : Int) from by omega, u32_or_nat _ _ (by omega) (by omega), hor.1]
      have c1 := hwin.out.cell (j + q) (by omega)
      have f1 := hwin.out.free (j + q) (by omega)
      rw [hcc] at c1
      rw [Nat.zero_add] at c1 f1
      have hw2 := hwin.out.set (i := j + q) (by omega) (x := O) hor.2
      have c2 := hwin.out.cell (j + q + 1) (by omega)
      have f2 := hwin.out.free (j + q + 1) (by omega)
      rw [hinv.out.zero _ (by omega)] at c2
      have hw3 := hw2.set' (i := j + q + 1) (by omega) (x := W / 4294967296) (by rw [BB_eq]; omega) (X := (W : Int) / 4294967296) (by omega)
      have ho2 := (honly.out.set (j := j + q) (by omega) (by omega) (.int .u32 ↑O)).set (j := j + q + 1) (by omega) (by omega) (.int .u32 ((W : Int) / 4294967296))
      rw [Nat.zero_add] at c2 f2
      rw [Nat.zero_add, Nat.zero_add] at hw3
      have HST := Lib.hid hst0
      have HW3 := Lib.hid hw3
      have HO2 := Lib.hid ho2
      clear hy hcc hW hO hw2 hw3 ho2 hst0 hr1 h1 hWi hor
      go_wp2
      go_roundw
      case rel => exact ⟨j + 1, _, by omega, by go_num, HST, HW3, HO2⟩
      case measure => simp [intOf]; omega
    · have hfin : Hid (nv L = nv l * 2 ^ k) := Lib.hid (by
        rw [hinv.out.sum, List.take_of_length_le (by rw [HN.out]; omega)]; exact HFIN.out)
      have hb3 := hb1.trans ((honly.out.below (Nat.le_refl _)))
      go_wp2_with fail
      refine (trim_c _ _ _ _ _ (hwin.out.rd (Nat.le_refl _) (by omega))).mono ?_
      rintro e w4 ⟨rfl, rfl⟩
      go_wp2_with fail
      go_ret2
      rw [← hfin.out]
      exact ⟨_, _, rfl, (hwin.out.rd (Nat.le_refl _) (by omega)).trimmed, hb3⟩
/-- the shifted number, where the shift is valid -/
def shlN (n : Nat) (k : Int) : Nat := if k < 0 ∨ 1048576 < k then 0 else n * 2 ^ k.toNat
theorem shl_c (a : Option Addr) (len cap : Nat) (l : List Nat) (k : Int) (w : World) (h : Rd w a len cap l) (hb : len ≤ 1048576) :
    Calls Tryd.prog 46 #[.slice a len cap, .int .i64 k] w (NEPost (shlN (nv l) k) (shE k) w) := by
  by_cases hk : k < 0 ∨ 1048576 < k
  · have e1 : shlN (nv l) k = 0 := if_pos hk
    have e2 : shE k = 2 := if_pos hk
    rw [e1, e2]
    clear e1 e2 h
    rcases hk with hk | hk
    · go_enter Tryd.func46, Tryd.ntmps46
      go_wp2
      go_ret2
      exact NEPost.nil (Below.refl _ _)
    · have hk2 : ¬ k < 0 := by omega
      go_enter Tryd.func46, Tryd.ntmps46
      go_wp2
      go_ret2
      exact NEPost.nil (Below.refl _ _)
  · have e1 : shlN (nv l) k = nv l * 2 ^ k.toNat := if_neg hk
    have e2 : shE k = 0 := if_neg hk
    rw [e1, e2]
    obtain ⟨m, rfl⟩ : ∃ m : Nat, k = m := ⟨k.toNat, by omega⟩
    rw [Int.toNat_natCast]
    by_cases h0 : (dig (nv l)).length = 0
    · have h1 : nv l = 0 := dig_nil_iff.1 (List.length_eq_zero_iff.1 h0)
      have H := Lib.hid h
      have HZ := Lib.hid h0
      have e3 : nv l * 2 ^ m = 0 := by rw [h1, Nat.zero_mul]
      rw [e3]
      have hk3 : ¬ (m : Int) < 0 := by omega
      have hk4 : ¬ 1048576 < (m : Int) := by omega
      clear e1 e2 e3 h h0 h1 hk
      go_enter Tryd.func46, Tryd.ntmps46
      go_wp2_with fail
      refine (trim_c _ _ _ l _ H.out).mono ?_
      rw [HZ.out]
      rintro e w' ⟨rfl, rfl⟩
      go_wp2_with fail
      go_ret2
      exact NEPost.nil (Below.refl _ _)
    · exact shl_pos a len cap l m (m / 32) (m % 32) w h hb (by omega) rfl rfl h0

theorem nv_drop {l : List Nat} (h : Lim l) {i : Nat} (hi : i ≤ l.length) : nv (l.drop i) = nv l / BB ^ i := by
  have h1 := nv_take_drop l hi
  have h2 := nv_lt (h.take i)
  rw [List.length_take, Nat.min_eq_left hi] at h2
  rw [h1, Nat.add_mul_div_left _ _ (Nat.pow_pos BB_pos), Nat.div_eq_of_lt h2, Nat.zero_add]
theorem nv_two_split (l : List Nat) : ∃ t, nv l = l.getD 0 0 + BB * l.getD 1 0 + BB * BB * t := by
  refine ⟨nv l.tail.tail, ?_⟩
  rw [nv_split l, nv_split l.tail, getD_tail, Nat.mul_add, Nat.zero_add]
  rw [Nat.mul_assoc]
  omega
theorem getD_drop (l : List Nat) (i j : Nat) : (l.drop i).getD j 0 = l.getD (i + j) 0 := by
  simp [List.getD_eq_getElem?_getD]
/-- limb i of a number that is shifted to the right -/
theorem shr_digit {x : List Nat} (hx : Lim x) {q r j : Nat} (hr : r < 32) (hj : j + q ≤ x.length) :
    nv x / (BB ^ q * 2 ^ r) / BB ^ j % BB = (x.getD (j + q) 0 + BB * x.getD (j + q + 1) 0) / 2 ^ r % BB := by
  obtain ⟨t, ht⟩ := nv_two_split (x.drop (j + q))
  rw [getD_drop, getD_drop, Nat.add_zero] at ht
  rw [Nat.div_div_eq_div_mul, Nat.mul_right_comm, ← Nat.pow_add, Nat.add_comm q j, ← Nat.div_div_eq_div_mul, ← nv_drop hx hj, ht]
  obtain ⟨m, hm⟩ : ∃ m, BB = 2 ^ r * m := by
    refine ⟨2 ^ (32 - r), ?_⟩
    rw [← Nat.pow_add, show r + (32 - r) = 32 from by omega]; rfl
  have e : BB * BB * t = 2 ^ r * (BB * (m * t)) := by
    conv => lhs; arg 1; arg 1; rw [hm]
    rw [Nat.mul_assoc, Nat.mul_assoc, Nat.mul_left_comm m]
  rw [e, Nat.add_mul_div_left _ _ (Nat.two_pow_pos r), Nat.add_mul_mod_self_left]
/-- the lowest j limbs are shifted -/
structure ShrInv (x L : List Nat) (q r j : Nat) : Prop where
  sum : nv (L.take j) = nv x / (BB ^ q * 2 ^ r) % BB ^ j
theorem ShrInv.start (x L : List Nat) (q r : Nat) : ShrInv x L q r 0 := ⟨by simp [nv, Nat.mod_one]⟩
theorem ShrInv.step {x L : List Nat} {q r j W : Nat} (h : ShrInv x L q r j) (hx : Lim x) (hr : r < 32) (hj : j < L.length) (hl : j + q ≤ x.length) (hW : x.getD (j + q) 0 + BB * x.getD (j + q + 1) 0 = W) :
    ShrInv x (L.set j (W / 2 ^ r % BB)) q r (j + 1) := by
  refine ⟨?_⟩
  rw [nv_take_succ (L.set _ _), take_set, getD_set_same hj, h.sum, Nat.pow_succ, Nat.mod_mul, shr_digit hx hr hl, hW]
theorem ShrInv.done {x L : List Nat} {q r j n : Nat} (h : ShrInv x L q r j) (hx : Lim x) (hn : x.length = n) (hq : q ≤ n) (hL : L.length = j) (hj : j = n - q) : nv L = nv x / (BB ^ q * 2 ^ r) := by
  have h1 := h.sum
  rw [List.take_of_length_le (by omega)] at h1
  rw [h1, Nat.mod_eq_of_lt]
  have h2 := nv_lt hx
  rw [hn, show n = q + j from by omega, Nat.pow_add] at h2
  rw [Nat.div_lt_iff_lt_mul (Nat.mul_pos (Nat.pow_pos BB_pos) (Nat.two_pow_pos r))]
  have h3 : 1 ≤ 2 ^ r := Nat.two_pow_pos r
  calc nv x < BB ^ q * BB ^ j := h2
    _ = BB ^ j * (BB ^ q * 1) := by rw [Nat.mul_one, Nat.mul_comm]
    _ ≤ BB ^ j * (BB ^ q * 2 ^ r) := Nat.mul_le_mul_left _ (Nat.mul_le_mul_left _ h3)

theorem two_pow_split {k q r : Nat} (hq : k / 32 = q) (hr : k % 32 = r) : 2 ^ k = BB ^ q * 2 ^ r := by
  rw [BB_pow, ← Nat.pow_add, show 32 * q + r = k from by omega]
set_option maxHeartbeats 1600000 in
theorem shr_pos (a : Option Addr) (len cap : Nat) (l : List Nat) (k q r : Nat) (w : World) (h : Rd w a len cap l) (hb : len ≤ 1048576) (hk : k ≤ 1048576) (hq : k / 32 = q) (hr : k % 32 = r) (h0 : q < (dig (nv l)).length) :
    Calls Tryd.prog 98 #[.slice a len cap, .int .i64 k] w (NEPost (nv l / 2 ^ k) 0 w) := by
  have H := Lib.hid h
  have HT := h.trimmed
  have hle := dig_length_le h.lim
  rw [h.len_eq] at hle
  obtain ⟨x, hx⟩ : ∃ x, dig (nv l) = x := ⟨_, rfl⟩
  have hX : Hid (nv x = nv l) := Lib.hid (by rw [← hx, nv_dig])
  obtain ⟨n, hn⟩ : ∃ n, x.length = n := ⟨_, rfl⟩
  have HX : Hid ((dig (nv l)).length = n) := Lib.hid (by rw [hx, hn])
  have HN := Lib.hid hn
  rw [hx, hn] at HT hle h0
  have HRX := Lib.hid HT
  have hqi : ((k : Int) / 32) = q := by omega
  have hri : ((k : Int) % 32) = r := by omega
  have hq2 : q ≤ 32768 := by omega
  have hr2 : r < 32 := by omega
  have HK := Lib.hid (two_pow_split hq hr)
  obtain ⟨m, hm⟩ : ∃ m, n - q = m := ⟨_, rfl⟩
  have HM := Lib.hid hm
  have hmi : ((n : Int) - q) = m := by omega
  have hmb : m ≤ 1048576 := by omega
  have hnm : n = m + q := by omega
  rcases HT.cells with hc | ⟨b, off, rfl, hc⟩
  · omega
  have HC := Lib.hid hc
  clear h hx hn HT hq hr hc hm
  subst hnm
  go_enter Tryd.func98, Tryd.ntmps98
  go_wp2_with fail
  refine (trim_c _ _ _ l _ H.out).mono ?_
  rw [HX.out]
  rintro e w' ⟨rfl, rfl⟩
  go_wp2_with (at_make; refine wpList_make_win _ rfl _ _ 23 rfl Tryd.underlying23 _ m rfl rfl (by first | rfl | (push_cast; omega) | omega) (by omega) ?_)
  intro w1 hwin1 hb1 hs1
  have HBL : Hid (b < w.heap.size) := Lib.hid (World.block_lt_of_cell? w _ (HC.out 0 (by omega)))
  go_wp2
  go_loopw [35] (fun i wr => ∃ (j : Nat) (L : List Nat), j ≤ m ∧ i = .int .i64 j ∧ Hid (ShrInv x L q r j) ∧ Hid (Win wr w.heap.size 0 m L) ∧ Hid (Only w.heap.size 0 (0 + m) w1 wr)) (fun i _ => m - (intOf i).toNat)
  case atStart => exact ⟨0, _, by omega, rfl, Lib.hid (ShrInv.start _ _ _ _), hwin1, Lib.hid (Only.refl _ _ _ _)⟩
  case round =>
    obtain ⟨j, L, hj, rfl, hinv, hwin, honly⟩ := hrel
    by_cases hjm : j < m
    · obtain ⟨x0, hx0⟩ : ∃ x0, x.getD (j + q) 0 = x0 := ⟨_, rfl⟩
      obtain ⟨x1, hx1⟩ : ∃ x1, x.getD (j + q + 1) 0 = x1 := ⟨_, rfl⟩
      have hx0l : x0 < 4294967296 := by rw [← hx0]; exact HRX.out.lim.at _
      have hx1l : x1 < 4294967296 := by rw [← hx1]; exact HRX.out.lim.at _
      have hbelow := hb1.trans (honly.out.below (Nat.le_refl _))
      have c1 := hwin.out.cell j hjm
      have f1 := hwin.out.free j hjm
      have e0 : wr.cell? ⟨b, off + (j + q), none⟩ = some (.int .u32 x0) := by
        rw [hbelow.cell HBL.out, HC.out _ (by omega), hx0]
      by_cases hlast : j + q + 1 < m + q
      · have e1 : wr.cell? ⟨b, off + (j + q + 1), none⟩ = some (.int .u32 x1) := by
          rw [hbelow.cell HBL.out, HC.out _ (by omega), hx1]
        obtain ⟨W, hW⟩ : ∃ W, x0 + 4294967296 * x1 = W := ⟨_, rfl⟩
        have hst := Lib.hid (hinv.out.step HRX.out.lim hr2 (by rw [hwin.out.len_eq]; exact hjm) (by rw [HN.out]; omega) (show x.getD (j + q) 0 + BB * x.getD (j + q + 1) 0 = W by rw [hx0, hx1, BB_eq, hW]))
        have hWl : W < 18446744073709551616 := by omega
        have hor : bits BinOp.or IntKind.u64 (x0 : Int) ((x1 : Int) * 4294967296) = (W : Nat) := by rw [or64' _ _ hx0l hx1l, hW]
        obtain ⟨V, hV⟩ : ∃ V, W / 2 ^ r = V := ⟨_, rfl⟩
        have hVl : V < 18446744073709551616 := by rw [← hV]; exact Nat.lt_of_le_of_lt (Nat.div_le_self _ _) hWl
        have hVi : ((W : Int) / 2 ^ r) = (V : Nat) := by rw [← hV]; norm_cast
        rw [hV] at hst
        have hw2 := Lib.hid (hwin.out.set' (i := j) hjm (x := V % BB) (Nat.mod_lt _ BB_pos) (X := (V : Int) % 4294967296) (by rw [BB_eq]; omega))
        have ho2 := Lib.hid (honly.out.set (j := 0 + j) (by omega) (by omega) (.int .u32 ((V : Int) % 4294967296)))
        rw [Nat.zero_add] at c1 f1 hw2
        rw [Nat.zero_add j] at ho2
        clear hx0 hx1 hV hW
        go_wp2
        go_roundw
        case rel => exact ⟨j + 1, _, by omega, by go_num, hst, hw2, ho2⟩
        case measure => simp [intOf]; omega
      · obtain rfl : x1 = 0 := by rw [← hx1]; exact getD_over (by rw [HN.out]; omega)
        obtain ⟨W, hW⟩ : ∃ W, x0 + 4294967296 * 0 = W := ⟨_, rfl⟩
        have hst := Lib.hid (hinv.out.step HRX.out.lim hr2 (by rw [hwin.out.len_eq]; exact hjm) (by rw [HN.out]; omega) (show x.getD (j + q) 0 + BB * x.getD (j + q + 1) 0 = W by rw [hx0, hx1, BB_eq, hW]))
        have hWl : W < 18446744073709551616 := by omega
        have hor : W = x0 := by omega
        subst hor
        obtain ⟨V, hV⟩ : ∃ V, W / 2 ^ r = V := ⟨_, rfl⟩
        have hVl : V < 18446744073709551616 := by rw [← hV]; exact Nat.lt_of_le_of_lt (Nat.div_le_self _ _) hWl
        have hVi : ((W : Int) / 2 ^ r) = (V : Nat) := by rw [← hV]; norm_cast
        rw [hV] at hst
        have hw2 := Lib.hid (hwin.out.set' (i := j) hjm (x := V % BB) (Nat.mod_lt _ BB_pos) (X := (V : Int) % 4294967296) (by rw [BB_eq]; omega))
        have ho2 := Lib.hid (honly.out.set (j := 0 + j) (by omega) (by omega) (.int .u32 ((V : Int) % 4294967296)))
        rw [Nat.zero_add] at c1 f1 hw2
        rw [Nat.zero_add j] at ho2
        clear hx0 hx1 hV hW
        go_wp2
        go_roundw
        case rel => exact ⟨j + 1, _, by omega, by go_num, hst, hw2, ho2⟩
        case measure => simp [intOf]; omega
    · have hfin : Hid (nv L = nv l / 2 ^ k) := Lib.hid (by
        rw [hinv.out.done HRX.out.lim HN.out (by omega) (by rw [hwin.out.len_eq]; omega) (by omega), HK.out, hX.out])
      have hb3 := hb1.trans ((honly.out.below (Nat.le_refl _)))
      go_wp2_with fail
      refine (trim_c _ _ _ _ _ (hwin.out.rd (Nat.le_refl _) (by omega))).mono ?_
      rintro e w4 ⟨rfl, rfl⟩
      go_wp2_with fail
      go_ret2
      rw [← hfin.out]
      exact ⟨_, _, rfl, (hwin.out.rd (Nat.le_refl _) (by omega)).trimmed, hb3⟩
/-- the shifted number, where the shift is valid -/
def shrN (n : Nat) (k : Int) : Nat := if k < 0 ∨ 1048576 < k then 0 else n / 2 ^ k.toNat
theorem shr_c (a : Option Addr) (len cap : Nat) (l : List Nat) (k : Int) (w : World) (h : Rd w a len cap l) (hb : len ≤ 1048576) :
    Calls Tryd.prog 98 #[.slice a len cap, .int .i64 k] w (NEPost (shrN (nv l) k) (shE k) w) := by
  by_cases hk : k < 0 ∨ 1048576 < k
  · have e1 : shrN (nv l) k = 0 := if_pos hk
    have e2 : shE k = 2 := if_pos hk
    rw [e1, e2]
    clear e1 e2 h
    rcases hk with hk | hk
    · go_enter Tryd.func98, Tryd.ntmps98
      go_wp2
      go_ret2
      exact NEPost.nil (Below.refl _ _)
    · have hk2 : ¬ k < 0 := by omega
      go_enter Tryd.func98, Tryd.ntmps98
      go_wp2
      go_ret2
      exact NEPost.nil (Below.refl _ _)
  · have e1 : shrN (nv l) k = nv l / 2 ^ k.toNat := if_neg hk
    have e2 : shE k = 0 := if_neg hk
    rw [e1, e2]
    obtain ⟨m, rfl⟩ : ∃ m : Nat, k = m := ⟨k.toNat, by omega⟩
    rw [Int.toNat_natCast]
    by_cases h0 : m / 32 < (dig (nv l)).length
    · exact shr_pos a len cap l m (m / 32) (m % 32) w h hb (by omega) rfl rfl h0
    · have e3 : nv l / 2 ^ m = 0 := by
        have h1 := nv_lt (dig_lim (nv l))
        rw [nv_dig] at h1
        rw [Nat.div_eq_of_lt]
        rw [two_pow_split (k := m) rfl rfl]
        have h2 : BB ^ (dig (nv l)).length ≤ BB ^ (m / 32) := Nat.pow_le_pow_right BB_pos (by omega)
        have h3 : BB ^ (m / 32) * 1 ≤ BB ^ (m / 32) * 2 ^ (m % 32) := Nat.mul_le_mul_left _ (Nat.two_pow_pos _)
        omega
      rw [e3]
      have H := Lib.hid h
      obtain ⟨n, hn⟩ : ∃ n, (dig (nv l)).length = n := ⟨_, rfl⟩
      have HN := Lib.hid hn
      obtain ⟨q, hq⟩ : ∃ q, m / 32 = q := ⟨_, rfl⟩
      rw [hn, hq] at h0
      have hqi : ((m : Int) / 32) = q := by omega
      have hk3 : ¬ (m : Int) < 0 := by omega
      have hk4 : ¬ 1048576 < (m : Int) := by omega
      clear e1 e2 e3 h hk hn hq
      go_enter Tryd.func98, Tryd.ntmps98
      go_wp2_with fail
      refine (trim_c _ _ _ l _ H.out).mono ?_
      rw [HN.out]
      rintro e w' ⟨rfl, rfl⟩
      go_wp2_with fail
      go_ret2
      exact NEPost.nil (Below.refl _ _)

/-- the lowest i limbs of a multiple are subtracted -/
structure MsInv (S T L : List Nat) (g i c o : Nat) : Prop where
  carry : c < BB
  borrow : o < 2
  rest : ∀ j, i ≤ j → L.getD j 0 = S.getD j 0
  sum : nv (S.take i) + BB ^ i * (o + c) = nv (L.take i) + g * nv (T.take i)
theorem MsInv.start (S T : List Nat) (g : Nat) : MsInv S T S g 0 0 0 := ⟨BB_pos, by omega, fun _ _ => rfl, by simp [nv]⟩
theorem ms_bound {g t c : Nat} (hg : g < BB) (ht : t < BB) (hc : c < BB) : c + g * t < BB * BB := by
  have h1 : g * t ≤ (BB - 1) * t := Nat.mul_le_mul_right _ (by omega)
  have h2 : (BB - 1) * t ≤ (BB - 1) * (BB - 1) := Nat.mul_le_mul_left _ (by omega)
  rw [BB_eq] at *
  omega
theorem MsInv.step {S T L : List Nat} {g i c o s t v D B : Nat} (h : MsInv S T L g i c o) (hi : i < L.length) (hs : S.getD i 0 = s) (ht : T.getD i 0 = t) (hS : s < BB) (hT : t < BB) (hg : g < BB)
    (hv : c + g * t = v) (hD : sbD s (v % BB) o = D) (hB : sbB s (v % BB) o = B) : MsInv S T (L.set i D) g (i + 1) (v / BB) B := by
  have h1 := sb_eq hS (Nat.mod_lt v BB_pos) h.borrow
  have hb := sbB_lt s (v % BB) o
  rw [hD, hB] at h1
  rw [hB] at hb
  have hv2 : v < BB * BB := by rw [← hv]; exact ms_bound hg hT h.carry
  have hvm := Nat.mod_add_div v BB
  refine ⟨by rw [Nat.div_lt_iff_lt_mul BB_pos]; exact hv2, hb, fun j hj => ?_, ?_⟩
  · rw [getD_set_ne (by omega)]; exact h.rest j (by omega)
  · rw [nv_take_succ (L.set _ _), take_set, getD_set_same hi, nv_take_succ S, nv_take_succ T, hs, ht, Nat.pow_succ]
    have h2 := h.sum
    generalize v % BB = lo at *
    generalize v / BB = hi' at *
    have h3 : BB ^ i * (s + BB * (B + hi')) = BB ^ i * (D + (c + g * t) + o) := by
      rw [hv, ← hvm, Nat.mul_add BB]
      congr 1
      omega
    rw [Nat.mul_add (BB ^ i), Nat.mul_add (BB ^ i), Nat.mul_add (BB ^ i), Nat.mul_add (BB ^ i)] at h3
    rw [Nat.mul_add (BB ^ i)] at h2
    rw [Nat.mul_assoc (BB ^ i), Nat.mul_add g, Nat.mul_left_comm g]
    omega
theorem MsInv.done {S T L : List Nat} {g n c o s D B : Nat} (h : MsInv S T L g n c o) (hL : L.length = n + 1) (hSl : S.length = n + 1) (hT : T.length = n) (hs : S.getD n 0 = s) (hS : s < BB)
    (hD : sbD s c o = D) (hB : sbB s c o = B) : nv S + BB ^ (n + 1) * B = nv (L.set n D) + g * nv T := by
  have h1 := sb_eq hS h.carry h.borrow
  rw [hD, hB] at h1
  have h2 := h.sum
  rw [List.take_of_length_le (by omega : T.length ≤ n)] at h2
  have e1 : nv S = nv (S.take n) + BB ^ n * s := by rw [← hs, ← nv_take_succ, List.take_of_length_le (by omega)]
  have e2 : nv (L.set n D) = nv (L.take n) + BB ^ n * D := by
    have := nv_take_succ (L.set n D) n
    rw [take_set, getD_set_same (by omega), List.take_of_length_le (by rw [List.length_set]; omega)] at this
    exact this
  rw [e1, e2, Nat.pow_succ, Nat.mul_assoc]
  have h3 : BB ^ n * (D + c + o) = BB ^ n * (s + BB * B) := by rw [h1]
  rw [Nat.mul_add (BB ^ n), Nat.mul_add (BB ^ n), Nat.mul_add (BB ^ n)] at h3
  rw [Nat.mul_add (BB ^ n)] at h2
  omega
/-- what mulSub leaves -/
def MsPost (b off n : Nat) (S : List Nat) (G : Nat) (w : World) (e : Ending) (w' : World) : Prop :=
  ∃ (L : List Nat) (o : Nat), o < 2 ∧ e = Ending.returned (.bool ((o : Int) != 0)) ∧ Win w' b off (n + 1) L ∧ nv S + BB ^ (n + 1) * o = nv L + G ∧ Only b off (off + (n + 1)) w w'
set_option maxHeartbeats 800000 in
theorem mulSub_c (b off n cap : Nat) (S : List Nat) (a' : Option Addr) (cap' : Nat) (T : List Nat) (g : Nat) (w : World) (h : Win w b off (n + 1) S) (hcap : n + 1 ≤ cap) (hcm : cap ≤ 9223372036854775807)
    (h' : Rd w a' n cap' T) (hf : Far a' n b) (hg : g < 4294967296) :
    Calls Tryd.prog 103 #[.slice (some ⟨b, off, none⟩) (n + 1) cap, .slice a' n cap', .int .u64 g] w (MsPost b off n S (g * nv T) w) := by
  have HW := Lib.hid h
  have HF := Lib.hid hf
  have HR := Lib.hid h'
  have HS := Lib.hid h.len_eq
  have HT := Lib.hid h'.len_eq
  have hlc' := h'.le_cap
  have hcm' := h'.cap_le
  clear h h' hf
  go_enter Tryd.func103, Tryd.ntmps103
  go_wp2
  go_loopw [14, 7, 8] (fun i s z wr => ∃ (k c o : Nat) (L : List Nat), k ≤ n ∧ i = .int .i64 k ∧ s = .int .u64 c ∧ z = .int .u32 o ∧ c < 4294967296 ∧ o < 2 ∧ Hid (MsInv S T L g k c o) ∧ Hid (Win wr b off (n + 1) L) ∧ Hid (Only b off (off + (n + 1)) w wr)) (fun i _ _ _ => n - (intOf i).toNat)
  case atStart => exact ⟨0, 0, 0, S, by omega, rfl, rfl, rfl, by omega, by omega, Lib.hid (MsInv.start S T g), HW, Lib.hid (Only.refl _ _ _ _)⟩
  case round =>
    obtain ⟨k, c, o, L, hk, rfl, rfl, rfl, hc, ho, hinv, hwin, honly⟩ := hrel
    by_cases hlt : k < n
    · obtain ⟨s, hs⟩ : ∃ s, S.getD k 0 = s := ⟨_, rfl⟩
      obtain ⟨t, ht⟩ : ∃ t, T.getD k 0 = t := ⟨_, rfl⟩
      have hsl : s < BB := by rw [← hs]; exact HW.out.lim.at k
      have htl : t < BB := by rw [← ht]; exact HR.out.lim.at k
      obtain ⟨p, hp⟩ : ∃ p, g * t = p := ⟨_, rfl⟩
      obtain ⟨v, hv⟩ : ∃ v, c + p = v := ⟨_, rfl⟩
      have hvb : v < 18446744073709551616 := by rw [← hv, ← hp]; exact ms_bound hg htl hc
      have hpb : p < 18446744073709551616 := by omega
      have hpi : ((g : Int) * t) = (p : Nat) := by rw [← hp]; push_cast; rfl
      obtain ⟨D, hD⟩ : ∃ D, sbD s (v % BB) o = D := ⟨_, rfl⟩
      obtain ⟨B, hB⟩ : ∃ B, sbB s (v % BB) o = B := ⟨_, rfl⟩
      have hst := Lib.hid (hinv.out.step (by rw [hwin.out.len_eq]; omega) hs ht hsl htl hg (by rw [hp, hv]) hD hB)
      have c1 := hwin.out.cell k (by omega)
      rw [hinv.out.rest k (Nat.le_refl _), hs] at c1
      have f1 := hwin.out.free k (by omega)
      have hr2 := HR.out.only honly.out HF.out
      rcases hr2.cells with h0 | ⟨b', off', e, h0⟩
      · omega
      have c2 := h0 k hlt
      rw [ht] at c2
      have hDl : D < BB := by rw [← hD]; exact sbD_lt _ _ _
      have hBl : B < 2 := by rw [← hB]; exact sbB_lt _ _ _
      have SB0 := sub32_c s (v % BB) o wr hsl (Nat.mod_lt _ (by decide)) ho
      rw [hD, hB, show ((v % BB : Nat) : Int) = (v : Int) % 4294967296 from by rw [BB_eq]; omega] at SB0
      have SB := Lib.hid SB0
      have hwin2 := Lib.hid (hwin.out.set (i := k) (by omega) (x := D) hDl)
      have honly2 := Lib.hid (honly.out.set (j := off + k) (by omega) (by omega) (.int .u32 ↑D))
      have hvi : ((c : Int) + (p : Nat)) = (v : Nat) := by rw [← hv]; push_cast; rfl
      have hcd : v / BB = v / 4294967296 := by rw [BB_eq]
      rw [hcd] at hst
      have hwp : IntKind.u64.wrap ((g : Int) * t) = (p : Nat) := by rw [hpi]; simp [IntKind.wrap, IntKind.bits, IntKind.signed]; omega
      rw [BB_eq] at hsl htl
      clear hs ht hr2 h0 hD hB SB0 hcd hp hv hpi
      subst e
      go_wp2_with (go_at_call 100; refine SB.out.mono ?_; rintro e w' ⟨rfl, rfl⟩)
      go_roundw
      case rel => exact ⟨k + 1, v / 4294967296, B, _, by omega, by go_num, by go_num, rfl, by omega, hBl, hst, hwin2, honly2⟩
      case measure => simp [intOf]; omega
    · obtain ⟨s, hs⟩ : ∃ s, S.getD k 0 = s := ⟨_, rfl⟩
      have hkl : k = n := by omega
      subst hkl
      have hsl : s < BB := by rw [← hs]; exact HW.out.lim.at k
      obtain ⟨D, hD⟩ : ∃ D, sbD s c o = D := ⟨_, rfl⟩
      obtain ⟨B, hB⟩ : ∃ B, sbB s c o = B := ⟨_, rfl⟩
      have hfin := Lib.hid (hinv.out.done hwin.out.len_eq HS.out HT.out hs hsl hD hB)
      have c1 := hwin.out.cell k (by omega)
      rw [hinv.out.rest k (Nat.le_refl _), hs] at c1
      have f1 := hwin.out.free k (by omega)
      have hDl : D < BB := by rw [← hD]; exact sbD_lt _ _ _
      have hBl : B < 2 := by rw [← hB]; exact sbB_lt _ _ _
      have SB0 := sub32_c s c o wr hsl hc ho
      rw [hD, hB] at SB0
      have SB := Lib.hid SB0
      have hwin2 := Lib.hid (hwin.out.set (i := k) (by omega) (x := D) hDl)
      have honly2 := Lib.hid (honly.out.set (j := off + k) (by omega) (by omega) (.int .u32 ↑D))
      clear hs hD hB SB0
      go_wp2_with (go_at_call 100; refine SB.out.mono ?_; rintro e w' ⟨rfl, rfl⟩)
      go_ret
      exact ⟨_, B, hBl, rfl, hwin2.out, hfin.out, honly2.out⟩

/-- the two leading limbs of a divisor, the three of a part; p is the weight of the lower ones -/
structure Lead (U V p u2 u1 u0 v1 v0 : Nat) : Prop where
  hp : 0 < p
  hu2 : u2 < BB
  hu1 : u1 < BB
  hu0 : u0 < BB
  hv1 : v1 < BB
  hv0 : v0 < BB
  hv : 0 < v1
  ulo : ((u2 * BB + u1) * BB + u0) * p ≤ U
  uhi : U < ((u2 * BB + u1) * BB + u0 + 1) * p
  vlo : (v1 * BB + v0) * p ≤ V
  vhi : V < (v1 * BB + v0 + 1) * p
  lt : U < V * BB
/-- an estimate that is not too small -/
structure Est (U V u2 u1 v1 g r : Nat) : Prop where
  top : u2 * BB + u1 = g * v1 + r
  ge : U / V ≤ g
theorem Lead.vpos {U V p u2 u1 u0 v1 v0 : Nat} (h : Lead U V p u2 u1 u0 v1 v0) : 0 < V := by
  have h1 := h.vlo
  have h2 : 1 * 1 ≤ (v1 * BB + v0) * p := Nat.mul_le_mul (by have := Nat.mul_pos h.hv BB_pos; omega) h.hp
  omega
theorem Est.start {U V p u2 u1 u0 v1 v0 : Nat} (h : Lead U V p u2 u1 u0 v1 v0) : Est U V u2 u1 v1 ((u2 * BB + u1) / v1) ((u2 * BB + u1) % v1) := by
  have hv := h.hv
  refine ⟨(Nat.div_add_mod' _ _).symm, ?_⟩
  rw [Nat.le_div_iff_mul_le hv]
  have h1 : U / V * V ≤ U := Nat.div_mul_le_self U V
  generalize U / V = Q at *
  have h2 := h.uhi
  have h3 : Q * ((v1 * BB + v0) * p) ≤ Q * V := Nat.mul_le_mul_left _ h.vlo
  have h4 : Q * (v1 * BB + v0) * p < ((u2 * BB + u1) * BB + u0 + 1) * p := by rw [Nat.mul_assoc]; omega
  have h5 := Nat.lt_of_mul_lt_mul_right h4
  have h6 : Q * v1 * BB ≤ Q * (v1 * BB + v0) := by rw [Nat.mul_add, Nat.mul_assoc]; omega
  have h7 := h.hu0
  have h8 : Q * v1 * BB < (u2 * BB + u1 + 1) * BB := by
    rw [Nat.add_mul (u2 * BB + u1)]; omega
  have := Nat.lt_of_mul_lt_mul_right h8
  omega
theorem Lead.q_lt {U V p u2 u1 u0 v1 v0 : Nat} (h : Lead U V p u2 u1 u0 v1 v0) : U / V < BB := by
  rw [Nat.div_lt_iff_lt_mul h.vpos, Nat.mul_comm]; exact h.lt
theorem Est.step {U V p u2 u1 u0 v1 v0 g r : Nat} (h : Lead U V p u2 u1 u0 v1 v0) (e : Est U V u2 u1 v1 g r) (hc : BB ≤ g ∨ r * BB + u0 < g * v0) : 0 < g ∧ Est U V u2 u1 v1 (g - 1) (r + v1) := by
  have hq := h.q_lt
  have hge := e.ge
  have hg : 0 < g := by
    rcases hc with hc | hc
    · have := BB_pos; omega
    · rcases Nat.eq_zero_or_pos g with h0 | h0
      · subst h0; rw [Nat.zero_mul] at hc; omega
      · exact h0
  obtain ⟨k, rfl⟩ : ∃ k, g = k + 1 := ⟨g - 1, by omega⟩
  refine ⟨hg, ?_, ?_⟩
  · rw [e.top, Nat.add_sub_cancel, Nat.add_mul]; omega
  · rw [Nat.add_sub_cancel]
    rcases hc with hc | hc
    · omega
    · have h1 : U < (k + 1) * V := by
        have h2 := h.uhi
        have h3 : (k + 1) * ((v1 * BB + v0) * p) ≤ (k + 1) * V := Nat.mul_le_mul_left _ h.vlo
        have h4 : (u2 * BB + u1) * BB + u0 + 1 ≤ (k + 1) * (v1 * BB + v0) := by
          rw [e.top, Nat.mul_add, Nat.add_mul, ← Nat.mul_assoc]; omega
        have h5 := Nat.mul_le_mul_right p h4
        rw [Nat.mul_assoc (k + 1)] at h5
        omega
      have := (Nat.div_lt_iff_lt_mul h.vpos).2 h1
      omega
theorem Lead.u2_le {U V p u2 u1 u0 v1 v0 : Nat} (h : Lead U V p u2 u1 u0 v1 v0) : u2 ≤ v1 := by
  have h1 := h.ulo
  have h2 := h.lt
  have h3 := h.vhi
  have h4 : (v1 * BB + v0 + 1) * p ≤ (v1 + 1) * BB * p := Nat.mul_le_mul_right _ (by have := h.hv0; rw [Nat.add_mul]; omega)
  have h5 : u2 * BB * BB * p ≤ ((u2 * BB + u1) * BB + u0) * p := Nat.mul_le_mul_right _ (by rw [Nat.add_mul]; omega)
  have h6 : V * BB ≤ (v1 + 1) * BB * p * BB := Nat.mul_le_mul_right _ (by omega)
  have h7 : u2 * (BB * BB * p) < (v1 + 1) * (BB * BB * p) := by
    have e1 : u2 * (BB * BB * p) = u2 * BB * BB * p := by rw [← Nat.mul_assoc, ← Nat.mul_assoc]
    have e2 : (v1 + 1) * (BB * BB * p) = (v1 + 1) * BB * p * BB := by
      rw [Nat.mul_right_comm ((v1 + 1) * BB), ← Nat.mul_assoc, ← Nat.mul_assoc]
    rw [e1, e2]; omega
  have := Nat.lt_of_mul_lt_mul_right h7
  omega
/-- where the remainder has passed the base, the estimate is a limb -/
theorem Est.broke {U V p u2 u1 u0 v1 v0 g r : Nat} (h : Lead U V p u2 u1 u0 v1 v0) (e : Est U V u2 u1 v1 g r) (hr : BB ≤ r) : g < BB ∧ g * v0 ≤ r * BB + u0 := by
  have h1 := h.u2_le
  have h2 := e.top
  have h3 := h.hu1
  have hg : g < BB := by
    rcases Nat.lt_or_ge g BB with h4 | h4
    · exact h4
    · have h5 : BB * v1 ≤ g * v1 := Nat.mul_le_mul_right _ h4
      have h6 : u2 * BB ≤ v1 * BB := Nat.mul_le_mul_right _ h1
      rw [Nat.mul_comm v1] at h6
      omega
  refine ⟨hg, ?_⟩
  have h7 : g * v0 ≤ BB * BB := Nat.mul_le_mul (by omega) (by have := h.hv0; omega)
  have h8 : BB * BB ≤ r * BB := Nat.mul_le_mul_right _ hr
  omega
/-- the estimate is too great by one at most -/
theorem Est.close {U V p u2 u1 u0 v1 v0 g r : Nat} (h : Lead U V p u2 u1 u0 v1 v0) (e : Est U V u2 u1 v1 g r) (hg : g < BB) (hc : g * v0 ≤ r * BB + u0) : g ≤ U / V + 1 := by
  have h1 : g * (v1 * BB + v0) ≤ (u2 * BB + u1) * BB + u0 := by
    rw [e.top, Nat.mul_add, Nat.add_mul, ← Nat.mul_assoc]; omega
  have h2 := Nat.mul_le_mul_right p h1
  have h3 := h.ulo
  have h4 : g * V ≤ g * ((v1 * BB + v0 + 1) * p) := Nat.mul_le_mul_left _ (Nat.le_of_lt h.vhi)
  have h5 : g * ((v1 * BB + v0 + 1) * p) = g * (v1 * BB + v0) * p + g * p := by
    rw [Nat.add_mul (v1 * BB + v0), Nat.one_mul, Nat.mul_add, Nat.mul_assoc]
  have h6 : g * p < BB * p := Nat.mul_lt_mul_of_pos_right hg h.hp
  have h7 : BB * p ≤ V := by
    have : BB * p ≤ (v1 * BB + v0) * p := Nat.mul_le_mul_right _ (by have := Nat.mul_le_mul_right BB h.hv; omega)
    have := h.vlo
    omega
  have h8 : g * V < U + V := by omega
  have hd := Nat.div_add_mod U V
  have hm := Nat.mod_lt U h.vpos
  generalize U / V = Q at *
  generalize U % V = R at *
  rcases Nat.lt_or_ge (Q + 1) g with h9 | h9
  · have h10 : (Q + 2) * V ≤ g * V := Nat.mul_le_mul_right _ h9
    rw [Nat.add_mul, Nat.mul_comm Q] at h10
    omega
  · exact h9

theorem lead_of {S T : List Nat} {m : Nat} (hS : S.length = m + 3) (hT : T.length = m + 2) (hs : Lim S) (ht : Lim T) (h0 : 0 < T.getD (m + 1) 0) (hlt : nv S < nv T * BB) :
    Lead (nv S) (nv T) (BB ^ m) (S.getD (m + 2) 0) (S.getD (m + 1) 0) (S.getD m 0) (T.getD (m + 1) 0) (T.getD m 0) := by
  have a1 := nv_lt (hs.take m)
  rw [List.length_take, Nat.min_eq_left (by omega)] at a1
  have b1 := nv_lt (ht.take m)
  rw [List.length_take, Nat.min_eq_left (by omega)] at b1
  have eS : nv S = nv (S.take m) + ((S.getD (m + 2) 0 * BB + S.getD (m + 1) 0) * BB + S.getD m 0) * BB ^ m := by
    conv => lhs; rw [← List.take_of_length_le (show S.length ≤ m + 3 by omega), nv_take_succ S (m + 2), nv_take_succ S (m + 1), nv_take_succ S m]
    simp only [Nat.pow_succ, Nat.add_mul]
    simp only [Nat.mul_comm, Nat.mul_left_comm, Nat.mul_assoc]
    omega
  have eT : nv T = nv (T.take m) + (T.getD (m + 1) 0 * BB + T.getD m 0) * BB ^ m := by
    conv => lhs; rw [← List.take_of_length_le (show T.length ≤ m + 2 by omega), nv_take_succ T (m + 1), nv_take_succ T m]
    simp only [Nat.pow_succ, Nat.add_mul]
    simp only [Nat.mul_comm, Nat.mul_left_comm, Nat.mul_assoc]
    omega
  refine ⟨Nat.pow_pos BB_pos, hs.at _, hs.at _, hs.at _, ht.at _, ht.at _, h0, by omega, ?_, by omega, ?_, hlt⟩
  · rw [Nat.add_mul _ 1, Nat.one_mul]; omega
  · rw [Nat.add_mul _ 1, Nat.one_mul]; omega
theorem fin0 {U V l g : Nat} (h : U = l + g * V) (hge : U / V ≤ g) (hV : 0 < V) : U / V = g ∧ l = U % V := by
  have h1 : g ≤ U / V := (Nat.le_div_iff_mul_le hV).2 (by omega)
  have h2 : U / V = g := by omega
  have h3 := Nat.div_add_mod U V
  rw [h2, Nat.mul_comm] at h3
  exact ⟨h2, by omega⟩
theorem fin1 {U V P l g : Nat} (h : U + P = l + g * V) (hl : l < P) (hU : U < P) (hle : g ≤ U / V + 1) (hV : 0 < V) : g = U / V + 1 ∧ (l + V) % P = U % V := by
  have h1 : U < g * V := by omega
  have h2 := (Nat.div_lt_iff_lt_mul hV).2 h1
  have h3 : g = U / V + 1 := by omega
  refine ⟨h3, ?_⟩
  have h4 := Nat.div_add_mod U V
  have h5 : g * V = V * (U / V) + V := by rw [h3, Nat.add_mul, Nat.one_mul, Nat.mul_comm]
  have h6 : l + V = U % V + P := by omega
  rw [h6, Nat.add_mod_right, Nat.mod_eq_of_lt]
  have := Nat.mod_le U V
  omega
/-- what divStep leaves -/
def DsPost (b off n U V : Nat) (w : World) (e : Ending) (w' : World) : Prop :=
  ∃ L : List Nat, e = Ending.returned (.int .u32 ((U / V : Nat) : Int)) ∧ Win w' b off n L ∧ nv L = U % V ∧ Only b off (off + n) w w'
set_option maxHeartbeats 1600000 in
theorem divStep_c (b off m cap : Nat) (S : List Nat) (b' off' cap' : Nat) (T : List Nat) (w : World) (h : Win w b off (m + 3) S) (hcap : m + 3 ≤ cap) (hcm : cap ≤ 9223372036854775807)
    (h' : Rd w (some ⟨b', off', none⟩) (m + 2) cap' T) (hf : b' ≠ b) (h0 : 0 < T.getD (m + 1) 0) (hlt : nv S < nv T * BB) :
    Calls Tryd.prog 97 #[.slice (some ⟨b, off, none⟩) (m + 3) cap, .slice (some ⟨b', off', none⟩) (m + 2) cap'] w (DsPost b off (m + 3) (nv S) (nv T) w) := by
  have HW := Lib.hid h
  have HR := Lib.hid h'
  have HF : Hid (Far (some ⟨b', off', none⟩) (m + 2) b) := Lib.hid (.inr (by rintro y e; injection e with e; subst e; exact hf))
  have hld := lead_of h.len_eq h'.len_eq h.lim h'.lim h0 hlt
  obtain ⟨u2, hu2⟩ : ∃ x, S.getD (m + 2) 0 = x := ⟨_, rfl⟩
  obtain ⟨u1, hu1⟩ : ∃ x, S.getD (m + 1) 0 = x := ⟨_, rfl⟩
  obtain ⟨u0, hu0⟩ : ∃ x, S.getD m 0 = x := ⟨_, rfl⟩
  obtain ⟨v1, hv1⟩ : ∃ x, T.getD (m + 1) 0 = x := ⟨_, rfl⟩
  obtain ⟨v0, hv0⟩ : ∃ x, T.getD m 0 = x := ⟨_, rfl⟩
  have s2 := h.cell (m + 2) (by omega)
  have s1 := h.cell (m + 1) (by omega)
  have s0 := h.cell m (by omega)
  have hlc' := h'.le_cap
  have hcm' := h'.cap_le
  rcases h'.cells with hc | ⟨b2, off2, e, hc⟩
  · omega
  injection e with e
  injection e with e1 e2
  subst e1
  subst e2
  have t1 := hc (m + 1) (by omega)
  have t0 := hc m (by omega)
  rw [hu2] at s2 hld
  rw [hu1] at s1 hld
  rw [hu0] at s0 hld
  rw [hv1] at t1 hld h0
  rw [hv0] at t0 hld
  have HLD := Lib.hid hld
  have q2 := hld.hu2
  have q1 := hld.hu1
  have q0 := hld.hu0
  have p1 := hld.hv1
  have p0 := hld.hv0
  rw [BB_eq] at q2 q1 q0 p1 p0
  have hor1 := or64 u1 u2 q1 q2
  obtain ⟨X, hX⟩ : ∃ X, u1 + 4294967296 * u2 = X := ⟨_, rfl⟩
  rw [hX] at hor1
  have hXl : X < 18446744073709551616 := by omega
  have hst := Est.start hld
  obtain ⟨G, hG⟩ : ∃ G, X / v1 = G := ⟨_, rfl⟩
  obtain ⟨R, hR⟩ : ∃ R, X % v1 = R := ⟨_, rfl⟩
  have hGl : G < 18446744073709551616 := by rw [← hG]; exact Nat.lt_of_le_of_lt (Nat.div_le_self _ _) hXl
  have hRl : R < 4294967296 := by rw [← hR]; have := Nat.mod_lt X h0; omega
  have hGi : IntKind.u64.wrap ((X : Int) / v1) = (G : Nat) := by
    rw [show ((X : Int) / v1) = (G : Nat) from by rw [← hG]; push_cast; rfl]; simp [IntKind.wrap, IntKind.bits, IntKind.signed]; omega
  have HRI : Hid (((X : Int) % v1) = (R : Nat)) := Lib.hid (by rw [← hR]; push_cast; rfl)
  rw [show (u2 * BB + u1) / v1 = G from by rw [show u2 * BB + u1 = X from by rw [BB_eq]; omega]; exact hG, show (u2 * BB + u1) % v1 = R from by rw [show u2 * BB + u1 = X from by rw [BB_eq]; omega]; exact hR] at hst
  have HEST : Hid (Est (nv S) (nv T) u2 u1 v1 G R) := Lib.hid ⟨hst.top, hst.ge⟩
  have HUP : Hid (nv S < BB ^ (m + 3)) := Lib.hid (by have := nv_lt HW.out.lim; rwa [HW.out.len_eq] at this)
  have i1 : (m : Int) + 2 - 1 = (m : Int) + 1 := by omega
  have i2 : (m : Int) + 2 - 2 = (m : Int) := by omega
  have i3 : ((m : Int) + 1).toNat = m + 1 := by omega
  clear h h' hu2 hu1 hu0 hv1 hv0 hc hld hX hst hlt hG hR
  go_enter Tryd.func97, Tryd.ntmps97
  go_wp2_with fail
  go_quiet (fail)
  go_wp2_with fail
  go_quiet (fail)
  go_wp2_with fail
  go_quiet (fail)
  go_wp2_with fail
  go_loopw [9, 10] (fun i z wr => ∃ (g r : Nat), i = .int .u64 g ∧ z = .int .u64 r ∧ g < 18446744073709551616 ∧ r < 4294967296 ∧ Hid (Est (nv S) (nv T) u2 u1 v1 g r) ∧ Dr w wr) (fun i _ _ => (intOf i).toNat)
  case atStart => exact ⟨G, R, rfl, val_int HRI.out, hGl, hRl, Lib.hid HEST.out, ((Dr.refl w).more _).more _ |>.more _⟩
  case round =>
    obtain ⟨g, r, rfl, rfl, hg, hr, hest, hdr⟩ := hrel
    rw [← hdr.cell] at s0
    have or2 := or64 u0 r q0 hr
    obtain ⟨Y, hY⟩ : ∃ Y, u0 + 4294967296 * r = Y := ⟨_, rfl⟩
    rw [hY] at or2
    have hYl : Y < 18446744073709551616 := by omega
    by_cases hgb : 4294967296 ≤ g
    · obtain ⟨hgp, hes⟩ := hest.out.step HLD.out (.inl hgb)
      obtain ⟨k, rfl⟩ : ∃ k, g = k + 1 := ⟨g - 1, by omega⟩
      rw [Nat.add_sub_cancel] at hes
      have HES := Lib.hid hes
      have hnz : (((k + 1 : Nat) : Int) / 4294967296 != 0) = true := by rw [bne_iff_ne]; omega
      have ek : ((k + 1 : Nat) : Int) - 1 = k := by omega
      clear hes
      by_cases hbr : 4294967296 ≤ r + v1
      · have hnz2 : ((((r : Int) + v1) / 4294967296) != 0) = true := by rw [bne_iff_ne]; omega
        have HB := Lib.hid (HES.out.broke HLD.out (by rw [BB_eq]; exact hbr))
        have hkl : k < 4294967296 := HB.out.1
        have HCLO := Lib.hid (HES.out.close HLD.out HB.out.1 HB.out.2)
        have MS := Lib.hid (mulSub_c b off (m + 2) cap S (some ⟨b', off', none⟩) cap' T k wr (HW.out.dr hdr) hcap hcm (hdr.rd HR.out) HF.out hkl)
        go_wp2_with fail
        refine MS.out.mono ?_
        rintro e w3 ⟨L, o, ho, rfl, hwin, hsum, honly⟩
        have HWN := Lib.hid hwin
        have HON := Lib.hid honly
        have HSM := Lib.hid hsum
        clear hwin honly hsum
        by_cases ho0 : o = 0
        · subst ho0
          have hf0 := fin0 (by have := HSM.out; rw [Nat.mul_zero, Nat.add_zero] at this; exact this) HES.out.ge HLD.out.vpos
          have HF0 := Lib.hid hf0
          clear hf0
          go_wp2_with fail
          go_ret
          exact ⟨L, ret_int (by rw [HF0.out.1] <;> first | rfl | (push_cast; omega) | omega), HWN.out, HF0.out.2, (Only.refl b off (off + (m + 3)) w).dr hdr |>.trans HON.out⟩
        · have ho1 : o = 1 := by omega
          subst ho1
          have hf1 := fin1 (P := BB ^ (m + 3)) (by have := HSM.out; rw [Nat.mul_one] at this; exact this) (by have := nv_lt HWN.out.lim; rwa [HWN.out.len_eq] at this) HUP.out HCLO.out HLD.out.vpos
          have HF1 := Lib.hid hf1
          clear hf1
          obtain ⟨Q, hQ⟩ : ∃ Q, nv S / nv T = Q := ⟨_, rfl⟩
          have hgq := HF1.out.1
          rw [hQ] at hgq
          have HQ := Lib.hid hQ
          have AI := Lib.hid (addInto_c b off (m + 3) cap L (some ⟨b', off', none⟩) (m + 2) cap' T w3 HWN.out hcap hcm ((hdr.rd HR.out).only HON.out HF.out) HF.out (by omega))
          clear hQ
          go_wp2_with fail
          refine AI.out.mono ?_
          rintro e w4 ⟨rfl, L2, hwin2, hL2, honly2⟩
          go_wp2_with fail
          go_ret
          exact ⟨L2, ret_int (by rw [HQ.out] <;> first | rfl | (push_cast; omega) | omega), hwin2, by rw [hL2]; exact HF1.out.2, ((Only.refl b off (off + (m + 3)) w).dr hdr |>.trans HON.out).trans honly2⟩
      · have hnz2 : ((((r : Int) + v1) / 4294967296) != 0) = false := by rw [bne_eq_false_iff_eq]; omega
        go_wp2
        go_roundw
        case rel => exact ⟨k, r + v1, by go_num, by go_num, by omega, by omega, HES, hdr⟩
        case measure => simp [intOf]
    · have hz : ((g : Int) / 4294967296 != 0) = false := by rw [bne_eq_false_iff_eq]; omega
      obtain ⟨pv, hpv⟩ : ∃ pv, g * v0 = pv := ⟨_, rfl⟩
      have hpl : pv < 18446744073709551616 := by
        rw [← hpv]
        exact Nat.lt_of_le_of_lt (Nat.mul_le_mul (show g ≤ 4294967295 by omega) (show v0 ≤ 4294967295 by omega)) (by decide)
      have hpi : IntKind.u64.wrap ((g : Int) * v0) = (pv : Nat) := by
        rw [show ((g : Int) * v0) = (pv : Nat) from by rw [← hpv]; push_cast; rfl]; simp [IntKind.wrap, IntKind.bits, IntKind.signed]; omega
      by_cases hgt : Y < pv
      · obtain ⟨hgp, hes⟩ := hest.out.step HLD.out (.inr (by rw [BB_eq, hpv]; omega))
        obtain ⟨k, hk⟩ : ∃ k, g - 1 = k := ⟨_, rfl⟩
        rw [hk] at hes
        have HES := Lib.hid hes
        have ek : (g : Int) - 1 = k := by omega
        have hkg : k < g := by omega
        clear hes hpv hY hk
        by_cases hbr : 4294967296 ≤ r + v1
        · have hnz2 : ((((r : Int) + v1) / 4294967296) != 0) = true := by rw [bne_iff_ne]; omega
          have HB := Lib.hid (HES.out.broke HLD.out (by rw [BB_eq]; exact hbr))
          have hkl : k < 4294967296 := HB.out.1
          have HCLO := Lib.hid (HES.out.close HLD.out HB.out.1 HB.out.2)
          have MS := Lib.hid (mulSub_c b off (m + 2) cap S (some ⟨b', off', none⟩) cap' T k wr (HW.out.dr hdr) hcap hcm (hdr.rd HR.out) HF.out hkl)
          go_wp2_with fail
          refine MS.out.mono ?_
          rintro e w3 ⟨L, o, ho, rfl, hwin, hsum, honly⟩
          have HWN := Lib.hid hwin
          have HON := Lib.hid honly
          have HSM := Lib.hid hsum
          clear hwin honly hsum
          by_cases ho0 : o = 0
          · subst ho0
            have hf0 := fin0 (by have := HSM.out; rw [Nat.mul_zero, Nat.add_zero] at this; exact this) HES.out.ge HLD.out.vpos
            have HF0 := Lib.hid hf0
            clear hf0
            go_wp2_with fail
            go_ret
            exact ⟨L, ret_int (by rw [HF0.out.1] <;> first | rfl | (push_cast; omega) | omega), HWN.out, HF0.out.2, (Only.refl b off (off + (m + 3)) w).dr hdr |>.trans HON.out⟩
          · have ho1 : o = 1 := by omega
            subst ho1
            have hf1 := fin1 (P := BB ^ (m + 3)) (by have := HSM.out; rw [Nat.mul_one] at this; exact this) (by have := nv_lt HWN.out.lim; rwa [HWN.out.len_eq] at this) HUP.out HCLO.out HLD.out.vpos
            have HF1 := Lib.hid hf1
            clear hf1
            obtain ⟨Q, hQ⟩ : ∃ Q, nv S / nv T = Q := ⟨_, rfl⟩
            have hgq := HF1.out.1
            rw [hQ] at hgq
            have HQ := Lib.hid hQ
            have AI := Lib.hid (addInto_c b off (m + 3) cap L (some ⟨b', off', none⟩) (m + 2) cap' T w3 HWN.out hcap hcm ((hdr.rd HR.out).only HON.out HF.out) HF.out (by omega))
            clear hQ
            go_wp2_with fail
            refine AI.out.mono ?_
            rintro e w4 ⟨rfl, L2, hwin2, hL2, honly2⟩
            go_wp2_with fail
            go_ret
            exact ⟨L2, ret_int (by rw [HQ.out] <;> first | rfl | (push_cast; omega) | omega), hwin2, by rw [hL2]; exact HF1.out.2, ((Only.refl b off (off + (m + 3)) w).dr hdr |>.trans HON.out).trans honly2⟩
        · have hnz2 : ((((r : Int) + v1) / 4294967296) != 0) = false := by rw [bne_eq_false_iff_eq]; omega
          go_wp2
          go_roundw
          case rel => exact ⟨k, r + v1, by go_num, by go_num, by omega, by omega, HES, hdr⟩
          case measure => simp [intOf]; omega
      · have hgl : g < 4294967296 := by omega
        have HCLO := Lib.hid (hest.out.close HLD.out hgl (by rw [BB_eq, hpv]; omega))
        clear hpv hY
        have MS := Lib.hid (mulSub_c b off (m + 2) cap S (some ⟨b', off', none⟩) cap' T g wr (HW.out.dr hdr) hcap hcm (hdr.rd HR.out) HF.out hgl)
        go_wp2_with fail
        refine MS.out.mono ?_
        rintro e w3 ⟨L, o, ho, rfl, hwin, hsum, honly⟩
        have HWN := Lib.hid hwin
        have HON := Lib.hid honly
        have HSM := Lib.hid hsum
        clear hwin honly hsum
        by_cases ho0 : o = 0
        · subst ho0
          have hf0 := fin0 (by have := HSM.out; rw [Nat.mul_zero, Nat.add_zero] at this; exact this) hest.out.ge HLD.out.vpos
          have HF0 := Lib.hid hf0
          clear hf0
          go_wp2_with fail
          go_ret
          exact ⟨L, ret_int (by rw [HF0.out.1] <;> first | rfl | (push_cast; omega) | omega), HWN.out, HF0.out.2, (Only.refl b off (off + (m + 3)) w).dr hdr |>.trans HON.out⟩
        · have ho1 : o = 1 := by omega
          subst ho1
          have hf1 := fin1 (P := BB ^ (m + 3)) (by have := HSM.out; rw [Nat.mul_one] at this; exact this) (by have := nv_lt HWN.out.lim; rwa [HWN.out.len_eq] at this) HUP.out HCLO.out HLD.out.vpos
          have HF1 := Lib.hid hf1
          clear hf1
          obtain ⟨Q, hQ⟩ : ∃ Q, nv S / nv T = Q := ⟨_, rfl⟩
          have hgq := HF1.out.1
          rw [hQ] at hgq
          have HQ := Lib.hid hQ
          have AI := Lib.hid (addInto_c b off (m + 3) cap L (some ⟨b', off', none⟩) (m + 2) cap' T w3 HWN.out hcap hcm ((hdr.rd HR.out).only HON.out HF.out) HF.out (by omega))
          clear hQ
          go_wp2_with fail
          refine AI.out.mono ?_
          rintro e w4 ⟨rfl, L2, hwin2, hL2, honly2⟩
          go_wp2_with fail
          go_ret
          exact ⟨L2, ret_int (by rw [HQ.out] <;> first | rfl | (push_cast; omega) | omega), hwin2, by rw [hL2]; exact HF1.out.2, ((Only.refl b off (off + (m + 3)) w).dr hdr |>.trans HON.out).trans honly2⟩

theorem nv_drop_step {l : List Nat} {k : Nat} (h : k < l.length) : nv (l.drop k) = l.getD k 0 + BB * nv (l.drop (k + 1)) := by
  have e2 : l.drop k = l.getD k 0 :: l.drop (k + 1) := by
    rw [List.drop_eq_getElem_cons h]
    simp [List.getD_eq_getElem?_getD, h]
  rw [e2, nv]
/-- the limbs from k on are divided -/
structure DlInv (x L : List Nat) (v k r : Nat) : Prop where
  rest : r < v
  sum : nv (x.drop k) = nv (L.drop k) * v + r
theorem DlInv.start {x L : List Nat} {v n : Nat} (hv : 0 < v) (hx : x.length = n) (hL : L.length = n) : DlInv x L v n 0 :=
  ⟨hv, by rw [List.drop_of_length_le (by omega), List.drop_of_length_le (by omega)]; simp [nv]⟩
theorem DlInv.step {x L : List Nat} {v k r y W : Nat} (h : DlInv x L v (k + 1) r) (hx : k < x.length) (hL : k < L.length) (hy : x.getD k 0 = y) (hW : y + BB * r = W) (hyl : y < BB) (hv : 0 < v) :
    DlInv x (L.set k (W / v)) v k (W % v) ∧ W / v < BB := by
  have h1 := h.sum
  have h2 := Nat.div_add_mod W v
  have h3 := h.rest
  refine ⟨⟨Nat.mod_lt _ hv, ?_⟩, ?_⟩
  · rw [nv_drop_step hx, nv_drop_step (l := L.set k (W / v)) (by rw [List.length_set]; exact hL), getD_set_same hL, List.drop_set_of_lt (by omega), hy, h1]
    have e : BB * (nv (L.drop (k + 1)) * v + r) = BB * nv (L.drop (k + 1)) * v + BB * r := by rw [Nat.mul_add, Nat.mul_assoc]
    rw [e, Nat.add_mul, Nat.mul_comm (W / v)]
    omega
  · rw [Nat.div_lt_iff_lt_mul hv, ← hW]
    have : BB * (r + 1) ≤ BB * v := Nat.mul_le_mul_left _ h3
    rw [Nat.mul_add] at this
    omega
theorem DlInv.done {x L : List Nat} {v r : Nat} (h : DlInv x L v 0 r) : nv L = nv x / v ∧ r = nv x % v := by
  have h1 := h.sum
  simp only [List.drop_zero] at h1
  rw [h1]
  have h2 := h.rest
  have hv : 0 < v := by omega
  rw [Nat.mul_comm, Nat.mul_add_div hv, Nat.div_eq_of_lt h2, Nat.mul_add_mod, Nat.mod_eq_of_lt h2]
  simp
/-- what divLimb answers -/
def DlPost (q r : Nat) (w : World) (e : Ending) (w' : World) : Prop := ∃ a cap, e = Ending.returned (.tuple #[.slice a (dig q).length cap, .int .u32 r]) ∧ Rd w' a (dig q).length cap (dig q) ∧ Below w.heap.size w w'
set_option maxHeartbeats 1600000 in
theorem divLimb_c (a : Option Addr) (n cap : Nat) (x : List Nat) (v : Nat) (w : World) (h : Rd w a n cap x) (hb : n ≤ 1048576) (hv : 0 < v) (hvl : v < 4294967296) :
    Calls Tryd.prog 83 #[.slice a n cap, .int .u32 v] w (DlPost (nv x / v) (nv x % v) w) := by
  have H := Lib.hid h
  have HN := Lib.hid h.len_eq
  clear h
  go_enter Tryd.func83, Tryd.ntmps83
  go_wp2_with (at_make; refine wpList_make_win _ rfl _ _ 23 rfl Tryd.underlying23 _ n rfl rfl rfl (by omega) ?_)
  intro w1 hwin1 hb1 hs1
  have HR1 := Lib.hid (H.out.below hb1)
  have HF := Lib.hid (H.out.far (Nat.le_refl _))
  go_wp2
  go_loopw [8, 7] (fun i z wr => ∃ (k r : Nat) (L : List Nat), k ≤ n ∧ i = .int .i64 ((k : Int) - 1) ∧ z = .int .u64 r ∧ r < 4294967296 ∧ Hid (DlInv x L v k r) ∧ Hid (Win wr w.heap.size 0 n L) ∧ Hid (Only w.heap.size 0 (0 + n) w1 wr)) (fun i _ _ => (intOf i + 1).toNat)
  case atStart => exact ⟨n, 0, _, by omega, by go_num, rfl, by omega, Lib.hid (DlInv.start hv HN.out (zer_length n)), hwin1, Lib.hid (Only.refl _ _ _ _)⟩
  case round =>
    obtain ⟨k, r, L, hk, rfl, rfl, hr, hinv, hwin, honly⟩ := hrel
    by_cases hk0 : k = 0
    · subst hk0
      have hfin := Lib.hid hinv.out.done
      have hb3 := hb1.trans (honly.out.below (Nat.le_refl _))
      go_wp2_with fail
      refine (trim_c _ _ _ _ _ (hwin.out.rd (Nat.le_refl _) (by omega))).mono ?_
      rintro e w4 ⟨rfl, rfl⟩
      go_wp2_with fail
      go_ret2
      rw [← hfin.out.1, ← hfin.out.2]
      exact ⟨_, _, rfl, (hwin.out.rd (Nat.le_refl _) (by omega)).trimmed, hb3⟩
    obtain ⟨j, rfl⟩ : ∃ j, k = j + 1 := ⟨k - 1, by omega⟩
    have ej : ((j + 1 : Nat) : Int) - 1 = j := by omega
    rw [ej]
    clear ej
    have hr1 := HR1.out.only honly.out HF.out
    rcases hr1.cells with h1 | ⟨b, off, rfl, h1⟩
    · omega
    obtain ⟨y, hy⟩ : ∃ y, x.getD j 0 = y := ⟨_, rfl⟩
    have hc := h1 j (by omega)
    have hyl : y < 4294967296 := by rw [← hy]; exact hr1.lim.at j
    rw [hy] at hc
    have hor := or64 y r hyl hr
    obtain ⟨W, hW⟩ : ∃ W, y + 4294967296 * r = W := ⟨_, rfl⟩
    rw [hW] at hor
    have hWl : W < 18446744073709551616 := by omega
    obtain ⟨hst, hdl⟩ := hinv.out.step (W := W) (by rw [HN.out]; omega) (by rw [hwin.out.len_eq]; omega) hy (by rw [BB_eq]; exact hW) hyl hv
    obtain ⟨D, hD⟩ : ∃ D, W / v = D := ⟨_, rfl⟩
    obtain ⟨R, hR⟩ : ∃ R, W % v = R := ⟨_, rfl⟩
    have hRl : R < 4294967296 := by rw [← hR]; have := Nat.mod_lt W hv; omega
    have hqw : IntKind.u64.wrap ((W : Int) / v) = (D : Nat) := by
      rw [show ((W : Int) / v) = (D : Nat) from by rw [← hD]; push_cast; rfl]
      rw [hD, BB_eq] at hdl
      simp [IntKind.wrap, IntKind.bits, IntKind.signed]; omega
    have HRI : Hid (((W : Int) % v) = (R : Nat)) := Lib.hid (by rw [← hR]; push_cast; rfl)
    rw [hD, hR] at hst
    rw [hD] at hdl
    have HST := Lib.hid hst
    have c1 := hwin.out.cell j (by omega)
    have f1 := hwin.out.free j (by omega)
    have hw2 := hwin.out.set (i := j) (by omega) (x := D) hdl
    have HO2 := Lib.hid (honly.out.set (j := j) (by omega) (by omega) (.int .u32 ↑D))
    rw [Nat.zero_add] at c1 f1 hw2
    have HW2 := Lib.hid hw2
    rw [BB_eq] at hdl
    clear hy hW hD hR hw2 hst hr1 h1
    go_wp2
    go_roundw
    case rel => exact ⟨j, R, _, by omega, by go_num, val_int HRI.out, hRl, HST, HW2, HO2⟩
    case measure => simp [intOf]

/-- the limbs from k on of the quotient Q are there; L holds what is left; V is the divisor, of n limbs -/
structure LdInv (A V n : Nat) (L Q : List Nat) (k : Nat) : Prop where
  lt : nv (L.drop k) < V
  sum : A = nv (L.take k) + BB ^ k * (V * nv (Q.drop k) + nv (L.drop k))
theorem LdInv.start {A V n k : Nat} {L Q : List Nat} (hA : nv L = A) (hk : k ≤ L.length) (hQ : Q.length = k) (hlt : A < BB ^ k * V) : LdInv A V n L Q k := by
  have h1 := nv_take_drop L hk
  refine ⟨?_, ?_⟩
  · have h2 : BB ^ k * nv (L.drop k) < BB ^ k * V := by omega
    exact Nat.lt_of_mul_lt_mul_left h2
  · rw [List.drop_of_length_le (by omega : Q.length ≤ k)]
    simp only [nv, Nat.mul_zero, Nat.zero_add]
    omega
/-- the part that the next step divides -/
theorem LdInv.part {A V n : Nat} {L Q : List Nat} {k : Nat} (h : LdInv A V n L Q (k + 1)) (hV : V ≤ BB ^ n) (hl : Lim L) (hk : k + n + 1 ≤ L.length) :
    nv ((L.drop k).take (n + 1)) = nv (L.drop k) ∧ nv (L.drop k) < V * BB := by
  have h1 := nv_drop_step (l := L) (k := k) (by omega)
  have h2 := hl.at k
  have h3 := h.lt
  have h4 : BB * (nv (L.drop (k + 1)) + 1) ≤ BB * V := Nat.mul_le_mul_left _ h3
  rw [Nat.mul_add] at h4
  have h5 : nv (L.drop k) < V * BB := by rw [Nat.mul_comm V]; omega
  refine ⟨nv_take_all (l := L) ?_, h5⟩
  have h6 : V * BB ≤ BB ^ n * BB := Nat.mul_le_mul_right _ hV
  rw [Nat.pow_succ]
  exact Nat.lt_of_lt_of_le h5 h6
theorem LdInv.step {A V n : Nat} {L Q M : List Nat} {k : Nat} (h : LdInv A V n L Q (k + 1)) (hV : V ≤ BB ^ n) (hV0 : 0 < V) (hl : Lim L) (hm : Lim M) (hk : k + n + 1 ≤ L.length) (hQ : k < Q.length) (hM : M.length = n + 1)
    (hv : nv M = nv ((L.drop k).take (n + 1)) % V) :
    LdInv A V n (L.take k ++ M ++ L.drop (k + (n + 1))) (Q.set k (nv ((L.drop k).take (n + 1)) / V)) k := by
  obtain ⟨hp, hlt⟩ := h.part hV hl hk
  rw [hp] at hv ⊢
  have h0 : (L.take k).length = k := by simp; omega
  have ht : (L.take k ++ M ++ L.drop (k + (n + 1))).take k = L.take k := by
    rw [List.append_assoc, List.take_append_of_le_length (by omega), List.take_of_length_le (by omega)]
  have hd : nv ((L.take k ++ M ++ L.drop (k + (n + 1))).drop k) = nv M := by
    rw [List.append_assoc, List.drop_append_of_le_length (by omega), List.drop_of_length_le (by omega), List.nil_append, nv_append, hM]
    have h2 := nv_take_drop (L.drop k) (i := n + 1) (by simp; omega)
    rw [hp, List.drop_drop] at h2
    have h3 : BB ^ (n + 1) * nv (L.drop (k + (n + 1))) = 0 := by omega
    rw [h3, Nat.add_zero]
  refine ⟨by rw [hd, hv]; exact Nat.mod_lt _ hV0, ?_⟩
  rw [ht, hd, hv, nv_drop_step (l := Q.set k _) (by rw [List.length_set]; exact hQ), getD_set_same hQ, List.drop_set_of_lt (by omega)]
  have h4 := h.sum
  have h5 := nv_drop_step (l := L) (k := k) (by omega)
  have h6 := Nat.div_add_mod (nv (L.drop k)) V
  rw [nv_take_succ, Nat.pow_succ] at h4
  generalize nv (L.drop k) / V = d at *
  generalize nv (L.drop k) % V = r at *
  have e1 : V * (d + BB * nv (Q.drop (k + 1))) + r = nv (L.drop k) + BB * (V * nv (Q.drop (k + 1))) := by
    rw [Nat.mul_add, Nat.mul_left_comm V BB]; omega
  rw [e1, h5, h4, Nat.mul_assoc (BB ^ k), Nat.mul_add (BB ^ k), Nat.mul_add (BB ^ k), Nat.mul_add BB, Nat.mul_add (BB ^ k)]
  omega
theorem LdInv.done {A V n : Nat} {L Q : List Nat} (h : LdInv A V n L Q 0) : nv Q = A / V ∧ nv L = A % V := by
  have h1 := h.sum
  have h2 := h.lt
  simp only [List.drop_zero, List.take_zero, Nat.pow_zero, Nat.one_mul, nv, Nat.zero_add] at h1 h2
  have hV : 0 < V := by omega
  rw [h1, Nat.mul_add_div hV, Nat.div_eq_of_lt h2, Nat.mul_add_mod, Nat.mod_eq_of_lt h2]
  simp

theorem Win.only {w w' : World} {b off n : Nat} {L : List Nat} (h : Win w b off n L) {b2 lo up : Nat} (ho : Only b2 lo up w w') (hne : b ≠ b2) : Win w' b off n L := by
  have e := ho.block b hne
  exact ⟨h.len_eq, h.lim, fun i hi => (World.cell?_of_block (w := w) (a := ⟨b, off + i, none⟩) e).trans (h.cell i hi), fun i hi => (World.frozen?_of_block (w := w) (a := ⟨b, off + i, none⟩) e).trans (h.free i hi)⟩
theorem Win.below {w w' : World} {b off n : Nat} {L : List Nat} (h : Win w b off n L) (hb : Below w.heap.size w w') (h0 : b < w.heap.size) : Win w' b off n L := by
  have e := hb.block b h0
  exact ⟨h.len_eq, h.lim, fun i hi => (World.cell?_of_block (w := w) (a := ⟨b, off + i, none⟩) e).trans (h.cell i hi), fun i hi => (World.frozen?_of_block (w := w) (a := ⟨b, off + i, none⟩) e).trans (h.free i hi)⟩
/-- the shift that sets the highest bit -/
theorem shift_facts {y : List Nat} {m : Nat} (hl : Lim y) (hn : y.length = m + 2) (h0 : y.getD (m + 1) 0 ≠ 0) :
    bl (y.getD (m + 1) 0) ≤ 32 ∧ nv y * 2 ^ (32 - bl (y.getD (m + 1) 0)) < BB ^ (m + 2) ∧ BB ^ (m + 1) ≤ nv y ∧ (dig (nv y * 2 ^ (32 - bl (y.getD (m + 1) 0)))).length = m + 2 := by
  have h1 : bl (y.getD (m + 1) 0) ≤ 32 := bl_le (hl.at _)
  have h2 := bl_top hl hn h0
  have h3 := lt_bl (nv y)
  have h4 : nv y * 2 ^ (32 - bl (y.getD (m + 1) 0)) < BB ^ (m + 2) := by
    rw [h2] at h3
    have h5 := Nat.mul_lt_mul_of_pos_right h3 (Nat.two_pow_pos (32 - bl (y.getD (m + 1) 0)))
    rw [← Nat.pow_add, show 32 * (m + 1) + bl (y.getD (m + 1) 0) + (32 - bl (y.getD (m + 1) 0)) = 32 * (m + 2) from by omega, ← BB_pow] at h5
    exact h5
  have h6 : BB ^ (m + 1) ≤ nv y := by
    have := nv_ge (l := y) (by intro h; rw [h] at hn; simp at hn) (by rw [hn]; exact h0)
    rwa [hn] at this
  refine ⟨h1, h4, h6, ?_⟩
  have h7 := dig_len_of h4
  rcases Nat.lt_or_ge (dig (nv y * 2 ^ (32 - bl (y.getD (m + 1) 0)))).length (m + 2) with h8 | h8
  · have h9 := nv_lt (dig_lim (nv y * 2 ^ (32 - bl (y.getD (m + 1) 0))))
    rw [nv_dig] at h9
    have h10 : BB ^ (dig (nv y * 2 ^ (32 - bl (y.getD (m + 1) 0)))).length ≤ BB ^ (m + 1) := Nat.pow_le_pow_right BB_pos (by omega)
    have h11 : nv y * 1 ≤ nv y * 2 ^ (32 - bl (y.getD (m + 1) 0)) := Nat.mul_le_mul_left _ (Nat.two_pow_pos _)
    omega
  · omega
theorem Only.far {b lo up : Nat} {w w' : World} (h : Only b lo up w w') {a : Option Addr} {len cap : Nat} {l : List Nat} (hr : Rd w a len cap l) (hb : w.heap.size ≤ b) : Rd w' a len cap l := hr.only h (hr.far hb)
/-- what divLong answers -/
def DvPost (q r : Nat) (w : World) (e : Ending) (w' : World) : Prop :=
  ∃ a cap a2 cap2, e = Ending.returned (.tuple #[.slice a (dig q).length cap, .slice a2 (dig r).length cap2]) ∧ Rd w' a (dig q).length cap (dig q) ∧ Rd w' a2 (dig r).length cap2 (dig r) ∧ Below w.heap.size w w'

set_option maxHeartbeats 1600000 in
theorem divLong_c (a : Option Addr) (la ca : Nat) (x : List Nat) (a' : Option Addr) (m cb : Nat) (y : List Nat) (w : World) (h : Rd w a la ca x) (h' : Rd w a' (m + 2) cb y) (hb : la ≤ 1048576) (hle : m + 2 ≤ la)
    (h0 : y.getD (m + 1) 0 ≠ 0) :
    Calls Tryd.prog 84 #[.slice a la ca, .slice a' (m + 2) cb] w (DvPost (nv x / nv y) (nv x % nv y) w) := by
  obtain ⟨c, rfl⟩ : ∃ c, la = m + 1 + c := ⟨la - (m + 1), by omega⟩
  have H := Lib.hid h
  have H' := Lib.hid h'
  obtain ⟨f1, f2, f3, f4⟩ := shift_facts h'.lim h'.len_eq h0
  obtain ⟨t, ht⟩ : ∃ t, y.getD (m + 1) 0 = t := ⟨_, rfl⟩
  have htl : t < 4294967296 := by rw [← ht]; exact h'.lim.at _
  rw [ht] at f1 f2 f4 h0
  obtain ⟨s, hs⟩ : ∃ s, 32 - bl t = s := ⟨_, rfl⟩
  have LZ0 := lz32_c t w htl
  rw [show (32 : Int) - (bl t : Nat) = (s : Nat) from by omega] at LZ0
  have LZ := Lib.hid LZ0
  have hs32 : s ≤ 32 := by omega
  rw [hs] at f2 f4
  obtain ⟨V, hV⟩ : ∃ V, nv y * 2 ^ s = V := ⟨_, rfl⟩
  obtain ⟨A, hA⟩ : ∃ A, nv x * 2 ^ s = A := ⟨_, rfl⟩
  rw [hV] at f2 f4
  have HVN : Hid (shlN (nv y) s = V ∧ shE (s : Int) = 0 ∧ shlN (nv x) s = A) := Lib.hid (by
    have hn : ¬ ((s : Int) < 0 ∨ 1048576 < (s : Int)) := by omega
    exact ⟨by unfold shlN; rw [if_neg hn, Int.toNat_natCast]; exact hV, if_neg hn, by unfold shlN; rw [if_neg hn, Int.toNat_natCast]; exact hA⟩)
  have HV := Lib.hid hV
  have HA := Lib.hid hA
  have HF2 := Lib.hid f2
  have HF3 := Lib.hid f3
  have HF4 := Lib.hid f4
  have HLA : Hid ((dig A).length ≤ m + 1 + c + 1) := Lib.hid (dig_len_of (by
    rw [← hA, Nat.pow_succ]
    have h1 := nv_lt h.lim
    rw [h.len_eq] at h1
    have h2 : 2 ^ s ≤ BB := by rw [BB_eq, show (4294967296 : Nat) = 2 ^ 32 from by decide]; exact Nat.pow_le_pow_right (by decide) hs32
    exact Nat.lt_of_lt_of_le (Nat.mul_lt_mul_of_pos_right h1 (Nat.two_pow_pos s)) (Nat.mul_le_mul_left _ h2)))
  have hlc' := h'.le_cap
  have hcm' := h'.cap_le
  rcases h'.cells with hc | ⟨b', off', rfl, hc⟩
  · omega
  have t1 := hc (m + 1) (by omega)
  rw [ht] at t1
  have i1 : (m : Int) + 2 - 1 = (m : Int) + 1 := by omega
  have i3 : ((m : Int) + 1).toNat = m + 1 := by omega
  clear h h' ht hs LZ0 hV hA f1 f2 f3 f4 hc
  go_enter Tryd.func84, Tryd.ntmps84
  go_wp2_with fail
  refine LZ.out.mono ?_
  rintro e w' ⟨rfl, rfl⟩
  go_wp2_with fail
  refine (shl_c _ _ _ y _ _ H'.out (by omega)).mono ?_
  rw [HVN.out.1, HVN.out.2.1]
  unfold NEPost
  rw [HF4.out]
  rintro e w1 ⟨d, dc, rfl, hrd, hb1⟩
  have HRD := Lib.hid hrd
  have HX1 := Lib.hid (H.out.below hb1)
  clear hrd
  go_wp2_with (at_make; refine wpList_make_win _ rfl _ _ 23 rfl Tryd.underlying23 _ (m + 1 + c + 1) rfl rfl (by push_cast; rfl) (by omega) ?_)
  intro w2 hwin2 hb2 hs2
  have HX2 := Lib.hid (HX1.out.below hb2)
  go_wp2_with fail
  refine (shl_c _ _ _ x _ _ HX2.out hb).mono ?_
  rw [HVN.out.2.2, HVN.out.2.1]
  unfold NEPost
  obtain ⟨lA, hlA⟩ : ∃ lA, (dig A).length = lA := ⟨_, rfl⟩
  have hlA2 := HLA.out
  rw [hlA] at hlA2 ⊢
  rintro e w3 ⟨s1, sc, rfl, hrs, hb3⟩
  have HS3 := Lib.hid hrs
  have HW3 := Lib.hid (hwin2.out.below hb3 (by omega))
  have HLL := Lib.hid hlA
  clear hrs hlA
  go_wp2_with (refine wpList_copy_win (o := ⟨some 42, _, _, _, _, _⟩) rfl _ _ 23 23 rfl Tryd.underlying23 _ _ _ _ _ _ _ _ _ rfl rfl HW3.out HS3.out hlA2 ?_)
  intro w4 hwin4 ho4
  go_wp2_with (at_make; refine wpList_make_win _ rfl _ _ 23 rfl Tryd.underlying23 _ c rfl rfl (by omega) (by omega) ?_)
  intro w5 hwin5 hb5 hs5
  go_wp2_with fail
  have HD5 : Hid (Rd w5 d (m + 2) dc (dig V)) := Lib.hid ((((HRD.out.below hb2).below hb3).only ho4.out (HRD.out.far (Nat.le_refl _))).below hb5)
  have HDB : Hid (∀ bb oo, d = some ⟨bb, oo, none⟩ → bb < w1.heap.size) := Lib.hid (by
    intro bb oo e
    rcases HRD.out.cells with h1 | ⟨b2, o2, e2, h1⟩
    · omega
    · rw [e] at e2
      injection e2 with e2
      injection e2 with e3 e4
      subst e3
      exact World.block_lt_of_cell? w1 _ (h1 0 (by omega)))
  have hsz : w1.heap.size < w4.heap.size := by rw [ho4.out.size]; have := hb3.size; omega
  have HBW : Hid (Below w.heap.size w w5) := Lib.hid ((((hb1.trans (hb2.mono hb1.size)).trans (hb3.mono (by have := hb1.size; omega))).trans (ho4.out.below hb1.size)).trans (hb5.mono (by have := hb1.size; omega)))
  have HW5 := Lib.hid (hwin4.out.below hb5 (by omega))
  have HINV : Hid (LdInv A V (m + 2) (dig A ++ (zer (m + 1 + c + 1)).drop lA) (zer c) c) := Lib.hid (by
    refine LdInv.start (by rw [zer_drop, nv_pad, nv_dig]) (by rw [hwin4.out.len_eq]; omega) (zer_length c) ?_
    rw [← HA.out, ← HV.out]
    have h1 := nv_lt H.out.lim
    rw [H.out.len_eq] at h1
    have h2 := Nat.mul_lt_mul_of_pos_right h1 (Nat.two_pow_pos s)
    have h3 : BB ^ (m + 1) * 2 ^ s ≤ nv y * 2 ^ s := Nat.mul_le_mul_right _ HF3.out
    have h4 := Nat.mul_le_mul_left (BB ^ c) h3
    have e : BB ^ (m + 1 + c) * 2 ^ s = BB ^ c * (BB ^ (m + 1) * 2 ^ s) := by rw [Nat.pow_add, Nat.mul_comm (BB ^ (m + 1)), Nat.mul_assoc]
    omega)
  go_loopw [14] (fun i wr => ∃ (k : Nat) (L Q : List Nat), k ≤ c ∧ i = .int .i64 ((k : Int) - 1) ∧ Hid (LdInv A V (m + 2) L Q k) ∧ Hid (Win wr w1.heap.size 0 (m + 1 + c + 1) L) ∧ Hid (Win wr w4.heap.size 0 c Q) ∧ Hid (Below w.heap.size w wr) ∧ Hid (Rd wr d (m + 2) dc (dig V))) (fun i _ => (intOf i + 1).toNat)
  case atStart => exact ⟨c, _, _, by omega, rfl, HINV, HW5, hwin5, HBW, HD5⟩
  case round =>
    obtain ⟨k, L, Q, hk, rfl, hinv, hwl, hwq, hbw, hd⟩ := hrel
    by_cases hk0 : k = 0
    · subst hk0
      have hfin := hinv.out.done
      have hltV := hinv.out.lt
      rw [List.drop_zero] at hltV
      have WP := hwl.out.sub (k := 0) (m := m + 2) (by omega)
      rw [List.drop_zero, Nat.add_zero] at WP
      have hnt : nv (L.take (m + 2)) = nv L := nv_take_all (l := L) (Nat.lt_trans hltV HF2.out)
      have hyp : 0 < nv y := Nat.lt_of_lt_of_le (Nat.pow_pos BB_pos) HF3.out
      have hq : nv Q = nv x / nv y := by rw [hfin.1, ← HA.out, ← HV.out, Nat.mul_div_mul_right _ _ (Nat.two_pow_pos s)]
      have hr : nv L = nv x % nv y * 2 ^ s := by rw [hfin.2, ← HA.out, ← HV.out, Nat.mul_mod_mul_right]
      have SH := shr_c _ _ (m + 1 + c + 1) _ (s : Int) wr (WP.rd (cap := m + 1 + c + 1) (by omega) (by omega)) (by omega)
      have hsn : shrN (nv (L.take (m + 2))) (s : Int) = nv x % nv y := by
        unfold shrN
        rw [if_neg (by omega), Int.toNat_natCast, hnt, hr, Nat.mul_div_cancel _ (Nat.two_pow_pos s)]
      rw [hsn, HVN.out.2.1] at SH
      have HSH := Lib.hid SH
      have HQE := Lib.hid hq
      have hqlt : w4.heap.size < wr.heap.size := by
        have := World.block_lt_of_cell? wr _ (hwq.out.cell 0 (by omega))
        exact this
      clear hfin hltV WP hnt hyp hq hr SH hsn
      go_wp2_with fail
      refine HSH.out.mono ?_
      unfold NEPost
      obtain ⟨lr, hlr⟩ : ∃ lr, (dig (nv x % nv y)).length = lr := ⟨_, rfl⟩
      have HLR := Lib.hid hlr
      rw [hlr]
      rintro e w7 ⟨ra, rc, rfl, hrr, hb7⟩
      have HQ7 := Lib.hid (hwq.out.below hb7 hqlt)
      have HB7 := Lib.hid (hbw.out.trans (hb7.mono hbw.out.size))
      have HRR := Lib.hid hrr
      clear hrr hb7 hlr
      go_wp2_with fail
      refine (trim_c _ _ _ _ _ (HQ7.out.rd (Nat.le_refl _) (by omega))).mono ?_
      rintro e w8 ⟨rfl, rfl⟩
      go_wp2_with fail
      go_ret2
      refine ⟨some ⟨w4.heap.size, 0, none⟩, c, ra, rc, ?_, ?_, ?_, HB7.out⟩
      · rw [← HQE.out, HLR.out]; rfl
      · rw [← HQE.out]; exact (HQ7.out.rd (Nat.le_refl _) (by omega)).trimmed
      · rw [HLR.out]; exact HRR.out
    obtain ⟨j, rfl⟩ : ∃ j, k = j + 1 := ⟨k - 1, by omega⟩
    have ej : ((j + 1 : Nat) : Int) - 1 = j := by omega
    rw [ej]
    clear ej
    rcases hd.out.cells with h1 | ⟨db, dof, e, h1⟩
    · omega
    have hne : db ≠ w1.heap.size := by have := HDB.out db dof e; omega
    subst e
    have hV0 : V ≠ 0 := by intro e; have := HF4.out; rw [e, dig_zero] at this; simp at this
    have htop : 0 < (dig V).getD (m + 1) 0 := by
      have := dig_top hV0
      rw [HF4.out] at this
      have e : m + 2 - 1 = m + 1 := by omega
      rw [e] at this
      omega
    have WP := hwl.out.sub (k := j) (m := m + 3) (by omega)
    obtain ⟨hp1, hp2⟩ := hinv.out.part (Nat.le_of_lt HF2.out) hwl.out.lim (by rw [hwl.out.len_eq]; omega)
    have DS0 := divStep_c w1.heap.size (0 + j) m (m + 1 + c + 1 - j) _ db dof dc (dig V) wr WP (by omega) (by omega) hd.out hne htop (by rw [hp1, nv_dig]; exact hp2)
    rw [nv_dig] at DS0
    obtain ⟨P, hP⟩ : ∃ P, (L.drop j).take (m + 3) = P := ⟨_, rfl⟩
    rw [hP, Nat.zero_add] at DS0
    have HPE := Lib.hid hP
    obtain ⟨qd, hqd⟩ : ∃ qd, nv P / V = qd := ⟨_, rfl⟩
    have hqb : qd < BB := by
      rw [← hqd, Nat.div_lt_iff_lt_mul (by omega), ← hP, hp1, Nat.mul_comm]; exact hp2
    unfold DsPost at DS0
    rw [hqd] at DS0
    have HQD := Lib.hid hqd
    have DS := Lib.hid DS0
    have el : j + (m + 2) + 1 - j = m + 3 := by omega
    clear DS0 hP hqd WP hp1 hp2 h1 htop
    go_wp2_with fail
    rw [el]
    refine DS.out.mono ?_
    rintro e w6 ⟨M, rfl, hwm, hM, hom⟩
    have hom0 : Only w1.heap.size (0 + j) (0 + j + (m + 3)) wr w6 := by rw [Nat.zero_add]; exact hom
    have hwl2 := hwl.out.put (k := j) (m := m + 3) (by omega) hom0 (by rw [Nat.zero_add]; exact hwm)
    have hwq2 := hwq.out.only hom (by omega)
    have hst0 := hinv.out.step (M := M) (Nat.le_of_lt HF2.out) (by omega) hwl.out.lim hwm.lim (by rw [hwl.out.len_eq]; omega) (by rw [hwq.out.len_eq]; omega) hwm.len_eq (by rw [HPE.out]; exact hM)
    rw [HPE.out, HQD.out] at hst0
    have HST := Lib.hid hst0
    have c1 := hwq2.cell j (by omega)
    have f1 := hwq2.free j (by omega)
    have hwq3 := hwq2.set (i := j) (by omega) hqb
    have hos := (Only.refl w4.heap.size j (j + 1) w6).set (j := j) (by omega) (by omega) (.int .u32 ↑qd)
    rw [Nat.zero_add] at c1 f1 hwq3
    have HWL3 := Lib.hid (hwl2.only hos (by omega))
    have HWQ3 := Lib.hid hwq3
    have HBW3 := Lib.hid ((hbw.out.trans (hom.below hb1.size)).trans (hos.below (show w.heap.size ≤ w4.heap.size by have := hb1.size; omega)))
    have HD3 := Lib.hid ((hd.out.only hom (.inr (by rintro y e; injection e with e; subst e; exact hne))).only hos (.inr (by rintro y e; injection e with e; subst e; have := HDB.out _ _ rfl; simp; omega)))
    clear hom0 hwl2 hwq2 hst0 hwq3 hos hwm hM hom
    go_wp2
    go_roundw
    case rel => exact ⟨j, _, _, by omega, by go_num, HST, HWL3, HWQ3, HBW3, HD3⟩
    case measure => simp [intOf]
end Go.Proofs.YtnalmjbgkedcoaaDoor
