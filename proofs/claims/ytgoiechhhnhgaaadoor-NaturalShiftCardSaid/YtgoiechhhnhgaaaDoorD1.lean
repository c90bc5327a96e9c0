/- Walks of layer 1: shifts. -/
import Derived.Test.YtgoiechhhnhgaaaDoorC4
import Derived.Test.YtgoiechhhnhgaaaDoorPlain4
namespace Go.Proofs.YtgoiechhhnhgaaaDoor
open Go.RowKit
set_option linter.unusedVariables false
def shE (k : Int) : Int := if k < 0 ∨ 1048576 < k then 2 else 0
set_option maxHeartbeats 1600000 in
theorem shl_pos (a : Option Addr) (len cap : Nat) (l : List Nat) (k q r : Nat) (w : World) (h : Rd w a len cap l) (hb : len ≤ 1048576) (hk : k ≤ 1048576) (hq : k / 32 = q) (hr : k % 32 = r) (h0 : ¬ (dig (nv l)).length = 0) :
    Calls Tryd.prog 34 #[.slice a len cap, .int .i64 k] w (NEPost (nv l * 2 ^ k) 0 w) := by
  have H := Lib.hid h
  have HT := h.trimmed
  have hle := dig_length_le h.lim
  rw [h.len_eq] at hle
  obtain ⟨x, hx⟩ : ∃ x, dig (nv l) = x := ⟨_, rfl⟩
  have hX : Hid (nv x = nv l) := Lib.hid (by rw [← hx, nv_dig])
  obtain ⟨n, hn⟩ : ∃ n, x.length = n := ⟨_, rfl⟩
  have HX : Hid ((dig (nv l)).length = n) := Lib.hid (by rw [hx, hn])
  have HN := Lib.hid hn
  rw [hx, hn] at HT hle h0
  have HRX := Lib.hid HT
  have hqi : ((k : Int) / 32) = q := by omega
  have hri : ((k : Int) % 32) = r := by omega
  have hq2 : q ≤ 32768 := by omega
  have hr2 : r < 32 := by omega
  obtain ⟨P, hP⟩ : ∃ P, 2 ^ r = P := ⟨_, rfl⟩
  have hPp : 0 < P := by rw [← hP]; exact Nat.two_pow_pos r
  have hPl : P ≤ 2147483648 := by rw [← hP]; exact (Nat.pow_le_pow_right (by decide) (show r ≤ 31 by omega) : 2 ^ r ≤ 2 ^ 31)
  have HP := Lib.hid hP
  have HFIN : Hid (BB ^ q * (P * nv x) = nv l * 2 ^ k) := Lib.hid (by
    rw [← hP, hX.out, BB_pow, ← Nat.mul_assoc, ← Nat.pow_add, Nat.mul_comm, show 32 * q + r = k from by omega])
  have HPI : Hid (((2 : Int) ^ r) = (P : Nat)) := Lib.hid (by rw [← hP]; norm_cast)
  clear h hx hn HT hq hr hP
  go_enter Tryd.func34, Tryd.ntmps34
  go_wp2_with fail
  refine (trim_c _ _ _ l _ H.out).mono ?_
  rw [HX.out]
  rintro e w' ⟨rfl, rfl⟩
  go_wp2_with (at_make; refine wpList_make_win _ rfl _ _ 25 rfl Tryd.underlying25 _ (n + q + 1) rfl rfl (by push_cast; rfl) (by omega) ?_)
  intro w1 hwin1 hb1 hs1
  have HR1 := Lib.hid (HRX.out.below hb1)
  have HF := Lib.hid (HRX.out.far (Nat.le_refl _))
  go_wp2
  go_loopw [36] (fun i wr => ∃ (j : Nat) (L : List Nat), j ≤ n ∧ i = .int .i64 j ∧ Hid (ShlInv x L q P j) ∧ Hid (Win wr w.heap.size 0 (n + q + 1) L) ∧ Hid (Only w.heap.size 0 (0 + (n + q + 1)) w1 wr)) (fun i _ => n - (intOf i).toNat)
  case atStart => exact ⟨0, _, by omega, rfl, Lib.hid ⟨fun i _ => zer_getD _ _, by rw [zer_getD]; exact hPp, by rw [nv_zer]; simp [nv]⟩, hwin1, Lib.hid (Only.refl _ _ _ _)⟩
  case round =>
    obtain ⟨j, L, hj, rfl, hinv, hwin, honly⟩ := hrel
    by_cases hjn : j < n
    · have hr1 := HR1.out.only honly.out HF.out
      rcases hr1.cells with h1 | ⟨b, off, rfl, h1⟩
      · omega
      obtain ⟨y, hy⟩ : ∃ y, x.getD j 0 = y := ⟨_, rfl⟩
      have hc := h1 j hjn
      have hyl : y < 4294967296 := by rw [← hy]; exact hr1.lim.at j
      rw [hy] at hc
      obtain ⟨c, hcc⟩ : ∃ c, L.getD (j + q) 0 = c := ⟨_, rfl⟩
      have hcP : c < P := by rw [← hcc]; exact hinv.out.top
      have hst0 := hinv.out.step (by rw [hwin.out.len_eq]; omega) hcc hy hyl hPp
      have hor := or_low (y := y) hr2 (c := c) (by rw [HP.out]; exact hcP)
      rw [HP.out] at hor
      obtain ⟨W, hW⟩ : ∃ W, y * P = W := ⟨_, rfl⟩
      have hWl : W < 18446744073709551616 := by
        rw [← hW]
        exact Nat.lt_of_lt_of_le (Nat.mul_lt_mul_of_pos_right hyl hPp) (Nat.le_trans (Nat.mul_le_mul_left _ hPl) (by decide))
      have hWi : ((y : Int) * 2 ^ r) = (W : Nat) := by rw [HPI.out, ← hW]; push_cast; rfl
      have hwr : IntKind.u64.wrap ((y : Int) * 2 ^ r) = (W : Nat) := by rw [hWi]; simp [IntKind.wrap, IntKind.bits, IntKind.signed]; omega
      rw [hW] at hst0 hor
      rw [show W % BB = W % 4294967296 from rfl, show W / BB = W / 4294967296 from rfl] at hst0
      obtain ⟨O, hO⟩ : ∃ O, c + W % 4294967296 = O := ⟨_, rfl⟩
      rw [hO] at hst0 hor
      have hob : bits BinOp.or IntKind.u32 (c : Int) ((W : Int) % 4294967296) = (O : Nat) := by
        rw [show ((W : Int) % 4294967296) = ((W % 4294967296 : Nat) : Int) from by omega, u32_or_nat _ _ (by omega) (by omega), hor.1]
      have c1 := hwin.out.cell (j + q) (by omega)
      have f1 := hwin.out.free (j + q) (by omega)
      rw [hcc] at c1
      rw [Nat.zero_add] at c1 f1
      have hw2 := hwin.out.set (i := j + q) (by omega) (x := O) hor.2
      have c2 := hwin.out.cell (j + q + 1) (by omega)
      have f2 := hwin.out.free (j + q + 1) (by omega)
      rw [hinv.out.zero _ (by omega)] at c2
      have hw3 := hw2.set' (i := j + q + 1) (by omega) (x := W / 4294967296) (by rw [BB_eq]; omega) (X := (W : Int) / 4294967296) (by omega)
      have ho2 := (honly.out.set (j := j + q) (by omega) (by omega) (.int .u32 ↑O)).set (j := j + q + 1) (by omega) (by omega) (.int .u32 ((W : Int) / 4294967296))
      rw [Nat.zero_add] at c2 f2
      rw [Nat.zero_add, Nat.zero_add] at hw3
      have HST := Lib.hid hst0
      have HW3 := Lib.hid hw3
      have HO2 := Lib.hid ho2
      clear hy hcc hW hO hw2 hw3 ho2 hst0 hr1 h1 hWi hor
      go_wp2
      go_roundw
      case rel => exact ⟨j + 1, _, by omega, by go_num, HST, HW3, HO2⟩
      case measure => simp [intOf]; omega
    · have hfin : Hid (nv L = nv l * 2 ^ k) := Lib.hid (by
        rw [hinv.out.sum, List.take_of_length_le (by rw [HN.out]; omega)]; exact HFIN.out)
      have hb3 := hb1.trans ((honly.out.below (Nat.le_refl _)))
      go_wp2_with fail
      refine (trim_c _ _ _ _ _ (hwin.out.rd (Nat.le_refl _) (by omega))).mono ?_
      rintro e w4 ⟨rfl, rfl⟩
      go_wp2_with fail
      go_ret2
      rw [← hfin.out]
      exact ⟨_, _, rfl, (hwin.out.rd (Nat.le_refl _) (by omega)).trimmed, hb3⟩
/-- the shifted number, where the shift is valid -/
def shlN (n : Nat) (k : Int) : Nat := if k < 0 ∨ 1048576 < k then 0 else n * 2 ^ k.toNat
theorem shl_c (a : Option Addr) (len cap : Nat) (l : List Nat) (k : Int) (w : World) (h : Rd w a len cap l) (hb : len ≤ 1048576) :
    Calls Tryd.prog 34 #[.slice a len cap, .int .i64 k] w (NEPost (shlN (nv l) k) (shE k) w) := by
  by_cases hk : k < 0 ∨ 1048576 < k
  · have e1 : shlN (nv l) k = 0 := if_pos hk
    have e2 : shE k = 2 := if_pos hk
    rw [e1, e2]
    clear e1 e2 h
    rcases hk with hk | hk
    · go_enter Tryd.func34, Tryd.ntmps34
      go_wp2
      go_ret2
      exact NEPost.nil (Below.refl _ _)
    · have hk2 : ¬ k < 0 := by omega
      go_enter Tryd.func34, Tryd.ntmps34
      go_wp2
      go_ret2
      exact NEPost.nil (Below.refl _ _)
  · have e1 : shlN (nv l) k = nv l * 2 ^ k.toNat := if_neg hk
    have e2 : shE k = 0 := if_neg hk
    rw [e1, e2]
    obtain ⟨m, rfl⟩ : ∃ m : Nat, k = m := ⟨k.toNat, by omega⟩
    rw [Int.toNat_natCast]
    by_cases h0 : (dig (nv l)).length = 0
    · have h1 : nv l = 0 := dig_nil_iff.1 (List.length_eq_zero_iff.1 h0)
      have H := Lib.hid h
      have HZ := Lib.hid h0
      have e3 : nv l * 2 ^ m = 0 := by rw [h1, Nat.zero_mul]
      rw [e3]
      have hk3 : ¬ (m : Int) < 0 := by omega
      have hk4 : ¬ 1048576 < (m : Int) := by omega
      clear e1 e2 e3 h h0 h1 hk
      go_enter Tryd.func34, Tryd.ntmps34
      go_wp2_with fail
      refine (trim_c _ _ _ l _ H.out).mono ?_
      rw [HZ.out]
      rintro e w' ⟨rfl, rfl⟩
      go_wp2_with fail
      go_ret2
      exact NEPost.nil (Below.refl _ _)
    · exact shl_pos a len cap l m (m / 32) (m % 32) w h hb (by omega) rfl rfl h0
end Go.Proofs.YtgoiechhhnhgaaaDoor
