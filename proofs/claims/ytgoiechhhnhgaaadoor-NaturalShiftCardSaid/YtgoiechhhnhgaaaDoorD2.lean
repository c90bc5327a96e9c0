/- Walks of layer 1: shifts to the right. -/
import Derived.Test.YtgoiechhhnhgaaaDoorD1
import Derived.Test.YtgoiechhhnhgaaaDoorPlain5
namespace Go.Proofs.YtgoiechhhnhgaaaDoor
open Go.RowKit
set_option linter.unusedVariables false
theorem two_pow_split {k q r : Nat} (hq : k / 32 = q) (hr : k % 32 = r) : 2 ^ k = BB ^ q * 2 ^ r := by
  rw [BB_pow, ← Nat.pow_add, show 32 * q + r = k from by omega]
set_option maxHeartbeats 1600000 in
theorem shr_pos (a : Option Addr) (len cap : Nat) (l : List Nat) (k q r : Nat) (w : World) (h : Rd w a len cap l) (hb : len ≤ 1048576) (hk : k ≤ 1048576) (hq : k / 32 = q) (hr : k % 32 = r) (h0 : q < (dig (nv l)).length) :
    Calls Tryd.prog 35 #[.slice a len cap, .int .i64 k] w (NEPost (nv l / 2 ^ k) 0 w) := by
  have H := Lib.hid h
  have HT := h.trimmed
  have hle := dig_length_le h.lim
  rw [h.len_eq] at hle
  obtain ⟨x, hx⟩ : ∃ x, dig (nv l) = x := ⟨_, rfl⟩
  have hX : Hid (nv x = nv l) := Lib.hid (by rw [← hx, nv_dig])
  obtain ⟨n, hn⟩ : ∃ n, x.length = n := ⟨_, rfl⟩
  have HX : Hid ((dig (nv l)).length = n) := Lib.hid (by rw [hx, hn])
  have HN := Lib.hid hn
  rw [hx, hn] at HT hle h0
  have HRX := Lib.hid HT
  have hqi : ((k : Int) / 32) = q := by omega
  have hri : ((k : Int) % 32) = r := by omega
  have hq2 : q ≤ 32768 := by omega
  have hr2 : r < 32 := by omega
  have HK := Lib.hid (two_pow_split hq hr)
  obtain ⟨m, hm⟩ : ∃ m, n - q = m := ⟨_, rfl⟩
  have HM := Lib.hid hm
  have hmi : ((n : Int) - q) = m := by omega
  have hmb : m ≤ 1048576 := by omega
  have hnm : n = m + q := by omega
  rcases HT.cells with hc | ⟨b, off, rfl, hc⟩
  · omega
  have HC := Lib.hid hc
  clear h hx hn HT hq hr hc hm
  subst hnm
  go_enter Tryd.func35, Tryd.ntmps35
  go_wp2_with fail
  refine (trim_c _ _ _ l _ H.out).mono ?_
  rw [HX.out]
  rintro e w' ⟨rfl, rfl⟩
  go_wp2_with (at_make; refine wpList_make_win _ rfl _ _ 25 rfl Tryd.underlying25 _ m rfl rfl (by first | rfl | (push_cast; omega) | omega) (by omega) ?_)
  intro w1 hwin1 hb1 hs1
  have HBL : Hid (b < w.heap.size) := Lib.hid (World.block_lt_of_cell? w _ (HC.out 0 (by omega)))
  go_wp2
  go_loopw [35] (fun i wr => ∃ (j : Nat) (L : List Nat), j ≤ m ∧ i = .int .i64 j ∧ Hid (ShrInv x L q r j) ∧ Hid (Win wr w.heap.size 0 m L) ∧ Hid (Only w.heap.size 0 (0 + m) w1 wr)) (fun i _ => m - (intOf i).toNat)
  case atStart => exact ⟨0, _, by omega, rfl, Lib.hid (ShrInv.start _ _ _ _), hwin1, Lib.hid (Only.refl _ _ _ _)⟩
  case round =>
    obtain ⟨j, L, hj, rfl, hinv, hwin, honly⟩ := hrel
    by_cases hjm : j < m
    · obtain ⟨x0, hx0⟩ : ∃ x0, x.getD (j + q) 0 = x0 := ⟨_, rfl⟩
      obtain ⟨x1, hx1⟩ : ∃ x1, x.getD (j + q + 1) 0 = x1 := ⟨_, rfl⟩
      have hx0l : x0 < 4294967296 := by rw [← hx0]; exact HRX.out.lim.at _
      have hx1l : x1 < 4294967296 := by rw [← hx1]; exact HRX.out.lim.at _
      have hbelow := hb1.trans (honly.out.below (Nat.le_refl _))
      have c1 := hwin.out.cell j hjm
      have f1 := hwin.out.free j hjm
      have e0 : wr.cell? ⟨b, off + (j + q), none⟩ = some (.int .u32 x0) := by
        rw [hbelow.cell HBL.out, HC.out _ (by omega), hx0]
      by_cases hlast : j + q + 1 < m + q
      · have e1 : wr.cell? ⟨b, off + (j + q + 1), none⟩ = some (.int .u32 x1) := by
          rw [hbelow.cell HBL.out, HC.out _ (by omega), hx1]
        obtain ⟨W, hW⟩ : ∃ W, x0 + 4294967296 * x1 = W := ⟨_, rfl⟩
        have hst := Lib.hid (hinv.out.step HRX.out.lim hr2 (by rw [hwin.out.len_eq]; exact hjm) (by rw [HN.out]; omega) (show x.getD (j + q) 0 + BB * x.getD (j + q + 1) 0 = W by rw [hx0, hx1, BB_eq, hW]))
        have hWl : W < 18446744073709551616 := by omega
        have hor : bits BinOp.or IntKind.u64 (x0 : Int) ((x1 : Int) * 4294967296) = (W : Nat) := by rw [or64' _ _ hx0l hx1l, hW]
        obtain ⟨V, hV⟩ : ∃ V, W / 2 ^ r = V := ⟨_, rfl⟩
        have hVl : V < 18446744073709551616 := by rw [← hV]; exact Nat.lt_of_le_of_lt (Nat.div_le_self _ _) hWl
        have hVi : ((W : Int) / 2 ^ r) = (V : Nat) := by rw [← hV]; norm_cast
        rw [hV] at hst
        have hw2 := Lib.hid (hwin.out.set' (i := j) hjm (x := V % BB) (Nat.mod_lt _ BB_pos) (X := (V : Int) % 4294967296) (by rw [BB_eq]; omega))
        have ho2 := Lib.hid (honly.out.set (j := 0 + j) (by omega) (by omega) (.int .u32 ((V : Int) % 4294967296)))
        rw [Nat.zero_add] at c1 f1 hw2
        rw [Nat.zero_add j] at ho2
        clear hx0 hx1 hV hW
        go_wp2
        go_roundw
        case rel => exact ⟨j + 1, _, by omega, by go_num, hst, hw2, ho2⟩
        case measure => simp [intOf]; omega
      · obtain rfl : x1 = 0 := by rw [← hx1]; exact getD_over (by rw [HN.out]; omega)
        obtain ⟨W, hW⟩ : ∃ W, x0 + 4294967296 * 0 = W := ⟨_, rfl⟩
        have hst := Lib.hid (hinv.out.step HRX.out.lim hr2 (by rw [hwin.out.len_eq]; exact hjm) (by rw [HN.out]; omega) (show x.getD (j + q) 0 + BB * x.getD (j + q + 1) 0 = W by rw [hx0, hx1, BB_eq, hW]))
        have hWl : W < 18446744073709551616 := by omega
        have hor : W = x0 := by omega
        subst hor
        obtain ⟨V, hV⟩ : ∃ V, W / 2 ^ r = V := ⟨_, rfl⟩
        have hVl : V < 18446744073709551616 := by rw [← hV]; exact Nat.lt_of_le_of_lt (Nat.div_le_self _ _) hWl
        have hVi : ((W : Int) / 2 ^ r) = (V : Nat) := by rw [← hV]; norm_cast
        rw [hV] at hst
        have hw2 := Lib.hid (hwin.out.set' (i := j) hjm (x := V % BB) (Nat.mod_lt _ BB_pos) (X := (V : Int) % 4294967296) (by rw [BB_eq]; omega))
        have ho2 := Lib.hid (honly.out.set (j := 0 + j) (by omega) (by omega) (.int .u32 ((V : Int) % 4294967296)))
        rw [Nat.zero_add] at c1 f1 hw2
        rw [Nat.zero_add j] at ho2
        clear hx0 hx1 hV hW
        go_wp2
        go_roundw
        case rel => exact ⟨j + 1, _, by omega, by go_num, hst, hw2, ho2⟩
        case measure => simp [intOf]; omega
    · have hfin : Hid (nv L = nv l / 2 ^ k) := Lib.hid (by
        rw [hinv.out.done HRX.out.lim HN.out (by omega) (by rw [hwin.out.len_eq]; omega) (by omega), HK.out, hX.out])
      have hb3 := hb1.trans ((honly.out.below (Nat.le_refl _)))
      go_wp2_with fail
      refine (trim_c _ _ _ _ _ (hwin.out.rd (Nat.le_refl _) (by omega))).mono ?_
      rintro e w4 ⟨rfl, rfl⟩
      go_wp2_with fail
      go_ret2
      rw [← hfin.out]
      exact ⟨_, _, rfl, (hwin.out.rd (Nat.le_refl _) (by omega)).trimmed, hb3⟩
/-- the shifted number, where the shift is valid -/
def shrN (n : Nat) (k : Int) : Nat := if k < 0 ∨ 1048576 < k then 0 else n / 2 ^ k.toNat
theorem shr_c (a : Option Addr) (len cap : Nat) (l : List Nat) (k : Int) (w : World) (h : Rd w a len cap l) (hb : len ≤ 1048576) :
    Calls Tryd.prog 35 #[.slice a len cap, .int .i64 k] w (NEPost (shrN (nv l) k) (shE k) w) := by
  by_cases hk : k < 0 ∨ 1048576 < k
  · have e1 : shrN (nv l) k = 0 := if_pos hk
    have e2 : shE k = 2 := if_pos hk
    rw [e1, e2]
    clear e1 e2 h
    rcases hk with hk | hk
    · go_enter Tryd.func35, Tryd.ntmps35
      go_wp2
      go_ret2
      exact NEPost.nil (Below.refl _ _)
    · have hk2 : ¬ k < 0 := by omega
      go_enter Tryd.func35, Tryd.ntmps35
      go_wp2
      go_ret2
      exact NEPost.nil (Below.refl _ _)
  · have e1 : shrN (nv l) k = nv l / 2 ^ k.toNat := if_neg hk
    have e2 : shE k = 0 := if_neg hk
    rw [e1, e2]
    obtain ⟨m, rfl⟩ : ∃ m : Nat, k = m := ⟨k.toNat, by omega⟩
    rw [Int.toNat_natCast]
    by_cases h0 : m / 32 < (dig (nv l)).length
    · exact shr_pos a len cap l m (m / 32) (m % 32) w h hb (by omega) rfl rfl h0
    · have e3 : nv l / 2 ^ m = 0 := by
        have h1 := nv_lt (dig_lim (nv l))
        rw [nv_dig] at h1
        rw [Nat.div_eq_of_lt]
        rw [two_pow_split (k := m) rfl rfl]
        have h2 : BB ^ (dig (nv l)).length ≤ BB ^ (m / 32) := Nat.pow_le_pow_right BB_pos (by omega)
        have h3 : BB ^ (m / 32) * 1 ≤ BB ^ (m / 32) * 2 ^ (m % 32) := Nat.mul_le_mul_left _ (Nat.two_pow_pos _)
        omega
      rw [e3]
      have H := Lib.hid h
      obtain ⟨n, hn⟩ : ∃ n, (dig (nv l)).length = n := ⟨_, rfl⟩
      have HN := Lib.hid hn
      obtain ⟨q, hq⟩ : ∃ q, m / 32 = q := ⟨_, rfl⟩
      rw [hn, hq] at h0
      have hqi : ((m : Int) / 32) = q := by omega
      have hk3 : ¬ (m : Int) < 0 := by omega
      have hk4 : ¬ 1048576 < (m : Int) := by omega
      clear e1 e2 e3 h hk hn hq
      go_enter Tryd.func35, Tryd.ntmps35
      go_wp2_with fail
      refine (trim_c _ _ _ l _ H.out).mono ?_
      rw [HN.out]
      rintro e w' ⟨rfl, rfl⟩
      go_wp2_with fail
      go_ret2
      exact NEPost.nil (Below.refl _ _)
end Go.Proofs.YtgoiechhhnhgaaaDoor
