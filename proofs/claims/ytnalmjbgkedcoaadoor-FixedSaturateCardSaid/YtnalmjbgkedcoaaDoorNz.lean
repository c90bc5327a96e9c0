/- Carried over from another seat by program (portn.py). -/
import Derived.Test.YtnalmjbgkedcoaaDoorNa
import Derived.Test.YtnalmjbgkedcoaaDoorNln
namespace Go.Proofs.YtnalmjbgkedcoaaDoor
open Go.RowKit
set_option linter.unusedVariables false
set_option maxHeartbeats 400000 in
theorem bits_c (a : Option Addr) (len cap : Nat) (l : List Nat) (w : World) (h : Rd w a len cap l) (hlb : len ≤ 1048576) :
    Calls Tryd.prog 66 #[.slice a len cap] w fun e w' => e = .returned (.int .i64 (bl (nv l) : Nat)) ∧ w = w' := by
  have H := Lib.hid h
  have HT := h.trimmed
  have hle := dig_length_le h.lim
  rw [h.len_eq] at hle
  obtain ⟨n, hn⟩ : ∃ n, (dig (nv l)).length = n := ⟨_, rfl⟩
  have HN := Lib.hid hn
  rw [hn] at HT hle
  clear h
  by_cases hz : n = 0
  · subst hz
    have hfin : Hid (bl (nv l) = 0) := Lib.hid (by rw [dig_nil_iff.1 (List.length_eq_zero_iff.1 hn)]; rfl)
    clear hn HT
    go_enter Tryd.func66, Tryd.ntmps66
    go_wp2_with (go_at_call 47; refine (trim_c _ _ _ l _ H.out).mono ?_; rw [HN.out]; rintro e w' ⟨rfl, rfl⟩)
    go_ret
    exact ⟨ret_int (by rw [hfin.out]; rfl), rfl⟩
  · obtain ⟨k, rfl⟩ : ∃ k, n = k + 1 := ⟨n - 1, by omega⟩
    have hfin0 := bl_dig hn
    obtain ⟨x, hx⟩ : ∃ x, (dig (nv l)).getD k 0 = x := ⟨_, rfl⟩
    have hxl := HT.lim.at k
    rw [hx] at hxl hfin0
    have hfin := Lib.hid hfin0
    have HX := Lib.hid (len32_c x w hxl)
    have hb := bl_le (show x < 2 ^ 32 from hxl)
    obtain ⟨b', hb'⟩ : ∃ b', bl x = b' := ⟨_, rfl⟩
    rw [hb'] at hb HX hfin
    obtain ⟨-, h2, h3, -, -, hc⟩ := HT
    rcases hc with hc | ⟨b, off, rfl, hc⟩
    · omega
    have hcell := hc k (by omega)
    rw [hx] at hcell
    clear hn hx hc hfin0 hb' hxl
    go_enter Tryd.func66, Tryd.ntmps66
    go_wp2_with fail
    refine (trim_c _ _ _ l _ H.out).mono ?_
    rw [HN.out]
    rintro e w' ⟨rfl, rfl⟩
    go_wp2_with (go_at_call 82; refine HX.out.mono ?_; rintro e w' ⟨rfl, rfl⟩)
    go_ret
    exact ⟨ret_int (by rw [hfin.out]; first | rfl | (push_cast; omega) | omega), rfl⟩
set_option maxHeartbeats 400000 in
theorem rbits_c (a : Option Addr) (len cap : Nat) (l : List Nat) (w : World) (h : Rd w a len cap l) (hlb : len ≤ 1048576) :
    Calls Tryd.prog 92 #[.slice a len cap] w fun e w' => e = .returned (.int .i64 (bl (nv l) : Nat)) ∧ Below w.heap.size w w' := by
  have H := Lib.hid h
  have hle := dig_length_le h.lim
  rw [h.len_eq] at hle
  obtain ⟨n, hn⟩ : ∃ n, (dig (nv l)).length = n := ⟨_, rfl⟩
  have HN := Lib.hid hn
  rw [hn] at hle
  clear h
  by_cases hz : n = 0
  · subst hz
    have hfin : Hid (bl (nv l) = 0) := Lib.hid (by rw [dig_nil_iff.1 (List.length_eq_zero_iff.1 hn)]; rfl)
    clear hn
    go_enter Tryd.func92, Tryd.ntmps92
    go_wp2_with fail
    refine (rmake_c _ _ _ l _ H.out hlb).mono ?_
    unfold NPost
    rw [HN.out]
    rintro e w' ⟨a', c', rfl, hr, hbl⟩
    go_wp2_with fail
    go_ret
    exact ⟨ret_int (by rw [hfin.out]; rfl), hbl⟩
  · obtain ⟨k, rfl⟩ : ∃ k, n = k + 1 := ⟨n - 1, by omega⟩
    have hfin0 := bl_dig hn
    obtain ⟨x, hx⟩ : ∃ x, (dig (nv l)).getD k 0 = x := ⟨_, rfl⟩
    have HGX := Lib.hid hx
    have hxl := (dig_lim (nv l)).at k
    rw [hx] at hxl hfin0
    have hfin := Lib.hid hfin0
    have hb := bl_le (show x < 2 ^ 32 from hxl)
    have HB : Hid (bl x ≤ 32) := Lib.hid hb
    rw [BB_eq] at hxl
    clear hn hx hfin0 hb
    go_enter Tryd.func92, Tryd.ntmps92
    go_wp2_with fail
    refine (rmake_c _ _ _ l _ H.out hlb).mono ?_
    unfold NPost
    rw [HN.out]
    rintro e w' ⟨a', c', rfl, hr, hbl⟩
    obtain ⟨-, h2, h3, -, -, hc⟩ := hr
    rcases hc with hc | ⟨b, off, rfl, hc⟩
    · omega
    have hcell := hc k (by omega)
    rw [HGX.out] at hcell
    clear hc
    go_wp2_with fail
    go_loop [4, 3] (fun s t => ∃ (y c : Nat), y < 4294967296 ∧ s = .int .u32 y ∧ t = .int .i64 c ∧ c ≤ 33554432 ∧ Hid (c + bl y = bl (nv l))) (fun s _ => (intOf s).toNat)
    case atStart => exact ⟨x, 32 * k, hxl, by go_num, by go_num, by omega, Lib.hid hfin.out.symm⟩
    case round =>
      obtain ⟨y, c, hy, rfl, rfl, hc, hinv⟩ := hrel
      by_cases hy0 : y = 0
      · subst hy0
        have hf : Hid (bl (nv l) = c) := Lib.hid (by have := hinv.out; rw [bl_zero] at this; omega)
        go_wp2
        go_ret
        exact ⟨ret_int (by rw [hf.out]), hbl⟩
      · have hinv2 : Hid (c + 1 + bl (y / 2) = bl (nv l)) := Lib.hid (by have := hinv.out; rw [bl_half hy0] at this; omega)
        have hcb : c + 1 ≤ 33554432 := by
          have h1 := hinv.out
          have h2 := hfin.out
          have h3 := HB.out
          have h4 := bl_half hy0
          omega
        go_wp2
        go_round
        case rel => exact ⟨y / 2, c + 1, by omega, by go_num, by go_num, hcb, hinv2⟩
        case measure => simp [intOf]; omega
end Go.Proofs.YtnalmjbgkedcoaaDoor
