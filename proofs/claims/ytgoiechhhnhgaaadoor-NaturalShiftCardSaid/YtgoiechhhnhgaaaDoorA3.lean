/- Walks of layer 1: Same, Valid, Of, limb. -/
import Derived.Test.YtgoiechhhnhgaaaDoorA2
import Derived.Test.YtgoiechhhnhgaaaDoorPlain2
namespace Go.Proofs.YtgoiechhhnhgaaaDoor
open Go.RowKit
set_option linter.unusedVariables false
/-- equal slices -/
def eqB (l t : List Nat) : Bool := l == t
def TakeEq (l t : List Nat) (k : Nat) : Prop := ∀ j, j < k → l.getD j 0 = t.getD j 0
theorem takeEq_zero (l t : List Nat) : TakeEq l t 0 := fun j hj => by omega
theorem takeEq_step {l t : List Nat} {k d x : Nat} (h : TakeEq l t k) (hd : l.getD k 0 = d) (hx : t.getD k 0 = x) (he : d = x) : TakeEq l t (k + 1) := by
  intro j hj
  by_cases hjk : j = k
  · subst hjk; rw [hd, hx, he]
  · exact h j (by omega)
theorem eqB_all {l t : List Nat} (h : l.length = t.length) (h2 : TakeEq l t l.length) : eqB l t = true := by
  unfold eqB; rw [list_ext_getD h h2]; simp
theorem eqB_at {l t : List Nat} {k d x : Nat} (hd : l.getD k 0 = d) (hx : t.getD k 0 = x) (he : ¬ d = x) : eqB l t = false := by
  unfold eqB; rw [beq_eq_false_iff_ne]; rintro rfl; exact he (hd.symm.trans hx)
theorem eqB_len {l t : List Nat} (h : l.length ≠ t.length) : eqB l t = false := by
  unfold eqB; rw [beq_eq_false_iff_ne]; rintro rfl; exact h rfl
theorem drewN_more (w : World) (n m : Nat) : ∃ k, (w.drewN n).drewN m = w.drewN k := ⟨n + m, by simp⟩
theorem eqB_dig (a b : Nat) : eqB (dig a) (dig b) = (a == b) := by
  unfold eqB
  by_cases h : a = b
  · subst h; simp
  · rw [beq_eq_false_iff_ne.2 h, beq_eq_false_iff_ne.2 (fun h2 => h (dig_inj h2))]
set_option maxHeartbeats 400000 in
theorem same_c (a a' : Option Addr) (len cap len' cap' : Nat) (l t : List Nat) (w : World) (h : Rd w a len cap l) (h' : Rd w a' len' cap' t) :
    Calls Tryd.prog 17 #[.slice a len cap, .slice a' len' cap'] w fun e w' => e = .returned (.bool (eqB l t)) ∧ ∃ n, w' = w.drewN n := by
  obtain ⟨hl, hlc, hcm, -, -, hc⟩ := h
  obtain ⟨hl', hlc', hcm', -, -, hc'⟩ := h'
  have HL := Lib.hid hl; clear hl
  have HL' := Lib.hid hl'; clear hl'
  by_cases hll : len = len'
  · subst hll
    by_cases hz : len = 0
    · subst hz
      have hfin : Hid (eqB l t = true) := Lib.hid (eqB_all (by rw [HL.out, HL'.out]) (by rw [HL.out]; exact takeEq_zero l t))
      clear hc hc'
      go_enter Tryd.func17, Tryd.ntmps17
      go_wp2
      refine wp_loop_rounds 1 ?_; rw [rounds_succ]
      go_wp2
      go_ret
      exact ⟨ret_bool hfin.out.symm, 0, rfl⟩
    rcases hc with hc | ⟨b, off, rfl, hc⟩
    · omega
    rcases hc' with hc' | ⟨b', off', rfl, hc'⟩
    · omega
    have HC := Lib.hid hc; clear hc
    have HC' := Lib.hid hc'; clear hc'
    go_enter Tryd.func17, Tryd.ntmps17
    go_wp2
    go_loopw [5] (fun i wr => ∃ (k : Nat), k ≤ len ∧ i = .int .i64 k ∧ TakeEq l t k ∧ ∃ n, wr = w.drewN n) (fun i _ => len - (intOf i).toNat)
    case atStart => exact ⟨0, by omega, rfl, takeEq_zero l t, 0, rfl⟩
    case round =>
      obtain ⟨k, hk, rfl, hinv, n, rfl⟩ := hrel
      by_cases hlt : k < len
      · obtain ⟨d, hd⟩ : ∃ d, l.getD k 0 = d := ⟨_, rfl⟩
        have hcell := HC.out k hlt
        rw [hd] at hcell
        obtain ⟨x, hx⟩ : ∃ x, t.getD k 0 = x := ⟨_, rfl⟩
        have hcell' := HC'.out k hlt
        rw [hx] at hcell'
        by_cases he : d = x
        · have hst := takeEq_step hinv hd hx he
          clear hd hx
          subst he
          go_wp2
          go_quiet (fail)
          go_wp2
          go_roundw
          case rel => exact ⟨k + 1, by omega, by go_num, hst, _, rfl⟩
          case measure => simp [intOf]; omega
        · have hfin : Hid (eqB l t = false) := Lib.hid (eqB_at hd hx he)
          clear hd hx
          have hne : ((d : Int) != (x : Int)) = true := by rw [bne_iff_ne]; omega
          go_wp2
          go_quiet (fail)
          go_wp2
          go_ret
          exact ⟨ret_bool hfin.out.symm, drewN_more _ _ _⟩
      · have hkl : k = len := by omega
        subst hkl
        have hfin : Hid (eqB l t = true) := Lib.hid (eqB_all (by rw [HL.out, HL'.out]) (by rw [HL.out]; exact hinv))
        go_wp2
        go_ret
        exact ⟨ret_bool hfin.out.symm, _, rfl⟩
  · have hfin : Hid (eqB l t = false) := Lib.hid (eqB_len (by rw [HL.out, HL'.out]; exact hll))
    have hne : ((len : Int) != (len' : Int)) = true := by rw [bne_iff_ne]; omega
    clear hc hc'
    go_enter Tryd.func17, Tryd.ntmps17
    go_wp2
    go_ret
    exact ⟨ret_bool hfin.out.symm, 0, rfl⟩

theorem valid_c (a : Option Addr) (len cap : Nat) (l : List Nat) (w : World) (h : Rd w a len cap l) :
    Calls Tryd.prog 19 #[.slice a len cap] w fun e w' => e = .returned (.bool (canB l)) ∧ w = w' := by
  obtain ⟨hl, hlc, hcm, -, -, hc⟩ := h
  have HL := Lib.hid hl; clear hl
  by_cases hz : len = 0
  · subst hz
    have hfin : Hid (canB l = true) := Lib.hid (by unfold canB; rw [HL.out]; rfl)
    clear hc
    go_enter Tryd.func19, Tryd.ntmps19
    go_wp2
    go_ret
    exact ⟨ret_bool hfin.out.symm, rfl⟩
  · obtain ⟨k, rfl⟩ : ∃ k, len = k + 1 := ⟨len - 1, by omega⟩
    rcases hc with hc | ⟨b, off, rfl, hc⟩
    · omega
    obtain ⟨x, hx⟩ : ∃ x, l.getD k 0 = x := ⟨_, rfl⟩
    have hcell := hc k (by omega)
    rw [hx] at hcell
    have hfin : Hid (canB l = ((x : Int) != 0)) := Lib.hid (by
      unfold canB; rw [HL.out, Nat.add_sub_cancel, hx]
      rw [Bool.eq_iff_iff]; simp)
    clear hc hx
    go_enter Tryd.func19, Tryd.ntmps19
    go_wp2
    go_ret
    exact ⟨ret_bool hfin.out.symm, rfl⟩
theorem rvalid_c (a : Option Addr) (len cap : Nat) (l : List Nat) (w : World) (h : Rd w a len cap l) :
    Calls Tryd.prog 20 #[.slice a len cap] w fun e w' => e = .returned (.bool (canB l)) ∧ w = w' := by
  obtain ⟨hl, hlc, hcm, -, -, hc⟩ := h
  have HL := Lib.hid hl; clear hl
  by_cases hz : len = 0
  · subst hz
    have hfin : Hid (canB l = true) := Lib.hid (by unfold canB; rw [HL.out]; rfl)
    clear hc
    go_enter Tryd.func20, Tryd.ntmps20
    go_wp2
    go_ret
    exact ⟨ret_bool hfin.out.symm, rfl⟩
  · obtain ⟨k, rfl⟩ : ∃ k, len = k + 1 := ⟨len - 1, by omega⟩
    rcases hc with hc | ⟨b, off, rfl, hc⟩
    · omega
    obtain ⟨x, hx⟩ : ∃ x, l.getD k 0 = x := ⟨_, rfl⟩
    have hcell := hc k (by omega)
    rw [hx] at hcell
    have hfin : Hid (canB l = ((x : Int) != 0)) := Lib.hid (by
      unfold canB; rw [HL.out, Nat.add_sub_cancel, hx]
      rw [Bool.eq_iff_iff]; simp)
    clear hc hx
    go_enter Tryd.func20, Tryd.ntmps20
    go_wp2
    go_ret
    exact ⟨ret_bool hfin.out.symm, rfl⟩
theorem limb_c (a : Option Addr) (len cap : Nat) (l : List Nat) (i : Nat) (w : World) (h : Rd w a len cap l) :
    Calls Tryd.prog 45 #[.slice a len cap, .int .i64 i] w fun e w' => e = .returned (.int .u32 ((l.getD i 0 : Nat) : Int)) ∧ w = w' := by
  obtain ⟨x, hx⟩ : ∃ x, l.getD i 0 = x := ⟨_, rfl⟩
  rw [hx]
  obtain ⟨hl, hlc, hcm, -, -, hc⟩ := h
  by_cases hi : i < len
  · rcases hc with hc | ⟨b, off, rfl, hc⟩
    · omega
    have hcell := hc i hi
    rw [hx] at hcell
    clear hc hx hl
    go_enter Tryd.func45, Tryd.ntmps45
    go_wp2
    go_ret
    exact ⟨rfl, rfl⟩
  · have hx0 : x = 0 := by rw [← hx]; exact getD_over (by rw [hl]; omega)
    subst hx0
    clear hc hx hl
    go_enter Tryd.func45, Tryd.ntmps45
    go_wp2
    go_ret
    exact ⟨rfl, rfl⟩
end Go.Proofs.YtgoiechhhnhgaaaDoor
