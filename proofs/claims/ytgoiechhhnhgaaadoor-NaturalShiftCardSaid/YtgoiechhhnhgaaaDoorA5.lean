/- Walks of layer 1: Cmp. -/
import Derived.Test.YtgoiechhhnhgaaaDoorA4
namespace Go.Proofs.YtgoiechhhnhgaaaDoor
open Go.RowKit
set_option linter.unusedVariables false
/-- the limbs from k on are equal -/
def TopEq (a b : List Nat) (k : Nat) : Prop := ∀ j, k ≤ j → a.getD j 0 = b.getD j 0
theorem topEq_start {a b : List Nat} {k : Nat} (ha : a.length ≤ k) (hb : b.length ≤ k) : TopEq a b k := fun j hj => by
  rw [getD_over (by omega), getD_over (by omega)]
theorem topEq_step {a b : List Nat} {k d x : Nat} (h : TopEq a b (k + 1)) (hd : a.getD k 0 = d) (hx : b.getD k 0 = x) (he : d = x) : TopEq a b k := by
  intro j hj
  by_cases hjk : j = k
  · subst hjk; rw [hd, hx, he]
  · exact h j (by omega)
theorem topEq_end {a b : List Nat} (h : TopEq a b 0) : cmpv (nv a) (nv b) = 0 := cmpv_eq (nv_ext a b fun j => h j (Nat.zero_le _))
theorem topEq_lt {a b : List Nat} {k d x : Nat} (ha : Lim a) (hb : Lim b) (h : TopEq a b (k + 1)) (hd : a.getD k 0 = d) (hx : b.getD k 0 = x) (he : d < x) : cmpv (nv a) (nv b) = -1 :=
  cmpv_lt (nv_lt_at k ha hb (fun j hj => h j (by omega)) (by rw [hd, hx]; exact he))
theorem topEq_gt {a b : List Nat} {k d x : Nat} (ha : Lim a) (hb : Lim b) (h : TopEq a b (k + 1)) (hd : a.getD k 0 = d) (hx : b.getD k 0 = x) (he : x < d) : cmpv (nv a) (nv b) = 1 :=
  cmpv_gt (nv_lt_at k hb ha (fun j hj => (h j (by omega)).symm) (by rw [hd, hx]; exact he))
theorem cmpv_neg (a b : Nat) : cmpv b a = - cmpv a b := by unfold cmpv; split <;> split <;> (try split) <;> omega
set_option maxHeartbeats 800000 in
theorem cmp_c (a a' : Option Addr) (len cap len' cap' : Nat) (l t : List Nat) (w : World) (h : Rd w a len cap l) (h' : Rd w a' len' cap' t) :
    Calls Tryd.prog 26 #[.slice a len cap, .slice a' len' cap'] w fun e w' => e = .returned (.int .i64 (cmpv (nv l) (nv t))) ∧ Dr w w' := by
  have H := Lib.hid h
  have H' := Lib.hid h'
  have HT := h.trimmed
  have HT' := h'.trimmed
  obtain ⟨x, hx⟩ : ∃ x, dig (nv l) = x := ⟨_, rfl⟩
  obtain ⟨y, hy⟩ : ∃ y, dig (nv t) = y := ⟨_, rfl⟩
  have hX : Hid (nv l = nv x) := Lib.hid (by rw [← hx, nv_dig])
  have hY : Hid (nv t = nv y) := Lib.hid (by rw [← hy, nv_dig])
  have hlt1 : x.length < y.length → nv x < nv y := fun h => by rw [← hX.out, ← hY.out]; exact dig_len_lt (by rw [hx, hy]; exact h)
  have hlt2 : y.length < x.length → nv y < nv x := fun h => by rw [← hX.out, ← hY.out]; exact dig_len_lt (by rw [hx, hy]; exact h)
  obtain ⟨n, hn⟩ : ∃ n, x.length = n := ⟨_, rfl⟩
  obtain ⟨m, hm⟩ : ∃ m, y.length = m := ⟨_, rfl⟩
  have HX : Hid ((dig (nv l)).length = n) := Lib.hid (by rw [hx, hn])
  have HY : Hid ((dig (nv t)).length = m) := Lib.hid (by rw [hy, hm])
  rw [hx, hn] at HT
  rw [hy, hm] at HT'
  rw [hn, hm] at hlt1 hlt2
  clear h h' hx hy
  by_cases hnm : n = m
  · subst hnm
    obtain ⟨-, h2, h3, hli, -, hc⟩ := HT
    obtain ⟨-, h2', h3', hli', -, hc'⟩ := HT'
    have LI := Lib.hid hli
    have LI' := Lib.hid hli'
    have HST : Hid (TopEq x y n) := Lib.hid (topEq_start (by omega) (by omega))
    clear hn hm hlt1 hlt2 hli hli'
    by_cases hz : n = 0
    · subst hz
      have hfin : Hid (cmpv (nv l) (nv t) = 0) := Lib.hid (by rw [hX.out, hY.out]; exact topEq_end HST.out)
      clear hc hc'
      go_enter Tryd.func26, Tryd.ntmps26
      go_wp2_with fail
      refine (trim_c _ _ _ l _ H.out).mono ?_
      rw [HX.out]
      rintro e w' ⟨rfl, rfl⟩
      go_wp2_with fail
      refine (trim_c _ _ _ t _ H'.out).mono ?_
      rw [HY.out]
      rintro e w' ⟨rfl, rfl⟩
      go_wp2
      refine wp_loop_rounds 1 ?_; rw [rounds_succ]
      go_wp2
      go_ret
      exact ⟨ret_int hfin.out.symm, Dr.refl _⟩
    rcases hc with hc | ⟨b, off, rfl, hc⟩
    · omega
    rcases hc' with hc' | ⟨b', off', rfl, hc'⟩
    · omega
    have HC := Lib.hid hc; clear hc
    have HC' := Lib.hid hc'; clear hc'
    go_enter Tryd.func26, Tryd.ntmps26
    go_wp2_with fail
    refine (trim_c _ _ _ l _ H.out).mono ?_
    rw [HX.out]
    rintro e w' ⟨rfl, rfl⟩
    go_wp2_with fail
    refine (trim_c _ _ _ t _ H'.out).mono ?_
    rw [HY.out]
    rintro e w' ⟨rfl, rfl⟩
    go_wp2
    go_loopw [5] (fun i wr => ∃ (k : Nat), k ≤ n ∧ i = .int .i64 ((k : Int) - 1) ∧ Hid (TopEq x y k) ∧ Dr w wr) (fun i _ => (intOf i + 1).toNat)
    case atStart => exact ⟨n, by omega, by go_num, HST, Dr.refl _⟩
    case round =>
      obtain ⟨k, hk, rfl, hinv, hdr⟩ := hrel
      by_cases hk0 : k = 0
      · subst hk0
        have hfin : Hid (cmpv (nv l) (nv t) = 0) := Lib.hid (by rw [hX.out, hY.out]; exact topEq_end hinv.out)
        go_wp2
        go_ret
        exact ⟨ret_int hfin.out.symm, hdr⟩
      obtain ⟨j, rfl⟩ : ∃ j, k = j + 1 := ⟨k - 1, by omega⟩
      have ej : ((j + 1 : Nat) : Int) - 1 = j := by omega
      rw [ej]
      obtain ⟨d, hd⟩ : ∃ d, x.getD j 0 = d := ⟨_, rfl⟩
      have hcell := HC.out j (by omega)
      rw [← hdr.cell, hd] at hcell
      obtain ⟨v, hv⟩ : ∃ v, y.getD j 0 = v := ⟨_, rfl⟩
      have hcell' := HC'.out j (by omega)
      rw [← hdr.cell, hv] at hcell'
      clear ej
      by_cases he : d = v
      · have hst := Lib.hid (topEq_step hinv.out hd hv he)
        clear hd hv
        subst he
        go_wp2
        go_quiet (fail)
        go_wp2
        go_roundw
        case rel => exact ⟨j, by omega, by go_num, hst, hdr.more _⟩
        case measure => simp [intOf]
      · have hne : ((d : Int) != (v : Int)) = true := by rw [bne_iff_ne]; omega
        by_cases hlt : d < v
        · have hfin : Hid (cmpv (nv l) (nv t) = -1) := Lib.hid (by rw [hX.out, hY.out]; exact topEq_lt LI.out LI'.out hinv.out hd hv hlt)
          have hb : decide (d < v) = true := by simpa using hlt
          clear hd hv
          go_wp2
          go_quiet (fail)
          go_wp2
          go_quiet (fail)
          go_wp2
          go_ret
          exact ⟨ret_int hfin.out.symm, (hdr.more _).more _⟩
        · have hfin : Hid (cmpv (nv l) (nv t) = 1) := Lib.hid (by rw [hX.out, hY.out]; exact topEq_gt LI.out LI'.out hinv.out hd hv (by omega))
          have hb : decide (d < v) = false := by simpa using hlt
          clear hd hv
          go_wp2
          go_quiet (fail)
          go_wp2
          go_quiet (fail)
          go_wp2
          go_ret
          exact ⟨ret_int hfin.out.symm, (hdr.more _).more _⟩
  · have hne : ((n : Int) != (m : Int)) = true := by rw [bne_iff_ne]; omega
    clear hn hm
    by_cases hlt : n < m
    · have hfin : Hid (cmpv (nv l) (nv t) = -1) := Lib.hid (by rw [hX.out, hY.out]; exact cmpv_lt (hlt1 hlt))
      clear hlt1 hlt2 HT HT'
      go_enter Tryd.func26, Tryd.ntmps26
      go_wp2_with fail
      refine (trim_c _ _ _ l _ H.out).mono ?_
      rw [HX.out]
      rintro e w' ⟨rfl, rfl⟩
      go_wp2_with fail
      refine (trim_c _ _ _ t _ H'.out).mono ?_
      rw [HY.out]
      rintro e w' ⟨rfl, rfl⟩
      go_wp2
      go_ret
      exact ⟨ret_int hfin.out.symm, Dr.refl _⟩
    · have hfin : Hid (cmpv (nv l) (nv t) = 1) := Lib.hid (by rw [hX.out, hY.out]; exact cmpv_gt (hlt2 (by omega)))
      clear hlt1 hlt2 HT HT'
      go_enter Tryd.func26, Tryd.ntmps26
      go_wp2_with fail
      refine (trim_c _ _ _ l _ H.out).mono ?_
      rw [HX.out]
      rintro e w' ⟨rfl, rfl⟩
      go_wp2_with fail
      refine (trim_c _ _ _ t _ H'.out).mono ?_
      rw [HY.out]
      rintro e w' ⟨rfl, rfl⟩
      go_wp2
      go_ret
      exact ⟨ret_int hfin.out.symm, Dr.refl _⟩
set_option maxHeartbeats 1600000 in
theorem rcmp_c (a a' : Option Addr) (len cap len' cap' : Nat) (l t : List Nat) (w : World) (h : Rd w a len cap l) (h' : Rd w a' len' cap' t) :
    Calls Tryd.prog 27 #[.slice a len cap, .slice a' len' cap'] w fun e w' => e = .returned (.int .i64 (cmpv (nv l) (nv t))) ∧ w = w' := by
  have H := Lib.hid h
  have H' := Lib.hid h'
  have hl := h.len_eq
  have ht := h'.len_eq
  have hc1 := h.le_cap
  have hc2 := h.cap_le
  have hc1' := h'.le_cap
  have hc2' := h'.cap_le
  clear h h'
  have HST : Hid (len < len' → TopEq l t len') := Lib.hid (fun h => topEq_start (by omega) (by omega))
  have HST' : Hid (¬ len < len' → TopEq l t len) := Lib.hid (fun h => topEq_start (by omega) (by omega))
  clear hl ht
  go_enter Tryd.func27, Tryd.ntmps27
  go_wp2
  all_goals
    go_loop [5] (fun i => ∃ (k : Nat), k ≤ 9223372036854775807 ∧ i = .int .i64 ((k : Int) - 1) ∧ Hid (TopEq l t k)) (fun i => (intOf i + 1).toNat)
    case atStart => first | exact ⟨len', by omega, by go_num, Lib.hid (HST.out ‹_›)⟩ | exact ⟨len, by omega, by go_num, Lib.hid (HST'.out ‹_›)⟩
    case round =>
      obtain ⟨k, hk, rfl, hinv⟩ := hrel
      by_cases hk0 : k = 0
      · subst hk0
        have hfin : Hid (cmpv (nv l) (nv t) = 0) := Lib.hid (topEq_end hinv.out)
        go_wp2
        go_ret
        exact ⟨ret_int hfin.out.symm, rfl⟩
      obtain ⟨j, rfl⟩ : ∃ j, k = j + 1 := ⟨k - 1, by omega⟩
      have ej : ((j + 1 : Nat) : Int) - 1 = j := by omega
      rw [ej]
      clear ej
      obtain ⟨d, hd⟩ : ∃ d, l.getD j 0 = d := ⟨_, rfl⟩
      have LD := Lib.hid (limb_c _ _ _ _ j w H.out)
      rw [hd] at LD
      obtain ⟨v, hv⟩ : ∃ v, t.getD j 0 = v := ⟨_, rfl⟩
      have LV := Lib.hid (limb_c _ _ _ _ j w H'.out)
      rw [hv] at LV
      have LIM := Lib.hid H.out.lim
      have LIM' := Lib.hid H'.out.lim
      by_cases he : d < v
      · have hfin : Hid (cmpv (nv l) (nv t) = -1) := Lib.hid (topEq_lt LIM.out LIM'.out hinv.out hd hv he)
        clear hd hv
        go_wp2_with fail
        refine LD.out.mono ?_
        rintro e w' ⟨rfl, rfl⟩
        go_wp2_with fail
        refine LV.out.mono ?_
        rintro e w' ⟨rfl, rfl⟩
        go_wp2_with fail
        go_ret
        exact ⟨ret_int hfin.out.symm, rfl⟩
      by_cases hgt : v < d
      · have hfin : Hid (cmpv (nv l) (nv t) = 1) := Lib.hid (topEq_gt LIM.out LIM'.out hinv.out hd hv hgt)
        clear hd hv
        go_wp2_with fail
        refine LD.out.mono ?_
        rintro e w' ⟨rfl, rfl⟩
        go_wp2_with fail
        refine LV.out.mono ?_
        rintro e w' ⟨rfl, rfl⟩
        go_wp2_with fail
        refine LD.out.mono ?_
        rintro e w' ⟨rfl, rfl⟩
        go_wp2_with fail
        refine LV.out.mono ?_
        rintro e w' ⟨rfl, rfl⟩
        go_wp2_with fail
        go_ret
        exact ⟨ret_int hfin.out.symm, rfl⟩
      · have hst := Lib.hid (topEq_step hinv.out hd hv (by omega))
        clear hd hv
        go_wp2_with fail
        refine LD.out.mono ?_
        rintro e w' ⟨rfl, rfl⟩
        go_wp2_with fail
        refine LV.out.mono ?_
        rintro e w' ⟨rfl, rfl⟩
        go_wp2_with fail
        refine LD.out.mono ?_
        rintro e w' ⟨rfl, rfl⟩
        go_wp2_with fail
        refine LV.out.mono ?_
        rintro e w' ⟨rfl, rfl⟩
        go_wp2_with fail
        go_round
        case rel => exact ⟨j, by omega, by go_num, hst⟩
        case measure => simp [intOf]
end Go.Proofs.YtgoiechhhnhgaaaDoor
