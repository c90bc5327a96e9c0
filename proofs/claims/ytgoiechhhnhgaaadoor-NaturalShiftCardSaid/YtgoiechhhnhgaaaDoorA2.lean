/- Walks of layer 1: trim, copies, Make, Same, Valid. -/
import Derived.Test.YtgoiechhhnhgaaaDoorA1
namespace Go.Proofs.YtgoiechhhnhgaaaDoor
open Go.RowKit
set_option linter.unusedVariables false
set_option maxHeartbeats 400000 in
theorem trims_c (a : Option Addr) (len cap : Nat) (l : List Nat) (w : World) (h : Rd w a len cap l) :
    Calls Tryd.prog 42 #[.slice a len cap] w fun e w' => e = .returned (.slice a (dig (nv l)).length cap) ∧ w = w' := by
  obtain ⟨hl, hlc, hcm, hlim, hnc, hc⟩ := h
  clear hnc
  have HL := Lib.hid hl; clear hl
  have HLIM := Lib.hid hlim; clear hlim
  rcases hc with rfl | ⟨b, off, rfl, hc⟩
  · have hz : Hid ((dig (nv l)).length = 0) := Lib.hid (by have h0 := List.length_eq_zero_iff.1 HL.out; rw [h0, nv, dig_zero]; rfl)
    go_enter Tryd.func42, Tryd.ntmps42
    go_wp2
    refine wp_loop_rounds 1 ?_; rw [rounds_succ]
    go_wp2
    go_ret
    exact ⟨by rw [hz.out]; rfl, rfl⟩
  · have HC := Lib.hid hc; clear hc
    go_enter Tryd.func42, Tryd.ntmps42
    go_wp2
    go_loop [0] (fun s => ∃ (k : Nat), k ≤ len ∧ s = .slice (some ⟨b, off, none⟩) k cap ∧ Hid (nv (l.take k) = nv l)) (fun s => match s with | .slice _ n _ => n | _ => 0)
    case atStart => exact ⟨len, by omega, rfl, Lib.hid (by rw [List.take_of_length_le (by rw [HL.out]; omega)])⟩
    case round =>
      obtain ⟨k, hk, rfl, hinv⟩ := hrel
      by_cases hk0 : k = 0
      · subst hk0
        have hz : Hid ((dig (nv l)).length = 0) := Lib.hid (by rw [← dig_take HLIM.out (k := 0) (by omega) hinv.out (.inl rfl)]; simp)
        go_wp2
        go_ret
        exact ⟨by rw [hz.out]; rfl, rfl⟩
      · obtain ⟨j, rfl⟩ : ∃ j, k = j + 1 := ⟨k - 1, by omega⟩
        obtain ⟨x, hx⟩ : ∃ x, l.getD j 0 = x := ⟨_, rfl⟩
        have hcell := HC.out j (by omega)
        rw [hx] at hcell
        by_cases hx0 : x = 0
        · have hinv2 : Hid (nv (l.take j) = nv l) := Lib.hid (by rw [← nv_take_zero (by rw [HL.out]; omega) (by rw [hx, hx0])]; exact hinv.out)
          subst hx0
          clear hx
          go_wp2
          go_round
          case rel => exact ⟨j, by omega, rfl, hinv2⟩
          case measure => simp
        · have hne : ((x : Int) == 0) = false := by simp; omega
          have hz : Hid ((dig (nv l)).length = j + 1) := Lib.hid (by rw [← dig_take HLIM.out (k := j + 1) (by rw [HL.out]; omega) hinv.out (.inr (by simp; rw [← List.getD_eq_getElem?_getD, hx]; exact hx0)), List.length_take, HL.out]; omega)
          clear hx hx0
          go_wp2
          go_ret
          exact ⟨by rw [hz.out]; rfl, rfl⟩

/-- a copy of limbs that the call owns -/
def CPost (l : List Nat) (w : World) (e : Ending) (w' : World) : Prop := ∃ v, e = Ending.returned v ∧ w'.ownsRow w.heap.size 42 1 v l.length (lv l) ∧ Lim l ∧ Below w.heap.size w w'
/-- a slice that reads as the canonical limbs of n -/
def NPost (n : Nat) (w : World) (e : Ending) (w' : World) : Prop := ∃ a cap, e = Ending.returned (.slice a (dig n).length cap) ∧ Rd w' a (dig n).length cap (dig n) ∧ Below w.heap.size w w'
theorem CPost.npost {l : List Nat} {n : Nat} {w : World} {e : Ending} {w' : World} (h : CPost l w e w') (hl : l = dig n) : NPost n w e w' := by
  subst hl
  obtain ⟨v, rfl, ho, hl, hb⟩ := h
  obtain ⟨a, c, rfl, hr⟩ := Rd.owns ho hl
  exact ⟨a, c, rfl, hr, hb⟩

set_option maxHeartbeats 400000 in
theorem clone_c (a : Option Addr) (len cap : Nat) (l : List Nat) (w : World) (h : Rd w a len cap l) (hb : len ≤ 1048576) :
    Calls Tryd.prog 41 #[.slice a len cap] w (CPost l w) := by
  have hq := fun w => Lib.run_eql_slice_nil (P := Tryd.prog) w 25 42 a len cap 0 0 Tryd.underlying25
  cases a with
  | none =>
    have hc := h.nilcap rfl
    have hl0 : len = 0 := by have := h.le_cap; omega
    subst hc
    subst hl0
    have hnil : l = [] := List.length_eq_zero_iff.1 h.len_eq
    subst hnil
    have hq2 : ∀ w, (binOp .eql 25 (.slice none 0 0) (.slice none 0 0)).run Tryd.prog w = .ok (.bool true) w := hq
    clear h hq
    go_enter Tryd.func41, Tryd.ntmps41
    go_wp2
    go_ret
    exact ⟨_, rfl, World.ownsRow_nil _ _ _ _, Lim.nil, Below.refl _ _⟩
  | some y =>
    have hq2 : ∀ w, (binOp .eql 25 (.slice (some y) len cap) (.slice none 0 0)).run Tryd.prog w = .ok (.bool false) w := hq
    have HL := Lib.hid h.lim
    have HLE := Lib.hid h.len_eq
    have HO := Lib.hid (World.ownsRow_lit (base := w.heap.size) (e := 42) (size := 1) w #[] 0 (Nat.le_refl _) (by decide) (by simp))
    have HR := Lib.hid (h.alloc (.cells #[] 42))
    clear h hq
    go_enter Tryd.func41, Tryd.ntmps41
    go_wp2_with (at_builtin; refine wpList_append_rd rfl _ _ 25 25 rfl Tryd.underlying25 Tryd.underlying25 w.heap.size _ 0 [] rfl HO.out _ _ _ _ rfl HR.out (by omega) (by simp) ?_)
    intro v w1 hown hgrow
    have hbel : Below w.heap.size w w1 := ((Below.refl _ _).alloc (Nat.le_refl _) _).grown hgrow (by simp) (fun k hk => by simp [Value.ownBlock] at hk; omega)
    clear hgrow
    go_wp2
    go_ret
    exact ⟨_, rfl, by rw [HLE.out]; simpa using hown, HL.out, hbel⟩

theorem copied_c (a : Option Addr) (len cap : Nat) (l : List Nat) (w : World) (h : Rd w a len cap l) (hb : len ≤ 1048576) :
    Calls Tryd.prog 14 #[.slice a len cap] w (CPost l w) := by
  have HL := Lib.hid h.lim
  have HLE := Lib.hid h.len_eq
  have HO := Lib.hid (World.ownsRow_lit (base := w.heap.size) (e := 42) (size := 1) w #[] 0 (Nat.le_refl _) (by decide) (by simp))
  have HR := Lib.hid (h.alloc (.cells #[] 42))
  clear h
  go_enter Tryd.func14, Tryd.ntmps14
  go_wp2_with (at_builtin; refine wpList_append_rd rfl _ _ 25 25 rfl Tryd.underlying25 Tryd.underlying25 w.heap.size _ 0 [] rfl HO.out _ _ _ _ rfl HR.out (by omega) (by simp) ?_)
  intro v w1 hown hgrow
  have hbel : Below w.heap.size w w1 := ((Below.refl _ _).alloc (Nat.le_refl _) _).grown hgrow (by simp) (fun k hk => by simp [Value.ownBlock] at hk; omega)
  clear hgrow
  go_wp2
  go_ret
  exact ⟨_, rfl, by rw [HLE.out]; simpa using hown, HL.out, hbel⟩

theorem make_c (a : Option Addr) (len cap : Nat) (l : List Nat) (w : World) (h : Rd w a len cap l) (hb : len ≤ 1048576) :
    Calls Tryd.prog 13 #[.slice a len cap] w (NPost (nv l) w) := by
  have H := Lib.hid h
  have H2 := Lib.hid h.trimmed
  have hle : (dig (nv l)).length ≤ 1048576 := by have := dig_length_le h.lim; rw [h.len_eq] at this; omega
  clear h
  go_enter Tryd.func13, Tryd.ntmps13
  go_wp2_with (go_at_call 42; refine (trims_c _ _ _ l _ H.out).mono ?_; rintro e w' ⟨rfl, rfl⟩)
  refine (clone_c _ _ _ _ _ H2.out hle).mono ?_
  rintro e w1 ⟨v, rfl, ho, hl, hbel⟩
  go_wp2_with fail
  go_ret
  exact CPost.npost ⟨_, rfl, ho, hl, hbel⟩ rfl

set_option maxHeartbeats 400000 in
theorem rmake_c (a : Option Addr) (len cap : Nat) (l : List Nat) (w : World) (h : Rd w a len cap l) (hb : len ≤ 1048576) :
    Calls Tryd.prog 18 #[.slice a len cap] w (NPost (nv l) w) := by
  have fin : ∀ e w', CPost (dig (nv l)) w e w' → NPost (nv l) w e w' := fun e w' h => h.npost rfl
  refine Calls.mono ?_ fin
  clear fin
  have H := Lib.hid h
  have HO := Lib.hid (World.ownsRow_lit (base := w.heap.size) (e := 42) (size := 1) w #[] 0 (Nat.le_refl _) (by decide) (by simp))
  obtain ⟨hl, hlc, hcm, hlim, hnc, hc⟩ := h
  clear hnc
  have HL := Lib.hid hl; clear hl
  have HLIM := Lib.hid hlim; clear hlim
  rcases hc with rfl | ⟨b, off, rfl, hc⟩
  · have h0 := List.length_eq_zero_iff.1 HL.out
    subst h0
    have HR := Lib.hid (H.out.alloc (.cells #[] 42))
    have hz : Hid (dig (nv []) = []) := Lib.hid (by rw [nv, dig_zero])
    go_enter Tryd.func18, Tryd.ntmps18
    go_wp2
    refine wp_loop_rounds 1 ?_; rw [rounds_succ]
    go_wp2_with (at_builtin; refine wpList_append_rd rfl _ _ 25 22 rfl Tryd.underlying25 Tryd.underlying22 w.heap.size _ 0 [] rfl HO.out _ _ _ _ rfl HR.out (by omega) (by simp) ?_)
    intro v w1 hown hgrow
    have hbel : Below w.heap.size w w1 := ((Below.refl _ _).alloc (Nat.le_refl _) _).grown hgrow (by simp) (fun k hk => by simp [Value.ownBlock] at hk; omega)
    clear hgrow
    go_wp2
    go_ret
    exact ⟨_, rfl, by rw [hz.out]; simpa using hown, by rw [hz.out]; exact Lim.nil, hbel⟩
  · have HC := Lib.hid hc; clear hc
    go_enter Tryd.func18, Tryd.ntmps18
    go_wp2
    go_loop [3] (fun s => ∃ (k : Nat), k ≤ len ∧ s = .int .i64 k ∧ Hid (nv (l.take k) = nv l)) (fun s => (intOf s).toNat)
    case atStart => exact ⟨len, by omega, rfl, Lib.hid (by rw [List.take_of_length_le (by rw [HL.out]; omega)])⟩
    case round =>
      obtain ⟨k, hk, rfl, hinv⟩ := hrel
      have tail : (k = 0 ∨ l.getD (k - 1) 0 ≠ 0) → Hid (l.take k = dig (nv l)) := fun hz => Lib.hid (dig_take HLIM.out (by rw [HL.out]; exact hk) hinv.out hz)
      have HT := Lib.hid tail
      clear tail
      have HR := Lib.hid ((H.out.take hk).alloc (.cells #[] 42))
      by_cases hk0 : k = 0
      · subst hk0
        have hz := HT.out (.inl rfl)
        go_wp2_with (at_builtin; refine wpList_append_rd rfl _ _ 25 22 rfl Tryd.underlying25 Tryd.underlying22 w.heap.size _ 0 [] rfl HO.out _ _ _ _ rfl HR.out (by omega) (by simp) ?_)
        intro v w1 hown hgrow
        have hbel : Below w.heap.size w w1 := ((Below.refl _ _).alloc (Nat.le_refl _) _).grown hgrow (by simp) (fun k hk => by simp [Value.ownBlock] at hk; omega)
        clear hgrow
        go_wp2
        go_ret
        refine ⟨_, rfl, ?_, by rw [← hz.out]; exact HLIM.out.take _, hbel⟩
        rw [← hz.out]; simpa using hown
      · obtain ⟨j, rfl⟩ : ∃ j, k = j + 1 := ⟨k - 1, by omega⟩
        obtain ⟨x, hx⟩ : ∃ x, l.getD j 0 = x := ⟨_, rfl⟩
        have hcell := HC.out j (by omega)
        rw [hx] at hcell
        by_cases hx0 : x = 0
        · have hinv2 : Hid (nv (l.take j) = nv l) := Lib.hid (by rw [← nv_take_zero (by rw [HL.out]; omega) (by rw [hx, hx0])]; exact hinv.out)
          subst hx0
          clear hx HR
          go_wp2
          go_round
          case rel => exact ⟨j, by omega, by go_num, hinv2⟩
          case measure => simp [intOf]
        · have hne : ((x : Int) == 0) = false := by simp; omega
          have hz := HT.out (.inr (by rw [Nat.add_sub_cancel, hx]; exact hx0))
          clear hx hx0
          go_wp2_with (at_builtin; refine wpList_append_rd rfl _ _ 25 22 rfl Tryd.underlying25 Tryd.underlying22 w.heap.size _ 0 [] rfl HO.out _ _ _ _ rfl HR.out (by omega) (by simp) ?_)
          intro v w1 hown hgrow
          have hbel : Below w.heap.size w w1 := ((Below.refl _ _).alloc (Nat.le_refl _) _).grown hgrow (by simp) (fun k hk => by simp [Value.ownBlock] at hk; omega)
          clear hgrow
          go_wp2
          go_ret
          refine ⟨_, rfl, ?_, by rw [← hz.out]; exact HLIM.out.take _, hbel⟩
          rw [← hz.out, List.length_take, HL.out, Nat.min_eq_left hk]; simpa using hown
end Go.Proofs.YtgoiechhhnhgaaaDoor
