/- Walks of layer 1: Of, Uint. -/
import Derived.Test.YtgoiechhhnhgaaaDoorA3
import Derived.Laws.BitsAllLaws
namespace Go.Proofs.YtgoiechhhnhgaaaDoor
open Go.RowKit
set_option linter.unusedVariables false
theorem Rd.one' (w : World) (x : Nat) (X : Int) (hX : X = x) (hx : x < BB) (T : TypeId) : Rd (w.alloc (.cells #[.int .u32 X] T)) (some ⟨w.heap.size, 0, none⟩) 1 1 [x] := by
  subst hX; exact Rd.one w x hx T
theorem Rd.two (w : World) (x y : Nat) (X Y : Int) (hX : X = x) (hY : Y = y) (hx : x < BB) (hy : y < BB) (T : TypeId) : Rd (w.alloc (.cells #[.int .u32 X, .int .u32 Y] T)) (some ⟨w.heap.size, 0, none⟩) 2 2 [x, y] := by
  subst hX; subst hY
  refine ⟨rfl, by omega, by omega, Lim.cons hx (Lim.cons hy Lim.nil), (fun h => by cases h), .inr ⟨_, _, rfl, fun i hi => ?_⟩⟩
  match i, hi with
  | 0, _ => simp
  | 1, _ => simp
theorem NPost.of {n : Nat} {w w' : World} {e : Ending} {l : List Nat} (hl : l = dig n) (a : Option Addr) (len cap : Nat) (he : e = .returned (.slice a len cap)) (h : Rd w' a len cap l) (hb : Below w.heap.size w w') : NPost n w e w' := by
  subst hl
  have := h.len_eq
  subst this
  exact ⟨a, cap, he, h, hb⟩
theorem div_lim {x : Nat} (hx : x < 18446744073709551616) : x / BB < BB := by
  rw [Nat.div_lt_iff_lt_mul BB_pos]; exact hx
theorem nv_two (x : Nat) : nv [x % BB, x / BB] = x := by
  simp only [nv, Nat.mul_zero, Nat.add_zero]; exact Nat.mod_add_div x BB
theorem dig_one {x : Nat} (h0 : x ≠ 0) (h : x < BB) : [x] = dig x := by
  rw [dig_pos h0, Nat.div_eq_of_lt h, dig_zero, Nat.mod_eq_of_lt h]
theorem dig_two {x : Nat} (h : BB ≤ x) (hx : x < 18446744073709551616) : [x % BB, x / BB] = dig x := by
  have h1 := BB_pos
  have h2 : x / BB ≠ 0 := by rw [Nat.ne_zero_iff_zero_lt, Nat.div_pos_iff]; omega
  rw [dig_pos (by omega), ← dig_one h2 (div_lim hx)]
theorem rof_c (x : Nat) (hx : x < 18446744073709551616) (w : World) :
    Calls Tryd.prog 24 #[.int .u64 x] w (NPost x w) := by
  have HR := Lib.hid (Rd.two w (x % BB) (x / BB) (↑x % 4294967296) (↑x / 4294967296) (by simp [BB_eq]) (by simp [BB_eq]) (Nat.mod_lt _ BB_pos) (div_lim hx) 42)
  go_enter Tryd.func24, Tryd.ntmps24
  go_wp2_with fail
  refine (rmake_c _ _ _ _ _ HR.out (by omega)).mono ?_
  rw [nv_two]
  rintro e w1 ⟨a, cap, rfl, hr, hb⟩
  have hb2 : Below w.heap.size w w1 := ((Below.refl _ _).alloc (Nat.le_refl _) _).trans (hb.mono (by simp))
  go_wp2_with fail
  go_ret
  exact ⟨a, cap, rfl, hr, hb2⟩
theorem of_c (x : Nat) (hx : x < 18446744073709551616) (w : World) :
    Calls Tryd.prog 23 #[.int .u64 x] w (NPost x w) := by
  have hbl : Below w.heap.size w w := Below.refl _ _
  by_cases h0 : x = 0
  · subst h0
    go_enter Tryd.func23, Tryd.ntmps23
    go_wp2
    go_ret
    exact NPost.of dig_zero.symm _ _ _ rfl (Rd.nil _) hbl
  · by_cases h1 : x < 4294967296
    · have HR := Lib.hid (Rd.one' w x ↑x rfl h1 42)
      have HD := Lib.hid (dig_one h0 h1)
      go_enter Tryd.func23, Tryd.ntmps23
      go_wp2
      go_ret
      exact NPost.of HD.out _ _ _ rfl HR.out (hbl.alloc (Nat.le_refl _) _)
    · have HR := Lib.hid (Rd.two w (x % BB) (x / BB) (↑x % 4294967296) (↑x / 4294967296) (by simp [BB_eq]) (by simp [BB_eq]) (Nat.mod_lt _ BB_pos) (div_lim hx) 42)
      have HD := Lib.hid (dig_two (x := x) (by rw [BB_eq]; omega) hx)
      go_enter Tryd.func23, Tryd.ntmps23
      go_wp2
      go_ret
      exact NPost.of HD.out _ _ _ rfl HR.out (hbl.alloc (Nat.le_refl _) _)
theorem or64 (x y : Nat) (hx : x < 4294967296) (hy : y < 4294967296) : bits BinOp.or IntKind.u64 ((y : Int) * 4294967296) (x : Int) = ((x + 4294967296 * y : Nat) : Int) := by
  rw [show ((y : Int) * 4294967296) = ((y * 4294967296 : Nat) : Int) from by omega, u64_or_nat _ _ (by omega) (by omega), nat_join 32 _ _ (by omega) (by omega)]
  omega
theorem or64' (x y : Nat) (hx : x < 4294967296) (hy : y < 4294967296) : bits BinOp.or IntKind.u64 (x : Int) ((y : Int) * 4294967296) = ((x + 4294967296 * y : Nat) : Int) := by
  rw [show ((y : Int) * 4294967296) = ((y * 4294967296 : Nat) : Int) from by omega, u64_or_nat _ _ (by omega) (by omega), Nat.or_comm, nat_join 32 _ _ (by omega) (by omega)]
  omega
theorem ret_two {a b c d : Value} (h1 : a = c) (h2 : b = d) : Ending.returned (.tuple #[a, b]) = .returned (.tuple #[c, d]) := by rw [h1, h2]
theorem val_int {k : IntKind} {a b : Int} (h : a = b) : Value.int k a = .int k b := by rw [h]
/-- what Uint answers -/
def uintV (n : Nat) : Nat := if n < 18446744073709551616 then n else 0
def uintB (n : Nat) : Bool := decide (n < 18446744073709551616)
theorem uint_two {n x y : Nat} (h : dig n = [x, y]) : n = x + 4294967296 * y ∧ n < 18446744073709551616 := by
  have h1 := nv_dig n
  have h2 := dig_lim n
  rw [h] at h1 h2
  have a := h2.head
  have b := h2.tail.head
  simp [nv, BB_eq] at h1 a b
  omega
theorem uint_one {n x : Nat} (h : dig n = [x]) : n = x ∧ n < 18446744073709551616 := by
  have h1 := nv_dig n
  have h2 := dig_lim n
  rw [h] at h1 h2
  have a := h2.head
  simp [nv, BB_eq] at h1 a
  omega
theorem uint_more {n : Nat} (h : 2 < (dig n).length) : ¬ n < 18446744073709551616 := by
  intro hn
  have := dig_len_of (n := n) (k := 2) (by simpa [BB_eq] using hn)
  omega
theorem uint_c (a : Option Addr) (len cap : Nat) (l : List Nat) (w : World) (h : Rd w a len cap l) :
    Calls Tryd.prog 15 #[.slice a len cap] w fun e w' => e = .returned (.tuple #[.int .u64 (uintV (nv l) : Nat), .bool (uintB (nv l))]) ∧ Dr w w' := by
  have H := Lib.hid h
  have HT := h.trimmed
  obtain ⟨n, hn⟩ : ∃ n, nv l = n := ⟨_, rfl⟩
  rw [hn] at HT ⊢
  obtain ⟨d, hd⟩ : ∃ d, dig n = d := ⟨_, rfl⟩
  rw [hd] at HT
  have HE : Hid ((dig (nv l)).length = d.length) := Lib.hid (by rw [hn, hd])
  clear h
  match d, hd, HT, HE with
  | [], hd, HT, HE =>
    have h0 := dig_nil_iff.1 hd
    subst h0
    clear HT hd
    go_enter Tryd.func15, Tryd.ntmps15
    go_wp2_with (go_at_call 43; refine (trim_c _ _ _ l _ H.out).mono ?_; rw [HE.out]; rintro e w' ⟨rfl, rfl⟩)
    go_ret2
    exact ⟨rfl, Dr.refl _⟩
  | [x], hd, HT, HE =>
    obtain ⟨rfl, h1⟩ := uint_one hd
    have hv : Hid (uintV n = n) := Lib.hid (if_pos h1)
    have hb : Hid (uintB n = true) := Lib.hid (decide_eq_true h1)
    obtain ⟨-, h2, h3, -, -, hc⟩ := HT
    rcases hc with hc | ⟨b, off, rfl, hc⟩
    · simp at hc
    have c0 := hc 0 (by simp)
    simp at c0
    clear hd hc
    go_enter Tryd.func15, Tryd.ntmps15
    go_wp2_with (go_at_call 43; refine (trim_c _ _ _ l _ H.out).mono ?_; rw [HE.out]; rintro e w' ⟨rfl, rfl⟩)
    go_ret2
    rw [hv.out, hb.out]
    exact ⟨rfl, Dr.refl _⟩
  | [x, y], hd, HT, HE =>
    obtain ⟨h0, h1⟩ := uint_two hd
    have hx := HT.lim.head
    have hy := HT.lim.tail.head
    rw [BB_eq] at hx hy
    have hv : Hid (uintV n = x + 4294967296 * y) := Lib.hid ((if_pos h1).trans h0)
    have hb : Hid (uintB n = true) := Lib.hid (decide_eq_true h1)
    obtain ⟨-, h2, h3, -, -, hc⟩ := HT
    rcases hc with hc | ⟨b, off, rfl, hc⟩
    · simp at hc
    have c0 := hc 0 (by simp)
    have c1 := hc 1 (by simp)
    simp at c0 c1
    clear hd hc h0 h1
    go_enter Tryd.func15, Tryd.ntmps15
    go_wp2_with (go_at_call 43; refine (trim_c _ _ _ l _ H.out).mono ?_; rw [HE.out]; rintro e w' ⟨rfl, rfl⟩)
    go_quiet (fail)
    go_wp2
    go_ret2
    rw [hv.out, hb.out]
    exact ⟨ret_two (val_int (or64 x y hx hy)) rfl, ⟨_, rfl⟩⟩
  | x :: y :: z :: r, hd, HT, HE =>
    have h1 := uint_more (n := n) (by rw [hd]; simp)
    have hv : Hid (uintV n = 0) := Lib.hid (if_neg h1)
    have hb : Hid (uintB n = false) := Lib.hid (decide_eq_false h1)
    have hne : 3 ≤ (x :: y :: z :: r).length := by simp
    obtain ⟨m, hm⟩ : ∃ m, (x :: y :: z :: r).length = m := ⟨_, rfl⟩
    rw [hm] at HE hne
    clear hd HT hm h1
    go_enter Tryd.func15, Tryd.ntmps15
    go_wp2_with (go_at_call 43; refine (trim_c _ _ _ l _ H.out).mono ?_; rw [HE.out]; rintro e w' ⟨rfl, rfl⟩)
    go_ret2
    rw [hv.out, hb.out]
    exact ⟨rfl, Dr.refl _⟩
set_option maxHeartbeats 800000 in
theorem ruint_c (a : Option Addr) (len cap : Nat) (l : List Nat) (w : World) (h : Rd w a len cap l) (hlb : len ≤ 1048576) :
    Calls Tryd.prog 16 #[.slice a len cap] w fun e w' => e = .returned (.tuple #[.int .u64 (uintV (nv l) : Nat), .bool (uintB (nv l))]) ∧ Below w.heap.size w w' := by
  have C := rmake_c _ _ _ _ _ h hlb
  obtain ⟨n, hn⟩ : ∃ n, nv l = n := ⟨_, rfl⟩
  rw [hn] at C ⊢
  have HC := Lib.hid C
  obtain ⟨d, hd⟩ : ∃ d, dig n = d := ⟨_, rfl⟩
  have HD := Lib.hid hd
  clear h hn C
  match d, hd, HD with
  | [], hd, HD =>
    have h0 := dig_nil_iff.1 hd
    subst h0
    clear hd
    go_enter Tryd.func16, Tryd.ntmps16
    go_wp2_with (go_at_call 18; refine HC.out.mono ?_; unfold NPost; rw [HD.out]; rintro e w' ⟨a', c', rfl, hr, hb⟩)
    go_ret2
    exact ⟨rfl, hb⟩
  | [x], hd, HD =>
    obtain ⟨rfl, h1⟩ := uint_one hd
    have hv : Hid (uintV n = n) := Lib.hid (if_pos h1)
    have hb : Hid (uintB n = true) := Lib.hid (decide_eq_true h1)
    clear hd
    go_enter Tryd.func16, Tryd.ntmps16
    go_wp2_with fail
    refine HC.out.mono ?_
    unfold NPost
    rw [HD.out]
    rintro e w' ⟨a', c', rfl, hr, hbl⟩
    obtain ⟨-, h2, h3, -, -, hc⟩ := hr
    rcases hc with hc | ⟨b, off, rfl, hc⟩
    · simp at hc
    have c0 := hc 0 (by simp)
    simp at c0
    clear hc
    go_wp2_with fail
    go_ret2
    rw [hv.out, hb.out]
    exact ⟨rfl, hbl⟩
  | [x, y], hd, HD =>
    obtain ⟨h0, h1⟩ := uint_two hd
    have hv : Hid (uintV n = x + 4294967296 * y) := Lib.hid ((if_pos h1).trans h0)
    have hb : Hid (uintB n = true) := Lib.hid (decide_eq_true h1)
    clear hd h0 h1
    go_enter Tryd.func16, Tryd.ntmps16
    go_wp2_with fail
    refine HC.out.mono ?_
    unfold NPost
    rw [HD.out]
    rintro e w' ⟨a', c', rfl, hr, hbl⟩
    obtain ⟨-, h2, h3, hlim, -, hc⟩ := hr
    rcases hc with hc | ⟨b, off, rfl, hc⟩
    · simp at hc
    have hx := hlim.head
    have hy := hlim.tail.head
    rw [BB_eq] at hx hy
    have c0 := hc 0 (by simp)
    have c1 := hc 1 (by simp)
    simp at c0 c1
    clear hc
    go_wp2_with fail
    go_quiet (fail)
    go_wp2
    go_ret2
    rw [hv.out, hb.out]
    exact ⟨ret_two (val_int (or64' x y hx hy)) rfl, below_dN hbl _⟩
  | x :: y :: z :: r, hd, HD =>
    have h1 := uint_more (n := n) (by rw [hd]; simp)
    have hv : Hid (uintV n = 0) := Lib.hid (if_neg h1)
    have hb : Hid (uintB n = false) := Lib.hid (decide_eq_false h1)
    have hne : 3 ≤ (x :: y :: z :: r).length := by simp
    obtain ⟨m, hm⟩ : ∃ m, (x :: y :: z :: r).length = m := ⟨_, rfl⟩
    have HE : Hid ((dig n).length = m) := Lib.hid (by rw [hd]; exact hm)
    rw [hm] at hne
    clear hd HD hm h1
    go_enter Tryd.func16, Tryd.ntmps16
    go_wp2_with fail
    refine HC.out.mono ?_
    unfold NPost
    rw [HE.out]
    rintro e w' ⟨a', c', rfl, hr, hbl⟩
    go_wp2_with fail
    go_ret2
    rw [hv.out, hb.out]
    exact ⟨rfl, hbl⟩
end Go.Proofs.YtgoiechhhnhgaaaDoor
