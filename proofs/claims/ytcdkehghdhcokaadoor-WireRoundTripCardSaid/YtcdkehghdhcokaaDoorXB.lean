/- Merged by program from: X2 X3 X4. -/
import Derived.Test.YtcdkehghdhcokaaDoorXA
import Derived.Test.YtcdkehghdhcokaaDoorW8
import Derived.Test.YtcdkehghdhcokaaDoorW5
import Derived.Test.YtcdkehghdhcokaaDoorW6
import Derived.Lib.Zigzag
import Derived.Laws.BitsAllLaws
import Derived.Deep.RegionHeld3
import Derived.Deep.Cut
namespace Go.Proofs.YtcdkehghdhcokaaDoor.wr
open Go.RowKit
set_option linter.unusedVariables false
set_option linter.unusedSimpArgs false
/-- a reader of type t at block R: what lies before it, none if it failed -/
def St (t : Nat) (w : World) (R : Nat) : Option (List Int) → Prop
  | some L => ∃ a c, w.heap[R]? = some (.cells #[.slice a L.length c, .bool false] t (0, 0)) ∧ SlB w a L.length c L ∧ ∀ b off, a = some ⟨b, off, none⟩ → 0 < L.length → b ≠ R
  | none => w.heap[R]? = some (.cells #[.slice none 0 0, .bool true] t (0, 0))
theorem St.blk {t : Nat} {w : World} {R : Nat} {s : Option (List Int)} (h : St t w R s) : ∃ v b, w.heap[R]? = some (.cells #[v, .bool b] t (0, 0)) ∧ ∃ a n c, v = .slice a n c := by
  cases s with
  | none => exact ⟨_, _, h, _, _, _, rfl⟩
  | some L => obtain ⟨a, c, h1, _, _⟩ := h; exact ⟨_, _, h1, _, _, _, rfl⟩
theorem St.lt {t : Nat} {w : World} {R : Nat} {s : Option (List Int)} (h : St t w R s) : R < w.heap.size := by
  obtain ⟨_, _, h, _⟩ := h.blk
  exact (Array.getElem?_eq_some_iff.1 h).1
theorem SlB.past {w w' : World} {a : Option Addr} {n c R t : Nat} {L : List Int} {s : Option (List Int)} (h : SlB w a n c L) (h0 : St t w R s) (hg : w.grownBy w' (some R)) : SlB w' a n c L := by
  obtain ⟨h1, h2, h3, h4, h5⟩ := h
  refine ⟨h1, h2, h3, h4, ?_⟩
  rcases h5 with h5 | ⟨b, off, e, hlt, hc⟩
  · exact .inl h5
  · by_cases hn : n = 0
    · exact .inl hn
    · have hbR : b ≠ R := by
        rintro rfl
        obtain ⟨v, bb, r1, a0, n0, c0, rfl⟩ := h0.blk
        have k := hc 0 (by omega)
        rw [cell_of_row w b (off + 0) _ t (0, 0) r1] at k
        match off with
        | 0 => simp at k
        | 1 => simp at k
        | j + 2 => simp at k
      exact .inr ⟨b, off, e, Nat.lt_of_lt_of_le hlt hg.size, fun i hi => hg.cell (hc i hi) (by simpa using hbR)⟩
theorem SlW.past {w w' : World} {a : Option Addr} {n c R t : Nat} {L : List Int} {s : Option (List Int)} (h : SlW w a n c L) (h0 : St t w R s) (hg : w.grownBy w' (some R)) : SlW w' a n c L := by
  obtain ⟨h1, h2, h3, h4, h5⟩ := h
  refine ⟨h1, h2, h3, h4, ?_⟩
  rcases h5 with h5 | ⟨b, off, e, hlt, hc⟩
  · exact .inl h5
  · by_cases hn : n = 0
    · exact .inl hn
    · have hbR : b ≠ R := by
        rintro rfl
        obtain ⟨v, bb, r1, a0, n0, c0, rfl⟩ := h0.blk
        have k := hc 0 (by omega)
        rw [cell_of_row w b (off + 0) _ t (0, 0) r1] at k
        match off with
        | 0 => simp at k
        | 1 => simp at k
        | j + 2 => simp at k
      exact .inr ⟨b, off, e, Nat.lt_of_lt_of_le hlt hg.size, fun i hi => hg.cell (hc i hi) (by simpa using hbR)⟩
theorem St.past {w w' : World} {R R' t t' : Nat} {s s' : Option (List Int)} (h : St t' w R' s') (h0 : St t w R s) (hne : R' ≠ R) (hg : w.grownBy w' (some R)) : St t' w' R' s' := by
  have hb := hg.block R' h.lt (fun e => hne (by injection e))
  cases s' with
  | none => exact hb.trans h
  | some L => obtain ⟨a, c, h1, h2, h3⟩ := h; exact ⟨a, c, hb.trans h1, h2.past h0 hg, h3⟩
theorem St.below {w w' : World} {R t : Nat} {s : Option (List Int)} (h : St t w R s) (hb : Below w.heap.size w w') : St t w' R s := by
  have hq := hb.block R h.lt
  cases s with
  | none => exact hq.trans h
  | some L => obtain ⟨a, c, h1, h2, h3⟩ := h; exact ⟨a, c, hq.trans h1, h2.below hb, h3⟩
theorem grown_refl (w : World) (R : Nat) : w.grownBy w (some R) := World.grownBy.refl _ _
/-- what Uint reads -/
def uR : Option (List Int) → Nat × Int × Option (List Int)
  | none => (0, 5, none)
  | some L => match dec L with | none => (0, 5, none) | some (m, T) => (m, 0, some T)
theorem uR_none {L : List Int} (h : dec L = none) : uR (some L) = (0, 5, none) := by unfold uR; dsimp only; rw [h]
theorem uR_some {L T : List Int} {m : Nat} (h : dec L = some (m, T)) : uR (some L) = (m, 0, some T) := by unfold uR; dsimp only; rw [h]
set_option maxHeartbeats 4000000 in
set_option maxRecDepth 100000 in
theorem fail_g (R : Nat) (L : List Int) (w : World) (h : St 63 w R (some L)) :
    Calls Tryd.prog 40 #[.pointer (some ⟨R, 0, none⟩)] w fun e w' => e = .returned (.int .i64 5) ∧ St 63 w' R none ∧ w.grownBy w' (some R) := fail_c R L w h
/-- what Uint does -/
def UPost (w : World) (R : Nat) (r : Nat × Int × Option (List Int)) (e : Ending) (w' : World) : Prop := e = .returned (.tuple #[.int .u64 (r.1 : Nat), .int .i64 r.2.1]) ∧ St 63 w' R r.2.2 ∧ w.grownBy w' (some R)
set_option maxHeartbeats 4000000 in
set_option maxRecDepth 100000 in
theorem uint_bad (R : Nat) (w : World) (h : St 63 w R none) : Calls Tryd.prog 20 #[.pointer (some ⟨R, 0, none⟩)] w (UPost w R (0, 5, none)) := by
  have H := Lib.hid h
  have k1 := cell_of_row w R 1 _ 63 (0, 0) h
  change w.cell? ⟨R, 1, none⟩ = some (.bool true) at k1
  clear h
  go_enter Tryd.func20, Tryd.ntmps20
  go_wp2
  refine bodyPost_ret (results_tmp2 rfl _ _ _) rfl ?_
  exact ⟨rfl, H.out, grown_refl _ _⟩
set_option maxHeartbeats 4000000 in
set_option maxRecDepth 100000 in
theorem uint_none (R : Nat) (L : List Int) (w : World) (h : St 63 w R (some L)) (hby : Bytes L) (hd : dec L = none) : Calls Tryd.prog 20 #[.pointer (some ⟨R, 0, none⟩)] w (UPost w R (0, 5, none)) := by
  have H := Lib.hid h
  obtain ⟨a, c, h1, h2, h3⟩ := h
  have k0 := cell_of_row w R 0 _ 63 (0, 0) h1
  have k1 := cell_of_row w R 1 _ 63 (0, 0) h1
  obtain ⟨n, hn⟩ : ∃ n, L.length = n := ⟨_, rfl⟩
  rw [hn] at h2 k0
  have HL := leading_c a n c L w h2 hby
  rw [hd] at HL
  have HL2 := Lib.hid HL
  have FL := Lib.hid (fail_g R L w H.out)
  change w.cell? ⟨R, 0, none⟩ = some (.slice a n c) at k0
  change w.cell? ⟨R, 1, none⟩ = some (.bool false) at k1
  clear h1 h2 h3 hby hd hn HL
  go_enter Tryd.func20, Tryd.ntmps20
  go_wp2_with fail
  refine HL2.out.mono ?_
  rintro e w1 ⟨rfl, rfl⟩
  simp only [leadR]
  go_wp2_with fail
  refine FL.out.mono ?_
  rintro e w2 ⟨rfl, hs, hg⟩
  have HS := Lib.hid hs
  have GG := Lib.hid hg
  clear hs hg
  go_wp2
  refine bodyPost_ret (results_tmp2 rfl _ _ _) rfl ?_
  exact ⟨rfl, HS.out, GG.out⟩
theorem uint_g (R : Nat) (s : Option (List Int)) (w : World) (h : St 63 w R s) (hby : ∀ L, s = some L → Bytes L) : Calls Tryd.prog 20 #[.pointer (some ⟨R, 0, none⟩)] w (UPost w R (uR s)) := by
  cases s with
  | none => exact uint_bad R w h
  | some L =>
    cases hd : dec L with
    | none => rw [uR_none hd]; exact uint_none R L w h (hby L rfl) hd
    | some p =>
      obtain ⟨m, T⟩ := p
      rw [uR_some hd]
      obtain ⟨e1, e2⟩ := dec_grp (hby L rfl) hd
      have hb := hby L rfl
      subst e1
      exact uint_c R m T w h hb e2
theorem uR_by {s : Option (List Int)} (hby : ∀ L, s = some L → Bytes L) : ∀ T, (uR s).2.2 = some T → Bytes T := by
  intro T h
  cases s with
  | none => cases h
  | some L =>
    cases hd : dec L with
    | none => rw [uR_none hd] at h; cases h
    | some p =>
      obtain ⟨m, T'⟩ := p
      rw [uR_some hd] at h
      injection h with h
      subst h
      have hb := hby L rfl
      rw [(dec_grp hb hd).1] at hb
      exact hb.right
/-- how much is left -/
def lft : Option (List Int) → Nat
  | none => 0
  | some L => L.length
/-- what Done answers -/
def dn : Option (List Int) → Int
  | none => 5
  | some L => if L.length = 0 then 0 else 5
set_option maxHeartbeats 4000000 in
set_option maxRecDepth 100000 in
theorem left_g (R : Nat) (s : Option (List Int)) (w : World) (h : St 63 w R s) :
    Calls Tryd.prog 11 #[.pointer (some ⟨R, 0, none⟩)] w fun e w' => e = .returned (.int .i64 (lft s : Nat)) ∧ w' = w := by
  cases s with
  | some L => exact left_c R L w h
  | none =>
    have k0 := cell_of_row w R 0 _ 63 (0, 0) h
    change w.cell? ⟨R, 0, none⟩ = some (.slice none 0 0) at k0
    clear h
    go_enter Tryd.func11, Tryd.ntmps11
    go_wp2
    refine bodyPost_ret (results_tmp rfl _ _ _) rfl ?_
    exact ⟨rfl, rfl⟩
set_option maxHeartbeats 4000000 in
set_option maxRecDepth 100000 in
theorem done_g (R : Nat) (s : Option (List Int)) (w : World) (h : St 63 w R s) :
    Calls Tryd.prog 13 #[.pointer (some ⟨R, 0, none⟩)] w fun e w' => e = .returned (.int .i64 (dn s)) ∧ w' = w := by
  cases s with
  | some L =>
    obtain ⟨a, c, h1, h2, h3⟩ := h
    have k0 := cell_of_row w R 0 _ 63 (0, 0) h1
    have k1 := cell_of_row w R 1 _ 63 (0, 0) h1
    unfold dn
    obtain ⟨n, hn⟩ : ∃ n, L.length = n := ⟨_, rfl⟩
    simp only [hn] at k0 ⊢
    change w.cell? ⟨R, 0, none⟩ = some (.slice a n c) at k0
    change w.cell? ⟨R, 1, none⟩ = some (.bool false) at k1
    clear h1 h2 h3
    by_cases h0 : n = 0
    · subst h0
      go_enter Tryd.func13, Tryd.ntmps13
      go_wp2
      refine bodyPost_ret (results_tmp rfl _ _ _) rfl ?_
      exact ⟨rfl, rfl⟩
    · rw [if_neg h0]
      have hp : (0 : Int) < (n : Int) := by omega
      go_enter Tryd.func13, Tryd.ntmps13
      go_wp2
      refine bodyPost_ret (results_tmp rfl _ _ _) rfl ?_
      exact ⟨rfl, rfl⟩
  | none =>
    have k1 := cell_of_row w R 1 _ 63 (0, 0) h
    change w.cell? ⟨R, 1, none⟩ = some (.bool true) at k1
    clear h
    go_enter Tryd.func13, Tryd.ntmps13
    go_wp2
    refine bodyPost_ret (results_tmp rfl _ _ _) rfl ?_
    exact ⟨rfl, rfl⟩
theorem and1 (m : Nat) (h : m < 18446744073709551616) : bits .and .u64 (m : Int) 1 = ((m % 2 : Nat) : Int) := by
  have := u64_and_nat m 1 h (by omega)
  rw [show ((1 : Nat) : Int) = 1 from rfl] at this
  rw [this, Nat.and_one_is_mod]
theorem xorI0 (k : Nat) (h : k < 9223372036854775808) : bits .xor .i64 (k : Int) 0 = (k : Int) := by
  show IntKind.i64.wrap ((BitVec.ofInt 64 (k : Int) ^^^ BitVec.ofInt 64 0).toNat : Int) = _
  have h2 : (BitVec.ofInt 64 (k : Int)).toNat = k := by
    rw [BitVec.ofInt_natCast, BitVec.toNat_ofNat]; exact Nat.mod_eq_of_lt (by omega)
  have h1 : (BitVec.ofInt 64 0).toNat = 0 := by decide
  rw [BitVec.toNat_xor, h1, h2, Nat.xor_zero, IntKind.wrap_i64]
  omega
theorem xorI1 (k : Nat) (h : k < 9223372036854775808) : bits .xor .i64 (k : Int) (-1) = -(k : Int) - 1 := by
  have := Lib.i64_not k h
  rw [← this]
  unfold bits
  simp only []
  rw [BitVec.xor_comm]

/-- a number with its sign in the last bit -/
def uzz (m : Nat) : Int := if m % 2 = 0 then ((m / 2 : Nat) : Int) else -((m / 2 : Nat) : Int) - 1
theorem uR_lt {s : Option (List Int)} (hby : ∀ L, s = some L → Bytes L) : (uR s).1 < 18446744073709551616 := by
  cases s with
  | none => show 0 < _; omega
  | some L =>
    cases hd : dec L with
    | none => rw [uR_none hd]; show 0 < _; omega
    | some p =>
      obtain ⟨m, T⟩ := p
      rw [uR_some hd]
      exact (dec_grp (hby L rfl) hd).2
theorem uR_bad {s : Option (List Int)} (h : (uR s).2.1 ≠ 0) : uR s = (0, 5, none) := by
  cases s with
  | none => rfl
  | some L =>
    cases hd : dec L with
    | none => rw [uR_none hd]
    | some p => obtain ⟨m, T⟩ := p; rw [uR_some hd] at h; exact absurd rfl h
theorem uR_ok {s : Option (List Int)} (h : (uR s).2.1 = 0) : ∃ L m T, s = some L ∧ dec L = some (m, T) ∧ uR s = (m, 0, some T) := by
  cases s with
  | none => cases h
  | some L =>
    cases hd : dec L with
    | none => rw [uR_none hd] at h; cases h
    | some p => obtain ⟨m, T⟩ := p; exact ⟨L, m, T, rfl, hd, uR_some hd⟩
/-- what Int does -/
def IPost (t : Nat) (w : World) (R : Nat) (r : Nat × Int × Option (List Int)) (e : Ending) (w' : World) : Prop := e = .returned (.tuple #[.int .i64 (uzz r.1), .int .i64 r.2.1]) ∧ St t w' R r.2.2 ∧ w.grownBy w' (some R)
set_option maxHeartbeats 4000000 in
set_option maxRecDepth 100000 in
theorem int_g (R : Nat) (s : Option (List Int)) (w : World) (h : St 63 w R s) (hby : ∀ L, s = some L → Bytes L) : Calls Tryd.prog 21 #[.pointer (some ⟨R, 0, none⟩)] w (IPost 63 w R (uR s)) := by
  have HU := Lib.hid (uint_g R s w h hby)
  have hm := uR_lt hby
  by_cases he : (uR s).2.1 = 0
  · obtain ⟨L, m, T, e1, e2, e3⟩ := uR_ok he
    rw [e3] at HU hm ⊢
    clear h hby e1 e2 e3 he
    dsimp only at hm
    by_cases hp : m % 2 = 0
    · obtain ⟨k, rfl⟩ : ∃ k : Nat, m = 2 * k := ⟨m / 2, by omega⟩
      have ez := Lib.hid (show uzz (2 * k) = (k : Int) by unfold uzz; rw [if_pos hp]; omega)
      have a1 := and1 (2 * k) (by omega)
      rw [show 2 * k % 2 = 0 by omega, Int.natCast_mul] at a1
      replace a1 : bits .and .u64 (2 * (k : Int)) 1 = 0 := a1
      have x1 := xorI0 k (by omega)
      have d1 : 2 * (k : Int) / 2 = k := by omega
      unfold IPost
      rw [ez.out]
      clear hp ez
      go_enter Tryd.func21, Tryd.ntmps21
      go_wp2_with fail
      refine HU.out.mono ?_
      rintro e w1 ⟨rfl, hr, hg⟩
      have RR := Lib.hid hr
      have GG := Lib.hid hg
      clear hr hg HU
      rw [show ((2 * k : Nat) : Int) = 2 * (k : Int) by omega]
      go_wp2
      refine bodyPost_ret (results_tmp2 rfl _ _ _) rfl ?_
      exact ⟨rfl, RR.out, GG.out⟩
    · obtain ⟨k, rfl⟩ : ∃ k : Nat, m = 2 * k + 1 := ⟨m / 2, by omega⟩
      have ez := Lib.hid (show uzz (2 * k + 1) = -(k : Int) - 1 by unfold uzz; rw [if_neg hp]; omega)
      have a1 := and1 (2 * k + 1) (by omega)
      rw [show (2 * k + 1) % 2 = 1 by omega, show ((2 * k + 1 : Nat) : Int) = 2 * (k : Int) + 1 by omega] at a1
      replace a1 : bits .and .u64 (2 * (k : Int) + 1) 1 = 1 := a1
      have x1 := xorI1 k (by omega)
      have d1 : (2 * (k : Int) + 1) / 2 = k := by omega
      unfold IPost
      rw [ez.out]
      clear hp ez
      go_enter Tryd.func21, Tryd.ntmps21
      go_wp2_with fail
      refine HU.out.mono ?_
      rintro e w1 ⟨rfl, hr, hg⟩
      have RR := Lib.hid hr
      have GG := Lib.hid hg
      clear hr hg HU
      rw [show ((2 * k + 1 : Nat) : Int) = 2 * (k : Int) + 1 by omega]
      go_wp2
      refine bodyPost_ret (results_tmp2 rfl _ _ _) rfl ?_
      exact ⟨rfl, RR.out, GG.out⟩
  · have e3 := uR_bad he
    rw [e3] at HU ⊢
    clear h hby e3 he hm
    have ez := Lib.hid (show uzz 0 = 0 from rfl)
    unfold IPost
    rw [ez.out]
    clear ez
    go_enter Tryd.func21, Tryd.ntmps21
    go_wp2_with fail
    refine HU.out.mono ?_
    rintro e w1 ⟨rfl, hr, hg⟩
    have RR := Lib.hid hr
    have GG := Lib.hid hg
    clear hr hg HU
    go_wp2
    refine bodyPost_ret (results_tmp2 rfl _ _ _) rfl ?_
    exact ⟨rfl, RR.out, GG.out⟩

/-- take, where nothing is read -/
def NoTake (w : World) (R : Nat) (e : Ending) (w' : World) : Prop := e = .returned (.tuple #[.slice none 0 0, .int .i64 5]) ∧ St 63 w' R none ∧ w.grownBy w' (some R)
/-- what take answers -/
def Took (w : World) (R : Nat) (B T : List Int) (e : Ending) (w' : World) : Prop := ∃ a c, e = .returned (.tuple #[.slice a B.length c, .int .i64 0]) ∧ SlB w' a B.length c B ∧ St 63 w' R (some T) ∧ w.grownBy w' (some R)
set_option maxHeartbeats 4000000 in
set_option maxRecDepth 100000 in
theorem take_bad (R : Nat) (u : Nat) (s : Option (List Int)) (w : World) (h : St 63 w R s) (hby : ∀ L, s = some L → Bytes L) (hs : uR s = (0, 5, none)) :
    Calls Tryd.prog 41 #[.pointer (some ⟨R, 0, none⟩), .int .i64 (u : Nat)] w (NoTake w R) := by
  have HU := Lib.hid (uint_g R s w h hby)
  rw [hs] at HU
  clear h hby hs
  go_enter Tryd.func41, Tryd.ntmps41
  go_wp2_with fail
  refine HU.out.mono ?_
  rintro e w1 ⟨rfl, hr, hg⟩
  have RR := Lib.hid hr
  have GG := Lib.hid hg
  clear hr hg HU
  go_wp2
  refine bodyPost_ret (results_tmp2 rfl _ _ _) rfl ?_
  exact ⟨rfl, RR.out, GG.out⟩

set_option maxHeartbeats 4000000 in
set_option maxRecDepth 100000 in
theorem take_short1 (R : Nat) (m : Nat) (T : List Int) (w : World) (h : St 63 w R (some (grp m ++ T))) (hby : Bytes (grp m ++ T)) (hm : m < 18446744073709551616) (hT : T.length ≤ 100000) (hs : T.length / 1 < m) :
    Calls Tryd.prog 41 #[.pointer (some ⟨R, 0, none⟩), .int .i64 1] w (NoTake w R) := by
  have HU := Lib.hid (uint_c R m T w h hby hm)
  clear h
  go_enter Tryd.func41, Tryd.ntmps41
  go_wp2_with fail
  refine HU.out.mono ?_
  rintro e w1 ⟨rfl, hr, hg⟩
  have FL := Lib.hid (fail_g R T w1 hr)
  obtain ⟨a, c, h1, h2, h3⟩ := hr
  have GG := Lib.hid hg
  have H1 := Lib.hid h1
  obtain ⟨n, hn⟩ : ∃ n, T.length = n := ⟨_, rfl⟩
  rw [hn] at H1 hs hT
  have k0 := cell_of_row w1 R 0 _ 63 (0, 0) H1.out
  change w1.cell? ⟨R, 0, none⟩ = some (.slice a n c) at k0
  obtain ⟨q, hq⟩ : ∃ q, n / 1 = q := ⟨_, rfl⟩
  rw [hq] at hs
  have hdiv : (n : Int).tdiv 1 = (q : Int) := by rw [Int.tdiv_eq_ediv_of_nonneg (by omega)]; omega
  have hd2 : (n : Int) / 1 = (q : Int) := by omega
  have hmq : (q : Int) < (m : Int) := by omega
  have hq0 : (0 : Int) ≤ (q : Int) := by omega
  have hq1 : (q : Int) ≤ 200000 := by omega
  clear h1 h2 h3 hg HU hq hn
  go_wp2_with fail
  refine FL.out.mono ?_
  rintro e w2 ⟨rfl, hr2, hg2⟩
  have R2 := Lib.hid hr2
  have G2 := Lib.hid (grown_trans GG.out hg2)
  clear hr2 hg2 FL
  go_wp2
  refine bodyPost_ret (results_tmp2 rfl _ _ _) rfl ?_
  exact ⟨rfl, R2.out, G2.out⟩
set_option maxHeartbeats 4000000 in
set_option maxRecDepth 100000 in
theorem take_ok1 (R : Nat) (k : Nat) (B T : List Int) (w : World) (h : St 63 w R (some (grp k ++ (B ++ T)))) (hby : Bytes (grp k ++ (B ++ T))) (hB : B.length = k * 1) (hT : (B ++ T).length ≤ 100000) :
    Calls Tryd.prog 41 #[.pointer (some ⟨R, 0, none⟩), .int .i64 1] w (Took w R B T) := by
  have hl0 : (B ++ T).length = B.length + T.length := List.length_append
  have HU := Lib.hid (uint_c R k (B ++ T) w h hby (by omega))
  clear h hby
  go_enter Tryd.func41, Tryd.ntmps41
  go_wp2_with fail
  refine HU.out.mono ?_
  rintro e w1 ⟨rfl, ⟨a, c, h1, h2, h3⟩, hg⟩
  have GG := Lib.hid hg
  have hl := Lib.hid hl0
  have hnc := h2.2.1
  have hc63 := h2.2.2.1
  have H1 := Lib.hid h1
  have H2 := Lib.hid h2
  have H3 := Lib.hid h3
  obtain ⟨n, hn⟩ : ∃ n, (B ++ T).length = n := ⟨_, rfl⟩
  obtain ⟨m, hm⟩ : ∃ m, B.length = m := ⟨_, rfl⟩
  have HM := Lib.hid hm
  rw [hn] at H1 hl hnc H2 H3 hT
  rw [hm] at hl hB
  have hTl : Hid (T.length = n - m) := Lib.hid (by have := hl.out; omega)
  have k0 := cell_of_row w1 R 0 _ 63 (0, 0) H1.out
  change w1.cell? ⟨R, 0, none⟩ = some (.slice a n c) at k0
  have f0 := frozen_of_row w1 R 0 _ 63 H1.out
  have hmn : (m : Int) ≤ (n : Int) := by have := hl.out; omega
  have hm0 : (0 : Int) ≤ (m : Int) := by omega
  have hk0 : (0 : Int) ≤ (k : Int) := by omega
  have hn64 : (n : Int) ≤ 200000 := by omega
  have hmn2 : m ≤ n := by omega
  have hmc : m ≤ c := by omega
  have hmc2 : (m : Int) ≤ (c : Int) := by omega
  have hk9 : (k : Int) ≤ 200000 := by omega
  have hmul : (k : Int) * 1 = (m : Int) := by omega
  obtain ⟨q, hq⟩ : ∃ q, n / 1 = q := ⟨_, rfl⟩
  have hdiv : (n : Int).tdiv 1 = (q : Int) := by rw [Int.tdiv_eq_ediv_of_nonneg (by omega)]; omega
  have hd2 : (n : Int) / 1 = (q : Int) := by omega
  have hmq : (k : Int) ≤ (q : Int) := by omega
  have hq1 : (q : Int) ≤ 200000 := by omega
  clear h1 h2 h3 hg HU hq hn hl0 hB hm
  obtain rfl : k = m := by omega
  have hmn3 : k ≤ n := hmn2
  cases a with
  | none =>
    obtain ⟨hn0, hc0⟩ := H2.out.2.2.2.1 rfl
    subst hn0
    subst hc0
    obtain rfl : k = 0 := by omega
    obtain rfl : B = [] := List.eq_nil_of_length_eq_zero HM.out
    obtain rfl : T = [] := List.eq_nil_of_length_eq_zero (by have := hTl.out; omega)
    go_wp2
    refine bodyPost_ret (results_tmp2 rfl _ _ _) rfl ?_
    refine ⟨none, 0, rfl, SlB.nil _, ⟨none, 0, ?_, SlB.nil _, fun _ _ e => by cases e⟩, grown_trans GG.out (grown_set w1 R 0 _)⟩
    rw [heap_setCell_same w1 R 0 _ 63 _ H1.out]; rfl
  | some y =>
    have hne : ∀ b off, some y = some ⟨b, off, none⟩ → 0 < n → b ≠ R := H3.out
    go_wp2
    · have h0 : Hid (n - k = 0) := Lib.hid (by omega)
      refine bodyPost_ret (results_tmp2 rfl _ _ _) rfl ?_
      refine ⟨some y, k, by rw [HM.out]; rfl, by rw [HM.out]; have := take_ok (v := .slice (some y) (n - k) 0) H2.out HM.out hmn2 H3.out; rw [h] at this; exact this, ⟨some y, 0, ?_, ?_, ?_⟩, grown_trans GG.out (grown_set w1 R 0 _)⟩
      · rw [hTl.out, heap_setCell_same w1 R 0 _ 63 _ H1.out]; rfl
      · exact ⟨rfl, by rw [hTl.out, h0.out]; exact Nat.le_refl _, by omega, fun h => (by cases h), .inl (by rw [hTl.out, h0.out])⟩
      · intro b' off' e hp
        rw [hTl.out, h0.out] at hp
        exact absurd hp (by omega)
    · have HD := drop_ok (v := .slice (some (y.add k)) (n - k) (c - k)) H2.out HM.out hmn2 H3.out
      refine bodyPost_ret (results_tmp2 rfl _ _ _) rfl ?_
      refine ⟨some y, c, by rw [HM.out]; rfl, by rw [HM.out]; exact take_ok H2.out HM.out hmn2 H3.out, ⟨some (y.add k), c - k, ?_, ?_, ?_⟩, grown_trans GG.out (grown_set w1 R 0 _)⟩
      · rw [hTl.out, heap_setCell_same w1 R 0 _ 63 _ H1.out]; rfl
      · rw [hTl.out]; exact HD.1
      · rw [hTl.out]; exact HD.2

set_option maxHeartbeats 4000000 in
set_option maxRecDepth 100000 in
theorem take_short4 (R : Nat) (m : Nat) (T : List Int) (w : World) (h : St 63 w R (some (grp m ++ T))) (hby : Bytes (grp m ++ T)) (hm : m < 18446744073709551616) (hT : T.length ≤ 100000) (hs : T.length / 4 < m) :
    Calls Tryd.prog 41 #[.pointer (some ⟨R, 0, none⟩), .int .i64 4] w (NoTake w R) := by
  have HU := Lib.hid (uint_c R m T w h hby hm)
  clear h
  go_enter Tryd.func41, Tryd.ntmps41
  go_wp2_with fail
  refine HU.out.mono ?_
  rintro e w1 ⟨rfl, hr, hg⟩
  have FL := Lib.hid (fail_g R T w1 hr)
  obtain ⟨a, c, h1, h2, h3⟩ := hr
  have GG := Lib.hid hg
  have H1 := Lib.hid h1
  obtain ⟨n, hn⟩ : ∃ n, T.length = n := ⟨_, rfl⟩
  rw [hn] at H1 hs hT
  have k0 := cell_of_row w1 R 0 _ 63 (0, 0) H1.out
  change w1.cell? ⟨R, 0, none⟩ = some (.slice a n c) at k0
  obtain ⟨q, hq⟩ : ∃ q, n / 4 = q := ⟨_, rfl⟩
  rw [hq] at hs
  have hdiv : (n : Int).tdiv 4 = (q : Int) := by rw [Int.tdiv_eq_ediv_of_nonneg (by omega)]; omega
  have hd2 : (n : Int) / 4 = (q : Int) := by omega
  have hmq : (q : Int) < (m : Int) := by omega
  have hq0 : (0 : Int) ≤ (q : Int) := by omega
  have hq1 : (q : Int) ≤ 200000 := by omega
  clear h1 h2 h3 hg HU hq hn
  go_wp2_with fail
  refine FL.out.mono ?_
  rintro e w2 ⟨rfl, hr2, hg2⟩
  have R2 := Lib.hid hr2
  have G2 := Lib.hid (grown_trans GG.out hg2)
  clear hr2 hg2 FL
  go_wp2
  refine bodyPost_ret (results_tmp2 rfl _ _ _) rfl ?_
  exact ⟨rfl, R2.out, G2.out⟩
set_option maxHeartbeats 4000000 in
set_option maxRecDepth 100000 in
theorem take_ok4 (R : Nat) (k : Nat) (B T : List Int) (w : World) (h : St 63 w R (some (grp k ++ (B ++ T)))) (hby : Bytes (grp k ++ (B ++ T))) (hB : B.length = k * 4) (hT : (B ++ T).length ≤ 100000) :
    Calls Tryd.prog 41 #[.pointer (some ⟨R, 0, none⟩), .int .i64 4] w (Took w R B T) := by
  have hl0 : (B ++ T).length = B.length + T.length := List.length_append
  have HU := Lib.hid (uint_c R k (B ++ T) w h hby (by omega))
  clear h hby
  go_enter Tryd.func41, Tryd.ntmps41
  go_wp2_with fail
  refine HU.out.mono ?_
  rintro e w1 ⟨rfl, ⟨a, c, h1, h2, h3⟩, hg⟩
  have GG := Lib.hid hg
  have hl := Lib.hid hl0
  have hnc := h2.2.1
  have hc63 := h2.2.2.1
  have H1 := Lib.hid h1
  have H2 := Lib.hid h2
  have H3 := Lib.hid h3
  obtain ⟨n, hn⟩ : ∃ n, (B ++ T).length = n := ⟨_, rfl⟩
  obtain ⟨m, hm⟩ : ∃ m, B.length = m := ⟨_, rfl⟩
  have HM := Lib.hid hm
  rw [hn] at H1 hl hnc H2 H3 hT
  rw [hm] at hl hB
  have hTl : Hid (T.length = n - m) := Lib.hid (by have := hl.out; omega)
  have k0 := cell_of_row w1 R 0 _ 63 (0, 0) H1.out
  change w1.cell? ⟨R, 0, none⟩ = some (.slice a n c) at k0
  have f0 := frozen_of_row w1 R 0 _ 63 H1.out
  have hmn : (m : Int) ≤ (n : Int) := by have := hl.out; omega
  have hm0 : (0 : Int) ≤ (m : Int) := by omega
  have hk0 : (0 : Int) ≤ (k : Int) := by omega
  have hn64 : (n : Int) ≤ 200000 := by omega
  have hmn2 : m ≤ n := by omega
  have hmc : m ≤ c := by omega
  have hmc2 : (m : Int) ≤ (c : Int) := by omega
  have hk9 : (k : Int) ≤ 200000 := by omega
  have hmul : (k : Int) * 4 = (m : Int) := by omega
  obtain ⟨q, hq⟩ : ∃ q, n / 4 = q := ⟨_, rfl⟩
  have hdiv : (n : Int).tdiv 4 = (q : Int) := by rw [Int.tdiv_eq_ediv_of_nonneg (by omega)]; omega
  have hd2 : (n : Int) / 4 = (q : Int) := by omega
  have hmq : (k : Int) ≤ (q : Int) := by omega
  have hq1 : (q : Int) ≤ 200000 := by omega
  clear h1 h2 h3 hg HU hq hn hl0 hB hm
  cases a with
  | none =>
    obtain ⟨hn0, hc0⟩ := H2.out.2.2.2.1 rfl
    subst hn0
    subst hc0
    obtain rfl : m = 0 := by omega
    obtain rfl : B = [] := List.eq_nil_of_length_eq_zero HM.out
    obtain rfl : T = [] := List.eq_nil_of_length_eq_zero (by have := hTl.out; omega)
    obtain rfl : k = 0 := by omega
    go_wp2
    refine bodyPost_ret (results_tmp2 rfl _ _ _) rfl ?_
    refine ⟨none, 0, rfl, SlB.nil _, ⟨none, 0, ?_, SlB.nil _, fun _ _ e => by cases e⟩, grown_trans GG.out (grown_set w1 R 0 _)⟩
    rw [heap_setCell_same w1 R 0 _ 63 _ H1.out]; rfl
  | some y =>
    have hne : ∀ b off, some y = some ⟨b, off, none⟩ → 0 < n → b ≠ R := H3.out
    go_wp2
    · have h0 : Hid (n - m = 0) := Lib.hid (by omega)
      refine bodyPost_ret (results_tmp2 rfl _ _ _) rfl ?_
      refine ⟨some y, m, by rw [HM.out]; rfl, by rw [HM.out]; have := take_ok (v := .slice (some y) (n - m) 0) H2.out HM.out hmn2 H3.out; rw [h] at this; exact this, ⟨some y, 0, ?_, ?_, ?_⟩, grown_trans GG.out (grown_set w1 R 0 _)⟩
      · rw [hTl.out, heap_setCell_same w1 R 0 _ 63 _ H1.out]; rfl
      · exact ⟨rfl, by rw [hTl.out, h0.out]; exact Nat.le_refl _, by omega, fun h => (by cases h), .inl (by rw [hTl.out, h0.out])⟩
      · intro b' off' e hp
        rw [hTl.out, h0.out] at hp
        exact absurd hp (by omega)
    · have HD := drop_ok (v := .slice (some (y.add m)) (n - m) (c - m)) H2.out HM.out hmn2 H3.out
      refine bodyPost_ret (results_tmp2 rfl _ _ _) rfl ?_
      refine ⟨some y, c, by rw [HM.out]; rfl, by rw [HM.out]; exact take_ok H2.out HM.out hmn2 H3.out, ⟨some (y.add m), c - m, ?_, ?_, ?_⟩, grown_trans GG.out (grown_set w1 R 0 _)⟩
      · rw [hTl.out, heap_setCell_same w1 R 0 _ 63 _ H1.out]; rfl
      · rw [hTl.out]; exact HD.1
      · rw [hTl.out]; exact HD.2
theorem info32 : (Tryd.prog.info? 60).map (fun i => (i.zero, i.size, i.bytes)) = some (some (.int .u32 0), 1, 4) := by kernel_rfl
/-- a list of limbs of the call's own -/
def OwnW (w : World) (base : Nat) (v : Value) (L : List Int) : Prop := w.ownsRow base 60 1 v L.length (vals .u32 L)
theorem OwnW.slice {w : World} {base : Nat} {v : Value} {L : List Int} (h : OwnW w base v L) : ∃ a c, v = .slice a L.length c := by
  rcases h.2 with ⟨rfl, h0⟩ | ⟨g, cap, cur, rfl, _⟩
  · exact ⟨_, 0, by rw [h0]⟩
  · exact ⟨_, _, rfl⟩
theorem OwnW.below {w w' : World} {base : Nat} {v : Value} {L : List Int} (h : OwnW w base v L) (hb : Below w.heap.size w w') : OwnW w' base v L := by
  obtain ⟨h1, h2⟩ := h
  refine ⟨h1, ?_⟩
  rcases h2 with h2 | ⟨g, cap, cur, hv, hg, hh, r⟩
  · exact .inl h2
  · refine .inr ⟨g, cap, cur, hv, hg, ?_, r⟩
    rw [hb.block g (Array.getElem?_eq_some_iff.1 hh).1]; exact hh
theorem OwnW.nil (w : World) (base : Nat) : OwnW w base (.slice none 0 0) [] := ⟨rfl, .inl ⟨rfl, rfl⟩⟩
theorem OwnW.sl {w : World} {base : Nat} {a : Option Addr} {n c : Nat} {L : List Int} (h : OwnW w base (.slice a n c) L) (hl : L.length = n) (hr : ∀ x ∈ L, 0 ≤ x ∧ x < 4294967296) : SlW w a n c L ∧ (a = none → c = 0) := by
  rcases id h.2 with ⟨hv, h0⟩ | ⟨g, cap, cur, hv, hg, hh, h1, h2, _⟩
  · injection hv with e1 e2 e3
    subst e1; subst e3; subst e2
    exact ⟨⟨hl, by omega, by omega, hr, .inl rfl⟩, fun _ => rfl⟩
  · injection hv with e1 e2 e3
    subst e1; subst e3
    refine ⟨⟨hl, by omega, by unfold maxLen at h2; omega, hr, .inr ⟨g, 0, rfl, (Array.getElem?_eq_some_iff.1 hh).1, fun i hi => ?_⟩⟩, fun h => (by cases h)⟩
    have k0 := World.ownsRow.cells h (g := g) rfl _ _ (vals_at (k := .u32) (l := L) (i := i) (by omega))
    rw [Addr.add_mid] at k0
    exact k0
theorem one_srcw (w : World) (x : Int) : Src Tryd.prog 1 35 (.slice (some ⟨w.heap.size, 0, none⟩) 1 1) 1 (vals .u32 [x]) (w.alloc (.cells #[.int .u32 x] 60)) := by
  refine Src.ofSlice _ Tryd.underlying35 ⟨w.heap.size, 0, none⟩ 1 1 _ rfl ?_ (vals_one _ _)
  intro j y hy
  match j with
  | 0 =>
    have e : y = .int .u32 x := by simpa using hy.symm
    subst e
    rw [Addr.add_mid, cell_of_row _ w.heap.size _ _ 60 (0, 0) (heap_alloc_new w _)]
    rfl
  | j + 1 => simp at hy
theorem app_ws (w : World) (base : Nat) (v : Value) (L : List Int) (u : Value) (n : Nat) (M : List Int) (ho : OwnW w base v L) (hM : Src Tryd.prog 1 35 u n (vals .u32 M) w) (hn : M.length = n) (hl : L.length + n ≤ 100000) (hb : base ≤ w.heap.size) :
    ∃ v' w', (Builtin.append_ #[35, 35] 35 #[v, u]).run Tryd.prog w = .ok v' w' ∧ OwnW w' base v' (L ++ M) ∧ Below base w w' := by
  obtain ⟨i0, hi0, hz0, hz1, hz2⟩ := info_parts info32
  obtain ⟨v', w', hr, hO, hG⟩ := run_append_own_src (P := Tryd.prog) w base 35 35 35 60 i0 (.int .u32 0) 1 4 Tryd.underlying35 hi0 hz0 hz1 hz2 rfl (by decide) v L.length (vals .u32 L) ho u n (vals .u32 M) hM (by unfold maxLen; omega) (by omega) hb
  refine ⟨v', w', hr, ?_, (Below.refl base w).grown hG hb (fun j hj => (World.ownsRow.lt ho j hj).1)⟩
  unfold OwnW
  rw [List.length_append, hn, vals_append]
  exact hO
theorem upon_append {P : Program} {o : Oper} {a : Act} {w : World} {K : Act → World → Prop} {Q : Exit → Act → World → Prop} (s x : Operand) (t tx : TypeId)
    (ho : o.op = .call { callee := .builtin .append, args := #[s, x], argTypes := #[t, tx] }) (v u v' : Value) (w' : World) (hs : a.eval s = v) (hx : a.eval x = u)
    (hr : (Builtin.append_ #[t, tx] o.type #[v, u]).run P w = .ok v' w') (h : K (a.put o.dst v') w') : Oper.wp P o a w K Q := by
  unfold Oper.wp execOp
  simp only [ho, resolve, invoke, builtin, Sem.run_bind, Sem.run_pure, Result.andThen_ok, List.map_toArray, List.map_cons, List.map_nil, hs, hx, hr]
  exact h
theorem u32_or (a q e : Nat) (he : e ≤ 31) (ha : a < 2 ^ e) (hb : a + q * 2 ^ e < 4294967296) : bits .or .u32 (a : Int) ((q * 2 ^ e : Nat) : Int) = ((a + q * 2 ^ e : Nat) : Int) := by
  rw [u32_or_nat a (q * 2 ^ e) (by omega) (by omega)]
  congr 1
  rw [Nat.or_comm, Nat.mul_comm q, ← Nat.two_pow_add_eq_or_of_lt ha q, Nat.add_comm]
theorem wrap32 {n : Int} (h0 : 0 ≤ n) (h1 : n < 4294967296) : IntKind.u32.wrap n = n := by
  simp only [IntKind.wrap, IntKind.bits, IntKind.signed]
  simp
  omega
end Go.Proofs.YtcdkehghdhcokaaDoor.wr
