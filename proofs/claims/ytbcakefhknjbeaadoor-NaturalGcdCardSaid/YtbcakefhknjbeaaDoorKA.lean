/- Carried over from another seat by program: awake of layer 1, copied. -/
import Derived.Test.YtbcakefhknjbeaaDoorIJ
import Derived.Test.YtbcakefhknjbeaaDoorRR3
namespace Go.Proofs.YtbcakefhknjbeaaDoor
open Go.RowKit
set_option linter.unusedVariables false
theorem copied_c (a : Option Addr) (len cap : Nat) (l : List Nat) (w : World) (h : Rd w a len cap l) (hb : len ≤ 1048576) :
    Calls Tryd.prog 11 #[.slice a len cap] w (CPost l w) := by
  have HL := Lib.hid h.lim
  have HLE := Lib.hid h.len_eq
  have HO := Lib.hid (World.ownsRow_lit (base := w.heap.size) (e := 24) (size := 1) w #[] 0 (Nat.le_refl _) (by decide) (by simp))
  have HR := Lib.hid (h.alloc (.cells #[] 24))
  clear h
  go_enter Tryd.func11, Tryd.ntmps11
  go_wp2_with (at_builtin; refine wpList_append_rd rfl _ _ 23 23 rfl Tryd.underlying23 Tryd.underlying23 w.heap.size _ 0 [] rfl HO.out _ _ _ _ rfl HR.out (by omega) (by simp) ?_)
  intro v w1 hown hgrow
  have hbel : Below w.heap.size w w1 := ((Below.refl _ _).alloc (Nat.le_refl _) _).grown hgrow (by simp) (fun k hk => by simp [Value.ownBlock] at hk; omega)
  clear hgrow
  go_wp2
  go_ret
  exact ⟨_, rfl, by rw [HLE.out]; simpa using hown, HL.out, hbel⟩
theorem copied_n {w : World} {v : Value} {l : List Nat} (h : Lm w v l) (hb : l.length ≤ 1048576) :
    Calls Tryd.prog 11 #[v] w fun e w' => ∃ u, e = .returned u ∧ Lm w' u l ∧ Keep w w' := by
  obtain ⟨a, len, cap, rfl, hr⟩ := h
  refine (copied_c _ _ _ _ w hr (by rw [← hr.len_eq]; exact hb)).mono ?_
  rintro e w' ⟨u, rfl, ho, hl, hbb⟩
  obtain ⟨a', c', rfl, hr'⟩ := Rd.owns ho hl
  exact ⟨_, rfl, ⟨_, _, _, rfl, hr'⟩, hbb⟩
theorem dig_lit {n : Nat} (h0 : n ≠ 0) (h : n < 4294967296) : dig n = [n] := (dig_one h0 (by rw [BB_eq]; exact h)).symm
theorem sub_ex (a a' : Option Addr) (w : World) (c c' : Nat) (h : Rd w a 2 c [0, 1]) (h' : Rd w a' 1 c' [1]) :
    Calls Tryd.prog 41 #[.slice a 2 c, .slice a' 1 c'] w fun e w' => ∃ b d, e = .returned (.tuple #[.slice b 1 d, .int .i64 0]) ∧ Hid (Rd w' b 1 d [4294967295]) ∧ Below w.heap.size w w' := by
  have := sub_c _ _ _ _ _ _ _ _ w h h' (by omega) (by omega)
  rw [show nv [0, 1] - nv [1] = 4294967295 from by decide, show subE (nv [0, 1]) (nv [1]) = 0 from by decide] at this
  unfold NEPost at this
  rw [dig_lit (n := 4294967295) (by decide) (by decide)] at this
  exact this.mono fun _ _ ⟨b, d, he, hr, hb⟩ => ⟨b, d, he, Lib.hid hr, hb⟩
theorem divMod_ex (a a' : Option Addr) (w : World) (c c' : Nat) (h : Rd w a 3 c [0, 0, 1]) (h' : Rd w a' 2 c' [1, 1]) :
    Calls Tryd.prog 42 #[.slice a 3 c, .slice a' 2 c'] w fun e w' => ∃ b d b2 d2, e = .returned (.tuple #[.slice b 1 d, .slice b2 1 d2, .int .i64 0]) ∧ Hid (Rd w' b 1 d [4294967295]) ∧ Hid (Rd w' b2 1 d2 [1]) ∧ Below w.heap.size w w' := by
  have := divMod_c _ _ _ _ _ _ _ _ w h h' (by omega)
  rw [show nv [0, 0, 1] / nv [1, 1] = 4294967295 from by decide, show dmR (nv [0, 0, 1]) (nv [1, 1]) = 1 from by decide, show dmE (nv [1, 1]) = 0 from by decide] at this
  unfold DMPost at this
  rw [dig_lit (n := 4294967295) (by decide) (by decide), dig_lit (n := 1) (by decide) (by decide)] at this
  exact this.mono fun _ _ ⟨b, d, b2, d2, he, hr, hr2, hb⟩ => ⟨b, d, b2, d2, he, Lib.hid hr, Lib.hid hr2, hb⟩
theorem of_ex (n : Nat) (h0 : n ≠ 0) (h : n < 4294967296) (w : World) :
    Calls Tryd.prog 43 #[.int .u64 n] w fun e w' => ∃ b d, e = .returned (.slice b 1 d) ∧ Hid (Rd w' b 1 d [n]) ∧ Below w.heap.size w w' := by
  have := of_c n (by omega) w
  unfold NPost at this
  rw [dig_lit h0 h] at this
  exact this.mono fun _ _ ⟨b, d, he, hr, hb⟩ => ⟨b, d, he, Lib.hid hr, hb⟩
theorem gcd_ex (a a' : Option Addr) (w : World) (c c' : Nat) (h : Rd w a 1 c [12]) (h' : Rd w a' 1 c' [18]) (hT : Tab w) :
    Calls Tryd.prog 10 #[.slice a 1 c, .slice a' 1 c'] w fun e w' => ∃ b d, e = .returned (.slice b 1 d) ∧ Hid (Rd w' b 1 d [6]) ∧ Below w.heap.size w w' := by
  have e1 : nv [12] = 12 := by decide
  have e2 : nv [18] = 18 := by decide
  have := gcd_small _ _ _ _ _ _ _ _ w h h' (by rw [e1, dig_lit (by decide) (by decide)]; decide) (by rw [e2, dig_lit (by decide) (by decide)]; decide) hT
  rw [e1, e2, show Nat.gcd 12 18 = 6 from by decide] at this
  unfold NPost at this
  rw [dig_lit (n := 6) (by decide) (by decide)] at this
  exact this.mono fun _ _ ⟨b, d, he, hr, hb⟩ => ⟨b, d, he, Lib.hid hr, hb⟩
theorem same_ex (a a' : Option Addr) (n c c' : Nat) (l : List Nat) (w : World) (h : Rd w a n c l) (h' : Rd w a' n c' l) :
    Calls Tryd.prog 12 #[.slice a n c, .slice a' n c'] w fun e w' => e = .returned (.bool true) ∧ Dr w w' := by
  have := same_c _ _ _ _ _ _ _ _ w h h'
  rw [show eqB l l = true from eqB_all rfl (fun j _ => rfl)] at this
  exact this
theorem bits_ex (a : Option Addr) (c : Nat) (w : World) (h : Rd w a 2 c [0, 1]) :
    Calls Tryd.prog 44 #[.slice a 2 c] w fun e w' => e = .returned (.int .i64 33) ∧ w = w' := by
  have := bits_c _ _ _ _ w h (by omega)
  rw [show nv [0, 1] = 4294967296 from by decide, show bl 4294967296 = 33 from bl_of (k := 32) (by decide) (by decide)] at this
  exact this
theorem make_ex (a : Option Addr) (c : Nat) (w : World) (h : Rd w a 2 c [0, 0]) :
    Calls Tryd.prog 45 #[.slice a 2 c] w fun e w' => ∃ b d, e = .returned (.slice b 0 d) ∧ Below w.heap.size w w' := by
  have := make_c _ _ _ _ w h (by omega)
  unfold NPost at this
  rw [show nv [0, 0] = 0 from by decide, dig_zero] at this
  exact this.mono fun _ _ ⟨b, d, he, hr, hb⟩ => ⟨b, d, he, hb⟩
theorem rd3 (w : World) (x y z : Nat) (X Y Z : Int) (hX : X = x) (hY : Y = y) (hZ : Z = z) (hx : x < BB) (hy : y < BB) (hz : z < BB) (T : TypeId) : Rd (w.alloc (.cells #[.int .u32 X, .int .u32 Y, .int .u32 Z] T)) (some ⟨w.heap.size, 0, none⟩) 3 3 [x, y, z] := by
  subst hX; subst hY; subst hZ
  refine ⟨rfl, by omega, by omega, Lim.cons hx (Lim.cons hy (Lim.cons hz Lim.nil)), (fun h => by cases h), .inr ⟨_, _, rfl, fun i hi => ?_⟩⟩
  match i, hi with
  | 0, _ => simp
  | 1, _ => simp
  | 2, _ => simp
theorem Rd.atB {w : World} {b b' n c : Nat} {l : List Nat} (h : Rd w (some ⟨b, 0, none⟩) n c l) (e : b = b') : Rd w (some ⟨b', 0, none⟩) n c l := e ▸ h
/-- true, and nothing old has changed -/
def TPost (w : World) (e : Ending) (w' : World) : Prop := e = Ending.returned (.bool true) ∧ Below w.heap.size w w'
set_option maxHeartbeats 800000 in
theorem awake1_c (w : World) (hT : Tab w) : Calls Tryd.prog 9 #[] w (TPost w) := by
  have HT := Lib.hid hT
  clear hT
  go_enter Tryd.func9, Tryd.ntmps9
  go_wp2_with fail
  refine Calls.mono (sub_ex _ _ _ _ _ ?_ ?_) ?_
  · exact (Rd.two w 0 1 0 1 rfl rfl (by decide) (by decide) _).alloc _
  · exact (Rd.one' _ 1 1 rfl (by decide) _).atB (sz1 _ _)
  rintro e w1 ⟨b1, d1, rfl, hr1, hb1⟩
  have B1 : Hid (Below w.heap.size w w1) := Lib.hid ((((Below.refl _ _).alloc (Nat.le_refl _) _).alloc (by simp) _).trans (hb1.mono (by simp; omega)))
  clear hb1
  go_wp2_with fail
  refine Calls.mono (divMod_ex _ _ _ _ _ ?_ ?_) ?_
  · exact (rd3 w1 0 0 1 0 0 1 rfl rfl rfl (by decide) (by decide) (by decide) _).alloc _
  · exact (Rd.two _ 1 1 1 1 rfl rfl (by decide) (by decide) _).atB (sz1 _ _)
  rintro e w2 ⟨b2, d2, b3, d3, rfl, hr2, hr3, hb2⟩
  have K2 : Below w1.heap.size w1 w2 := (((Below.refl _ _).alloc (Nat.le_refl _) _).alloc (by simp) _).trans (hb2.mono (by simp; omega))
  have B2 := Lib.hid (B1.out.trans (K2.mono B1.out.size))
  have HR1 := Lib.hid (hr1.out.below K2)
  clear hb2 K2 hr1 B1
  go_wp2_with fail
  refine (of_ex 12 (by decide) (by decide) _).mono ?_
  rintro e w3 ⟨b4, d4, rfl, hr4, hb3⟩
  have B3 := Lib.hid (B2.out.trans (hb3.mono B2.out.size))
  have HR1' := Lib.hid (HR1.out.below hb3)
  have HR2' := Lib.hid (hr2.out.below hb3)
  have HR3' := Lib.hid (hr3.out.below hb3)
  clear hb3 HR1 hr2 hr3 B2
  go_wp2_with fail
  refine (of_ex 18 (by decide) (by decide) _).mono ?_
  rintro e w4 ⟨b5, d5, rfl, hr5, hb4⟩
  have B4 := Lib.hid (B3.out.trans (hb4.mono B3.out.size))
  have HR1 := Lib.hid (HR1'.out.below hb4)
  have HR2 := Lib.hid (HR2'.out.below hb4)
  have HR3 := Lib.hid (HR3'.out.below hb4)
  have HR4 := Lib.hid (hr4.out.below hb4)
  have HT4 := Lib.hid (HT.out.below B4.out)
  clear hb4 HR1' HR2' HR3' hr4 B3
  go_wp2_with fail
  refine (gcd_ex _ _ _ _ _ HR4.out hr5.out HT4.out).mono ?_
  rintro e w5 ⟨b6, d6, rfl, hr6, hb5⟩
  have B5 := Lib.hid (B4.out.trans (hb5.mono B4.out.size))
  have HR1' := Lib.hid (HR1.out.below hb5)
  have HR2' := Lib.hid (HR2.out.below hb5)
  have HR3' := Lib.hid (HR3.out.below hb5)
  clear hb5 HR1 HR2 HR3 HR4 hr5 HT4 B4 HT
  go_wp2_with fail
  refine Calls.mono (same_ex _ _ _ _ _ [4294967295] _ ?_ ?_) ?_
  · exact HR1'.out.alloc _
  · exact Rd.one' _ 4294967295 4294967295 rfl (by decide) _
  rintro e w6 ⟨rfl, hd6⟩
  have K6 : Below w5.heap.size w5 w6 := hd6.below ((Below.refl _ _).alloc (Nat.le_refl _) _)
  have B6 := Lib.hid (B5.out.trans (K6.mono B5.out.size))
  have HR2 := Lib.hid (HR2'.out.below K6)
  have HR3 := Lib.hid (HR3'.out.below K6)
  have HR6 := Lib.hid (hr6.out.below K6)
  clear hd6 K6 HR2' HR3' HR1' hr6 B5
  go_wp2_with fail
  refine Calls.mono (same_ex _ _ _ _ _ [4294967295] _ ?_ ?_) ?_
  · exact HR2.out.alloc _
  · exact Rd.one' _ 4294967295 4294967295 rfl (by decide) _
  rintro e w7 ⟨rfl, hd7⟩
  have K7 : Below w6.heap.size w6 w7 := hd7.below ((Below.refl _ _).alloc (Nat.le_refl _) _)
  have B7 := Lib.hid (B6.out.trans (K7.mono B6.out.size))
  have HR3' := Lib.hid (HR3.out.below K7)
  have HR6' := Lib.hid (HR6.out.below K7)
  clear hd7 K7 HR2 HR3 HR6 B6
  go_wp2_with fail
  refine Calls.mono (same_ex _ _ _ _ _ [1] _ ?_ ?_) ?_
  · exact HR3'.out.alloc _
  · exact Rd.one' _ 1 1 rfl (by decide) _
  rintro e w8 ⟨rfl, hd8⟩
  have K8 : Below w7.heap.size w7 w8 := hd8.below ((Below.refl _ _).alloc (Nat.le_refl _) _)
  have B8 := Lib.hid (B7.out.trans (K8.mono B7.out.size))
  have HR6 := Lib.hid (HR6'.out.below K8)
  clear hd8 K8 HR3' HR6' B7
  go_wp2_with fail
  refine Calls.mono (same_ex _ _ _ _ _ [6] _ ?_ ?_) ?_
  · exact HR6.out.alloc _
  · exact Rd.one' _ 6 6 rfl (by decide) _
  rintro e w9 ⟨rfl, hd9⟩
  have K9 : Below w8.heap.size w8 w9 := hd9.below ((Below.refl _ _).alloc (Nat.le_refl _) _)
  have B9 := Lib.hid (B8.out.trans (K9.mono B8.out.size))
  clear hd9 K9 HR6 B8
  go_wp2_with fail
  refine Calls.mono (bits_ex _ _ _ ?_) ?_
  · exact Rd.two _ 0 1 0 1 rfl rfl (by decide) (by decide) _
  rintro e w10 ⟨rfl, rfl⟩
  go_wp2_with fail
  refine Calls.mono (make_ex _ _ _ ?_) ?_
  · exact (Rd.two _ 0 0 0 0 rfl rfl (by decide) (by decide) _).atB (sz1 _ _)
  rintro e w11 ⟨b7, d7, rfl, hb11⟩
  have K11 : Below w9.heap.size w9 w11 := (((Below.refl _ _).alloc (Nat.le_refl _) _).alloc (by simp) _).trans (hb11.mono (by simp; omega))
  have B11 := Lib.hid (B9.out.trans (K11.mono B9.out.size))
  clear hb11 K11
  go_wp2_with fail
  go_ret
  exact ⟨rfl, B11.out⟩
end Go.Proofs.YtbcakefhknjbeaaDoor
