/- The program: Order. -/
import Derived.Test.YtigokfcoofbdlaaS10
import Derived.Shelf.Abstract
namespace Go.Proofs.Ytigokfcoofbdlaa
open Go.RowKit
set_option linter.unusedVariables false

theorem IOrd.ok {w0 : World} {bl bo : Nat} {la : Option Addr} {n lc u : Nat} (hb1 : w0.heap.size ≤ bl) (hb2 : bl < bo) (hb3 : bo < u) (hla : ∀ k, (Value.slice la n lc).ownBlock = some k → k < bl) :
    StepOk 24 #[.pointer (some ⟨bo, 0, none⟩), .pointer (some ⟨bl, 0, none⟩)] w0 u (IOrd w0 bl bo la n lc u) where
  step := fun W L out i hI hi hp hs hu => step_c w0 bl bo la n lc u hb1 hb2 hb3 hla W L out i hI hi hp hs hu
  keep := fun W W' L out h hg => by
    obtain ⟨h1, h2, ⟨vo, h3, h4⟩, h5, h6, h7⟩ := h
    have hbo := lt_of_block h3
    have hbl := lt_of_block h5
    refine ⟨h1.grown hg (by omega) (fun k hk => by cases hk; omega), by have := hg.size; omega, ⟨vo, ?_, ?_⟩, ?_, ?_, h7⟩
    · rw [hg.block bo hbo (fun e => by have := Option.some.inj e; omega)]; exact h3
    · exact h4.keep hg (by
        cases hv : vo.ownBlock with
        | none => exact .inl rfl
        | some k => exact .inr (fun e => by have := (h4.lt k hv).1; cases e; omega))
    · rw [hg.block bl hbl (fun e => by have := Option.some.inj e; omega)]; exact h5
    · exact h6.keep hg (by
        cases hv : (Value.slice la n lc).ownBlock with
        | none => exact .inl rfl
        | some k => exact .inr (fun e => by have := hla k hv; cases e; omega))
  below := fun W L out h => h.bel
theorem enters24 : ∀ args w, (callFunc 24 args).run Try.prog w = .ok (.enter 24 args) w := enters_of Try.func24 (by kernel_rfl) rfl
/-- what Order answers -/
def OrderSays (w : World) (R : List Nat × Int) (e : Ending) (w' : World) : Prop := ∃ v, e = .returned (.tuple #[v, .int .i64 R.2]) ∧ OwnI w' w.heap.size v (ints R.1) ∧ Below w.heap.size w w'
set_option maxHeartbeats 2000000 in
set_option maxRecDepth 100000 in
theorem order_neg (a0 : Option Addr) (n c0 : Nat) (L : List Int) (a1 : Option Addr) (n1 c1 : Nat) (most : Int) (w : World) (h0 : SlI w a0 n c0 L) (hbad : most < 0 ∨ ∃ i, i < n ∧ L.getD i 0 < 1) :
    Calls Try.prog 11 #[.slice a0 n c0, .slice a1 n1 c1, .int .i64 most] w fun e w' => OrderSays w ([], 1) e w' := by
  have H0 := Lib.hid h0; clear h0
  by_cases hm : most < 0
  · clear hbad
    go_enter Try.func11, Try.ntmps11
    go_wp2
    refine bodyPost_ret (results_tmp2 rfl _ _ _) rfl ?_
    exact ⟨_, rfl, ⟨rfl, .inl ⟨rfl, rfl⟩⟩, Below.refl _ _⟩
  · have HB := Lib.hid (hbad.resolve_left hm)
    clear hbad
    go_enter Try.func11, Try.ntmps11
    go_wp2_with fail
    refine (contains_c a0 n c0 L w H0.out).mono ?_
    rintro e w' ⟨⟨b, rfl, hb⟩, rfl⟩
    have hbt := hb.2 HB.out
    subst hbt
    clear hb
    go_wp2
    refine bodyPost_ret (results_tmp2 rfl _ _ _) rfl ?_
    exact ⟨_, rfl, ⟨rfl, .inl ⟨rfl, rfl⟩⟩, Below.refl _ _⟩
set_option maxHeartbeats 2000000 in
set_option maxRecDepth 100000 in
theorem order_c (a0 : Option Addr) (n c0 : Nat) (L : List Nat) (a1 : Option Addr) (n1 c1 : Nat) (S : List Nat) (most : Int) (w : World) (h0 : SlI w a0 n c0 (ints L)) (z0 : a0 = none → n = 0 ∧ c0 = 0) (hL : L.length = n)
    (hpos : ∀ i, i < n → 0 < L.getD i 0) (hn : n ≤ 12) (hsum : L.sum ≤ 600) (h1 : SlS w a1 n1 c1 S) (hS : ∀ i, S.getD i 0 < 256) (hm : 0 ≤ most) :
    Calls Try.prog 11 #[.slice a0 n c0, .slice a1 n1 c1, .int .i64 most] w fun e w' => OrderSays w (ord S most L.sum L (-1) []) e w' := by
  have H0 := Lib.hid h0; clear h0
  have H1 := Lib.hid h1; clear h1
  have HP := Lib.hid hpos; clear hpos
  have HSB := Lib.hid hS; clear hS
  have HL := Lib.hid hL; clear hL
  have HZ := Lib.hid z0; clear z0
  have HSm := Lib.hid hsum; clear hsum
  obtain ⟨R, hR⟩ : ∃ R, ord S most L.sum L (-1) [] = R := ⟨_, rfl⟩
  rw [hR]
  have HR := Lib.hid hR; clear hR
  go_enter Try.func11, Try.ntmps11
  go_wp2_with fail
  refine (contains_c a0 n c0 (ints L) w H0.out).mono ?_
  rintro e w' ⟨⟨b, rfl, hb⟩, rfl⟩
  obtain rfl : b = false := by
    cases b with
    | false => rfl
    | true =>
      obtain ⟨i, h1, h2⟩ := hb.1 rfl
      have := HP.out i h1
      rw [ints_at] at h2
      omega
  clear hb
  go_wp2_with fail
  refine (clone_c a0 n c0 (ints L) w H0.out HZ.out (by omega)).mono ?_
  rintro e w1 ⟨la, lc, rfl, ho, hnk, hb⟩
  have HO := Lib.hid ho; have BB := Lib.hid hb
  clear ho hb hnk
  have hsz : w.heap.size ≤ w1.heap.size := BB.out.size
  go_upto_region 5 with fail
  obtain ⟨bl, hbl⟩ : ∃ x, w1.heap.size = x := ⟨_, rfl⟩
  have hlo := HO.out.lt
  have I0 : Hid (IOrd w bl (bl + 1) la n lc (bl + 2) ((w1.alloc (.cells #[.slice la n lc] 22)).alloc (.cells #[.slice none 0 0] 22)) L []) := Lib.hid (by
    subst hbl
    refine ⟨(BB.out.alloc hsz _).alloc (by simp; omega) _, by simp, ⟨_, by simpa using heap_alloc_new (w1.alloc (.cells #[.slice la n lc] 22)) (.cells #[.slice none 0 0] 22), ⟨rfl, .inl ⟨rfl, rfl⟩⟩⟩, ?_, ?_, HL.out⟩
    · rw [Below.heap_alloc _ _ _ (by simp)]; exact heap_alloc_new w1 _
    · exact (HO.out.below ((Below.refl _ _).alloc (Nat.le_refl _) _)).below ((Below.refl _ _).alloc (Nat.le_refl _) _))
  have hla : Hid (∀ k, (Value.slice la n lc).ownBlock = some k → k < bl) := Lib.hid (fun k hk => by rw [← hbl]; exact (hlo k hk).2)
  clear hlo
  have SZ : Hid (((w1.alloc (.cells #[.slice la n lc] 22)).alloc (.cells #[.slice none 0 0] 22)).heap.size = bl + 2) := Lib.hid (by simp [hbl])
  rw [hbl] at hsz ⊢
  obtain ⟨w2, hw2⟩ : ∃ x, (w1.alloc (.cells #[.slice la n lc] 22)).alloc (.cells #[.slice none 0 0] 22) = x := ⟨_, rfl⟩
  rw [hw2] at I0 SZ ⊢
  clear hw2 hbl BB HO
  have OK : Hid (StepOk 24 #[.pointer (some ⟨bl + 1, 0, none⟩), .pointer (some ⟨bl, 0, none⟩)] w w2.heap.size (IOrd w bl (bl + 1) la n lc (bl + 2))) := Lib.hid (by rw [SZ.out]; exact IOrd.ok hsz (by omega) (by omega) hla.out)
  go_wp2_with fail
  refine (run_c 24 _ enters24 n L a1 n1 c1 S most w2 w _ HL.out HP.out hn HSm.out OK.out I0.out H1.out HSB.out hm).mono ?_
  rintro e w3 ⟨L', rfl, hi⟩
  rw [HR.out] at hi ⊢
  obtain ⟨hbel, _, ⟨vo, hvo, hown⟩, _⟩ := hi
  have kv := cell_of_one hvo
  have OW := Lib.hid hown
  have BL := Lib.hid hbel
  clear hown hbel hvo
  obtain ⟨oa, oc, rfl⟩ := OW.out.slice
  go_wp2
  refine bodyPost_ret (results_tmp2 rfl _ _ _) rfl ?_
  exact ⟨_, rfl, OW.out.le (by omega), BL.out⟩

end Go.Proofs.Ytigokfcoofbdlaa
