/- The program: ContainsFunc, Clone. -/
import Derived.Test.YtigokfcoofbdlaaS9
import Derived.Lib.SliceRun
namespace Go.Proofs.Ytigokfcoofbdlaa
open Go.RowKit
set_option linter.unusedVariables false

/-- a slice without an address is empty -/
def NilOk (a : Option Addr) (n c : Nat) : Prop := a = none → n = 0 ∧ c = 0
/-- whether IndexFunc has found a number below 1 -/
def IdxSays (l : List Int) (n : Nat) (e : Ending) : Prop := ∃ r : Int, e = .returned (.int .i64 r) ∧ -1 ≤ r ∧ (0 ≤ r → ∃ i, i < n ∧ l.getD i 0 < 1) ∧ (r < 0 → ∀ i, i < n → 1 ≤ l.getD i 0)
def BoolSays (p : Prop) (e : Ending) : Prop := ∃ b : Bool, e = .returned (.bool b) ∧ (b = true ↔ p)
theorem pred_c (x : Int) (w : World) (b : Bool) (hb : decide (x < 1) = b) : Calls Try.prog 21 #[.int .i64 x] w fun e w' => e = .returned (.bool b) ∧ w = w' := by
  subst hb
  go_enter Try.func21, Try.ntmps21
  go_wp2
  go_ret
  exact ⟨rfl, rfl⟩
set_option maxHeartbeats 1000000 in
set_option maxRecDepth 100000 in
theorem index_c (ad : Option Addr) (n cap : Nat) (l : List Int) (w : World) (hs : SlI w ad n cap l) :
    Calls Try.prog 30 #[.slice ad n cap, .func (.func 21) #[] #[]] w fun e w' => IdxSays l n e ∧ w = w' := by
  have HS := Lib.hid hs
  have hcap : n ≤ 9223372036854775807 := by have := hs.2.1; have := hs.2.2.1; omega
  clear hs
  go_enter Try.func30, Try.ntmps30
  go_wp2
  go_loopw [8] (fun s wr => ∃ i : Nat, i ≤ n ∧ s = .int .i64 i ∧ w = wr ∧ Hid (∀ k, k < i → 1 ≤ l.getD k 0)) (fun s _ => n - (intOf s).toNat)
  case atStart => exact ⟨0, by omega, rfl, rfl, Lib.hid (fun k hk => absurd hk (Nat.not_lt_zero k))⟩
  case round =>
    obtain ⟨i, hi, rfl, rfl, hno⟩ := hrel
    by_cases hlt : i < n
    · obtain ⟨b, off, rfl, hc⟩ := HS.out.at (by omega)
      have k0 := hc i hlt
      clear hc
      obtain ⟨y, hy⟩ : ∃ y, l.getD i 0 = y := ⟨_, rfl⟩
      rw [hy] at k0
      have HYY := Lib.hid hy
      clear hy
      by_cases hgt : y < 1
      · go_wp2_with fail
        refine (pred_c y w true (by simpa using hgt)).mono ?_
        rintro e w' ⟨rfl, rfl⟩
        go_wp2
        refine bodyPost_ret (results_tmp rfl _ _ _) rfl ?_
        exact ⟨⟨i, rfl, by omega, fun _ => ⟨i, hlt, by rw [HYY.out]; exact hgt⟩, fun h => by omega⟩, rfl⟩
      · go_wp2_with fail
        refine (pred_c y w false (by simpa using hgt)).mono ?_
        rintro e w' ⟨rfl, rfl⟩
        go_wp2
        go_roundw
        case rel => exact ⟨i + 1, by omega, by go_num, trivial, Lib.hid (fun k hk => by
          rcases Nat.lt_or_ge k i with h | h
          · exact hno.out k h
          · have : k = i := by omega
            rw [this, HYY.out]; omega)⟩
        case measure => simp [intOf]; omega
    · have hin : i = n := by omega
      go_wp2
      refine bodyPost_ret (results_tmp rfl _ _ _) rfl ?_
      exact ⟨⟨-1, rfl, by omega, fun h => by omega, fun _ k hk => hno.out k (by omega)⟩, rfl⟩
set_option maxRecDepth 100000 in
theorem contains_c (ad : Option Addr) (n cap : Nat) (l : List Int) (w : World) (hs : SlI w ad n cap l) :
    Calls Try.prog 20 #[.slice ad n cap, .func (.func 21) #[] #[]] w fun e w' => BoolSays (∃ i, i < n ∧ l.getD i 0 < 1) e ∧ w = w' := by
  have HS := Lib.hid hs
  clear hs
  go_enter Try.func20, Try.ntmps20
  go_wp2_with fail
  refine (index_c ad n cap l w HS.out).mono ?_
  rintro e w' ⟨⟨r, rfl, hr, h1, h2⟩, rfl⟩
  have H1 := Lib.hid h1
  have H2 := Lib.hid h2
  clear h1 h2
  by_cases h : 0 ≤ r
  · go_wp2
    refine bodyPost_ret (results_tmp rfl _ _ _) rfl ?_
    exact ⟨⟨true, rfl, fun _ => H1.out h, fun _ => rfl⟩, rfl⟩
  · go_wp2
    refine bodyPost_ret (results_tmp rfl _ _ _) rfl ?_
    exact ⟨⟨false, by (show Ending.returned (.bool (decide (0 ≤ r))) = _; rw [decide_eq_false (by omega)]), fun h => (by cases h), fun ⟨i, h1, h2⟩ => (by have := H2.out (by omega) i h1; omega)⟩, rfl⟩
set_option maxHeartbeats 1000000 in
set_option maxRecDepth 100000 in
theorem clone_c (ad : Option Addr) (n cap : Nat) (l : List Int) (w : World) (hs : SlI w ad n cap l) (hz : ad = none → n = 0 ∧ cap = 0) (hn : n ≤ 1099511627776) :
    Calls Try.prog 22 #[.slice ad n cap] w fun e w' => ∃ a c, e = .returned (.slice a n c) ∧ OwnI w' w.heap.size (.slice a n c) l ∧ NilOk a n c ∧ Below w.heap.size w w' := by
  have HS := Lib.hid hs
  have HZ := Lib.hid hz
  clear hs hz
  have qT : ∀ (w : World) (a : Option Addr) (n c n' c' : Nat), (binOp .eql 22 (.slice a n c) (.slice none n' c')).run Try.prog w = .ok (.bool a.isNone) w := fun w a n c n' c' => Lib.run_eql_slice_nil w _ _ a n c n' c' Try.underlying22
  cases ad with
  | none =>
    obtain ⟨rfl, rfl⟩ := HZ.out rfl
    obtain rfl : l = [] := List.eq_nil_of_length_eq_zero HS.out.1
    go_enter Try.func22, Try.ntmps22
    go_wp2
    refine bodyPost_ret (results_tmp rfl _ _ _) rfl ?_
    exact ⟨none, 0, rfl, ⟨rfl, .inl ⟨rfl, rfl⟩⟩, fun _ => ⟨rfl, rfl⟩, Below.refl _ _⟩
  | some y =>
    have OH : Hid ((w.alloc (.cells #[] 3)).ownsRow w.heap.size 3 1 (.slice (some ⟨w.heap.size, 0, none⟩) 0 0) 0 []) := Lib.hid (World.ownsRow_made w #[] 0 (Nat.le_refl _) (by unfold maxLen; omega) rfl)
    go_enter Try.func22, Try.ntmps22
    go_wp2_with (at_builtin; refine wpList_append_il rfl (.tmp 5) (.tmp 6) rfl w.heap.size _ _ _ rfl OH.out (some y) n cap l rfl (HS.out.below ((Below.refl _ _).alloc (Nat.le_refl _) _)) HZ.out (by omega) (by rw [World.size_alloc]; omega) ?_; intro v1 w2 O1 G1; rw [Nat.zero_add, List.nil_append] at O1; have OA := Lib.hid O1; have BA : Hid (Below w.heap.size w w2) := Lib.hid (((Below.refl w.heap.size w).alloc (o := .cells #[] 3) (Nat.le_refl _)).grown G1 (by rw [World.size_alloc]; omega) (fun k hk => by have e' := Option.some.inj (show some w.heap.size = some k from hk); omega)); clear O1 G1)
    have ho : OwnI w2 w.heap.size v1 l := by have := OA.out; unfold OwnI; rwa [HS.out.1]
    obtain ⟨la, lc, rfl⟩ := ho.slice
    rw [HS.out.1] at ho ⊢
    have HO := Lib.hid ho
    clear ho OA OH
    have NK : NilOk la n lc := fun e => by
      subst e
      rcases HO.out.2 with ⟨hv, _⟩ | ⟨g, cap, cur, hv, _⟩
      · injection hv with _ e1 e2; exact ⟨e1, e2⟩
      · cases hv
    go_wp2
    refine bodyPost_ret (results_tmp rfl _ _ _) rfl ?_
    exact ⟨la, lc, rfl, HO.out, NK, BA.out⟩

end Go.Proofs.Ytigokfcoofbdlaa
