/- Num. -/
import Derived.Test.YtljgcjmelmpgoaaDoorQ31
namespace Go.Proofs.YtljgcjmelmpgoaaDoor
open Go.RowKit
set_option linter.unusedVariables false

theorem conv1 (w : World) (b : Nat) (y : UInt8) (z : Int) (hz : (y.toNat : Int) = z) (hc : w.cell? ⟨b, 0, none⟩ = some (.int .u8 z)) : (convert 75 9 (.slice (some ⟨b, 0, none⟩) 1 1)).run Tryd.prog w = .ok (.string ⟨#[y]⟩) w := by
  have h := run_convert_bytes_back (P := Tryd.prog) w 75 9 5 ⟨b, 0, none⟩ 1 [y] Tryd.underlying75 Tryd.underlying5 Tryd.underlying9 (fun j hj => by
    match j, hj with
    | 0, hj =>
      rw [Addr.add_mid, Nat.zero_add, hc, ← hz]; rfl)
  exact h
theorem digit_byte (k : Nat) (hk : k < 10) : ((UInt8.ofNat (48 + k)).toNat : Int) = 48 + (k : Int) := by
  rw [UInt8.toNat_ofNat']; omega
set_option maxHeartbeats 4000000 in
set_option maxRecDepth 100000 in
theorem num_small (k : Nat) (hk : k < 10) (w : World) : Calls Tryd.prog 50 #[.int .i64 (k : Nat)] w fun e w' => e = .returned (.string ⟨(Lib.decDigits k).toArray⟩) ∧ Below w.heap.size w w' := by
  have BA : Hid (Below w.heap.size w (w.alloc (.cells #[.int .u8 (48 + (k : Int))] 5))) := Lib.hid ((Below.refl _ _).alloc (Nat.le_refl _) _)
  have k0 : (0 : Int) ≤ (k : Int) := by omega
  have k1 : (k : Int) < 10 := by omega
  obtain ⟨y, hy⟩ : ∃ y, UInt8.ofNat (48 + k) = y := ⟨_, rfl⟩
  have hz := digit_byte k hk
  rw [hy] at hz
  have HC := Lib.hid (conv1 (w.alloc (.cells #[.int .u8 (48 + (k : Int))] 5)) w.heap.size y (48 + (k : Int)) hz (by rw [cell_of_row _ w.heap.size _ _ 5 (0, 0) (heap_alloc_new w _)]; rfl))
  have HD : Hid (Lib.decDigits k = [y]) := Lib.hid (by rw [Lib.decDigits, dif_pos hk, hy])
  clear hz hy
  have hc := HC.out
  go_enter Tryd.func50, Tryd.ntmps50
  go_wp2
  refine bodyPost_ret (results_tmp rfl _ _ _) rfl ?_
  exact ⟨by rw [HD.out]; rfl, BA.out⟩
theorem cat_one (l : List UInt8) (y : UInt8) : (ByteArray.mk l.toArray ++ ByteArray.mk #[y]) = ByteArray.mk (l ++ [y]).toArray := ByteArray.mk_append_mk l [y]
set_option maxHeartbeats 8000000 in
set_option maxRecDepth 100000 in
theorem num_c : ∀ (g k : Nat), k ≤ g → k < 1024 → ∀ w, Calls Tryd.prog 50 #[.int .i64 (k : Nat)] w fun e w' => e = .returned (.string ⟨(Lib.decDigits k).toArray⟩) ∧ Below w.heap.size w w'
  | 0, k, hg, hk, w => num_small k (by omega) w
  | g + 1, k, hg, hk, w => by
    by_cases h10 : k < 10
    · exact num_small k h10 w
    · obtain ⟨d, hd⟩ : ∃ d, k / 10 = d := ⟨_, rfl⟩
      obtain ⟨r, hr⟩ : ∃ r, k % 10 = r := ⟨_, rfl⟩
      have hr10 : r < 10 := by omega
      have ih := fun W => num_c g d (by omega) (by omega) W
      have k0 : (0 : Int) ≤ (k : Int) := by omega
      have k1 : ¬ (k : Int) < 10 := by omega
      have k2 : (k : Int) < 1024 := by omega
      obtain ⟨y, hy⟩ : ∃ y, UInt8.ofNat (48 + r) = y := ⟨_, rfl⟩
      have hz := digit_byte r hr10
      rw [hy] at hz
      obtain ⟨s, hs⟩ : ∃ s, ByteArray.mk (Lib.decDigits d).toArray = s := ⟨_, rfl⟩
      have hss : s.size ≤ 4 := by
        have := itoa_len (d : Int) (by omega)
        unfold Lib.itoa at this
        rw [if_neg (by omega), Int.toNat_natCast] at this
        rw [← hs]; simpa [ByteArray.size] using this
      have HD : Hid (ByteArray.mk (Lib.decDigits k).toArray = s ++ ByteArray.mk #[y]) := Lib.hid (by rw [Lib.decDigits, dif_neg h10, hd, hr, hy, ← hs]; exact (cat_one _ _).symm)
      rw [HD.out]
      simp only [hs] at ih
      have HIH := Lib.hid ih
      have HC := Lib.hid (fun (W : World) (b : Nat) (hcell : W.cell? ⟨b, 0, none⟩ = some (.int .u8 (48 + (r : Int)))) => conv1 W b y _ hz hcell)
      have E1 := Lib.hid (show IntKind.i64.wrap ((k : Int) / 10) = (d : Int) by rw [show (k : Int) / 10 = (d : Int) by omega]; apply IntWalk.i64_in _ <;> omega)
      have E2 := Lib.hid (show (k : Int) % 10 = (r : Int) by omega)
      have E5 := Lib.hid (show (k : Int).tmod 10 = (r : Int) by rw [Int.tmod_eq_emod_of_nonneg k0]; omega)
      have E6 := Lib.hid (show (k : Int).tdiv 10 = (d : Int) by rw [Int.tdiv_eq_ediv_of_nonneg k0]; omega)
      have E7 := Lib.hid (show IntKind.i64.wrap (d : Int) = (d : Int) by apply IntWalk.i64_in _ <;> omega)
      have E3 := Lib.hid (show IntKind.i64.wrap (48 + (r : Int)) = 48 + (r : Int) by apply IntWalk.i64_in _ <;> omega)
      have E4 := Lib.hid (show IntKind.u8.wrap (48 + (r : Int)) = 48 + (r : Int) by simp [IntKind.wrap, IntKind.signed, IntKind.bits]; omega)
      clear ih hy hz hs h10 hd hr
      go_enter Tryd.func50, Tryd.ntmps50
      go_upto_region 3 with fail
      have e1 := E1.out
      have e2 := E2.out
      have e3 := E3.out
      have e4 := E4.out
      have e5 := E5.out
      have e6 := E6.out
      have e7 := E7.out
      have hcon := HC.out
      go_region_with ((go_at_call 50; first | ((with_reducible refine Calls.mono (HIH.out (World.drew (World.alloc _ _))) ?_); rintro e w1 ⟨rfl, hb1⟩; have c1 := (hb1.cell (p := ⟨w.heap.size, 0, none⟩) (show w.heap.size < (w.alloc (.cells #[.int .u8 (48 + (r : Int))] 5)).heap.size by rw [World.size_alloc]; omega)).trans (show (w.alloc (.cells #[.int .u8 (48 + (r : Int))] 5)).cell? _ = some (Value.int .u8 (48 + (r : Int))) by rw [cell_of_row _ w.heap.size _ _ 5 (0, 0) (heap_alloc_new w _)]; rfl); have B1 := Lib.hid ((show Below w.heap.size w (w.alloc (.cells #[.int .u8 (48 + (r : Int))] 5)).drew from below_drewN ((Below.refl w.heap.size w).alloc (Nat.le_refl _) _) 1).trans (hb1.mono (by simp))); clear hb1) | ((with_reducible refine Calls.mono (HIH.out (World.drew _)) ?_); rintro e w1 ⟨rfl, hb1⟩; have B1 := Lib.hid ((show Below w.heap.size w w.drew from below_drewN (Below.refl w.heap.size w) 1).trans hb1); clear hb1)))
      all_goals
        clear e1 e2 e3 e4 e5 e6 e7 hcon
        go_wp2
        refine bodyPost_ret (results_tmp rfl _ _ _) rfl ?_
        first | exact ⟨rfl, B1.out⟩ | exact ⟨rfl, B1.out.alloc B1.out.size _⟩

end Go.Proofs.YtljgcjmelmpgoaaDoor
