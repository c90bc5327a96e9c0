/- The program: find. -/
import Derived.Test.YtljgcjmelmpgoaaDoorQ7
namespace Go.Proofs.YtljgcjmelmpgoaaDoor
open Go.RowKit
set_option linter.unusedVariables false

/-- what find answers -/
def FindSays (L : List Lt) (x : Int) (e : Ending) : Prop := ∃ (u : Int) (o ok : Bool), e = .returned (.tuple #[.agg #[.int .i64 u, .bool o], .bool ok]) ∧ (ok = true → (u, o) ∈ L ∧ u = x) ∧ (ok = false → ∀ y ∈ L, y.1 ≠ x)
set_option maxHeartbeats 2000000 in
set_option maxRecDepth 100000 in
theorem find_c (ad : Option Addr) (n cap : Nat) (L : List Lt) (x : Int) (w : World) (hs : SlL w ad n cap L) (hv : vld L = true) (hn : n ≤ 1099511627776) :
    Calls Tryd.prog 40 #[.slice ad n cap, .int .i64 x] w fun e w' => FindSays L x e ∧ Below w.heap.size w w' := by
  have HS := Lib.hid hs
  have HVL := Lib.hid hv
  clear hs hv
  obtain ⟨w1, hw1⟩ : ∃ y, w.alloc (.cells #[.int .i64 0, .bool false] 30) = y := ⟨_, rfl⟩
  have B1 : Hid (Below w.heap.size w w1) := Lib.hid (by rw [← hw1]; exact (Below.refl _ _).alloc (Nat.le_refl _) _)
  have lz : w1.heap.size = w.heap.size + 1 := by rw [← hw1]; simp
  have C0 : Hid (w1.heap[w.heap.size]? = some (.cells #[.int .i64 0, .bool false] 30 (0, 0))) := Lib.hid (by rw [← hw1]; exact heap_alloc_new w _)
  have HW1 := Lib.hid hw1
  have LZ := Lib.hid lz
  clear hw1 lz
  go_enter Tryd.func40, Tryd.ntmps40
  go_wp2_with fail
  rw [HW1.out]
  refine (search_c ad n cap L x w1 (HS.out.below B1.out) HVL.out hn).mono ?_
  rintro e w2 ⟨⟨i, ok, rfl, h1, h2, h3⟩, hb2⟩
  have B2 := Lib.hid (B1.out.trans (hb2.mono B1.out.size))
  have C2 : Hid (w2.heap[w.heap.size]? = some (.cells #[.int .i64 0, .bool false] 30 (0, 0))) := Lib.hid (by rw [hb2.block _ (by rw [LZ.out]; omega)]; exact C0.out)
  have H2 := Lib.hid h2
  have H3 := Lib.hid h3
  clear h2 h3 hb2
  obtain ⟨bz, hbz⟩ : ∃ y, w.heap.size = y := ⟨_, rfl⟩
  have HBZ := Lib.hid hbz
  rw [hbz] at C2 ⊢
  clear hbz
  have z0 : w2.cell? ⟨bz, 0, none⟩ = some (.int .i64 0) := by rw [cell_of_row w2 bz 0 _ 30 (0, 0) C2.out]; rfl
  have z1 : w2.cell? ⟨bz, 1, none⟩ = some (.bool false) := by rw [cell_of_row w2 bz 1 _ 30 (0, 0) C2.out]; rfl
  have f0 : w2.frozen? ⟨bz, 0, none⟩ = false := frozen_of_row w2 bz 0 _ 30 C2.out
  have f1 : w2.frozen? ⟨bz, 1, none⟩ = false := frozen_of_row w2 bz 1 _ 30 C2.out
  cases ok with
  | false =>
    have FS : Hid (FindSays L x (.returned (.tuple #[.agg #[.int .i64 0, .bool false], .bool false]))) := Lib.hid ⟨0, false, false, rfl, (fun h => by cases h), fun _ y hy => by
      obtain ⟨k, hk, e⟩ := List.getElem_of_mem hy
      have := H3.out rfl k hk
      rw [List.getD_eq_getElem?_getD, List.getElem?_eq_getElem hk, Option.getD_some, e] at this
      exact this⟩
    go_wp2
    have hbz' : w.heap.size ≤ bz := by rw [HBZ.out]; exact Nat.le_refl _
    refine bodyPost_ret (v := .tuple #[.agg #[.int .i64 0, .bool false], .bool false]) (by simp [results, Tryd.results40, go_sem, z0, z1]) rfl ⟨FS.out, ?_⟩
    exact (B2.out.setCell (p := ⟨bz, 0, none⟩) hbz' _).setCell (p := ⟨bz, 1, none⟩) hbz' _
  | true =>
    obtain ⟨hil, hix⟩ := H2.out rfl
    rw [HS.out.1] at hil
    obtain ⟨b, off, rfl, hb, hc⟩ := (HS.out.below B2.out).at (by omega)
    obtain ⟨k0, k1⟩ := hc i hil
    clear hc
    obtain ⟨u, hu⟩ : ∃ u, (L.getD i d0).1 = u := ⟨_, rfl⟩
    obtain ⟨o, ho⟩ : ∃ o, (L.getD i d0).2 = o := ⟨_, rfl⟩
    rw [hu] at k0 hix
    rw [ho] at k1
    have FS : Hid (FindSays L x (.returned (.tuple #[.agg #[.int .i64 u, .bool o], .bool true]))) := Lib.hid ⟨u, o, true, rfl, fun _ => ⟨mem_at (by rw [HS.out.1]; exact hil) (by rw [← hu, ← ho]), hix⟩, (fun h => by cases h)⟩
    have hi0 : (0 : Int) ≤ (i : Int) := by omega
    have hi1 : (i : Int) < (n : Int) := by omega
    clear hu ho hix
    go_wp2
    have hbz' : w.heap.size ≤ bz := by rw [HBZ.out]; exact Nat.le_refl _
    refine bodyPost_ret (v := .tuple #[.agg #[.int .i64 u, .bool o], .bool true]) (by simp [results, Tryd.results40, go_sem, z0, z1]) rfl ⟨FS.out, ?_⟩
    exact (B2.out.setCell (p := ⟨bz, 0, none⟩) hbz' _).setCell (p := ⟨bz, 1, none⟩) hbz' _

end Go.Proofs.YtljgcjmelmpgoaaDoor
