/- The law of the round trip. -/
import Derived.Test.YtcdkehghdhcokaaDoorX18
import Derived.Deep.RegionHeld3
import Derived.Deep.Cut
namespace Go.Proofs.YtcdkehghdhcokaaDoor.wr
open Go.RowKit
set_option linter.unusedVariables false

set_option linter.unusedSimpArgs false
theorem app_bs (w : World) (base : Nat) (v : Value) (L : List Int) (u : Value) (n : Nat) (M : List Int) (ho : OwnB w base v L) (hM : Src Tryd.prog 1 22 u n (vals .u8 M) w) (hn : M.length = n) (hl : L.length + n ≤ 100000) (hb : base ≤ w.heap.size) :
    ∃ v' w', (Builtin.append_ #[22, 22] 22 #[v, u]).run Tryd.prog w = .ok v' w' ∧ OwnB w' base v' (L ++ M) ∧ Below base w w' := by
  obtain ⟨i0, hi0, hz0, hz1, hz2⟩ := info_parts info8
  obtain ⟨v', w', hr, hO, hG⟩ := run_append_own_src (P := Tryd.prog) w base 22 22 22 5 i0 (.int .u8 0) 1 1 Tryd.underlying22 hi0 hz0 hz1 hz2 rfl (by decide) v L.length (vals .u8 L) ho u n (vals .u8 M) hM (by unfold maxLen; omega) (by omega) hb
  refine ⟨v', w', hr, ?_, (Below.refl base w).grown hG hb (fun j hj => (World.ownsRow.lt ho j hj).1)⟩
  unfold OwnB
  rw [List.length_append, hn, vals_append]
  exact hO
theorem grp_bytes (m : Nat) : Bytes (grp m) := by
  induction m using Nat.strongRecOn with
  | ind m ih =>
    by_cases h : m < 128
    · rw [grp_small h]; intro x hx; simp at hx; omega
    · rw [grp_big h]
      intro x hx
      rcases List.mem_cons.1 hx with rfl | hx
      · omega
      · exact ih (m / 128) (by omega) x hx
theorem by4_bytes {l : List Int} (h : ∀ x ∈ l, 0 ≤ x ∧ x < 4294967296) : Bytes (l.flatMap by4) := by
  intro y hy
  obtain ⟨x, hx, hy⟩ := List.mem_flatMap.1 hy
  have := h x hx
  simp [by4] at hy
  omega
theorem Bytes.app {A B : List Int} (h : Bytes A) (h' : Bytes B) : Bytes (A ++ B) := fun x hx => (List.mem_append.1 hx).elim (h x) (h' x)
theorem nb_bytes {l : List Int} (h : ∀ x ∈ l, 0 ≤ x ∧ x < 4294967296) : Bytes (nb l) := (grp_bytes _).app (by4_bytes h)
theorem canon_last {l : List Int} {n : Nat} (h : ∀ x ∈ l, 0 ≤ x ∧ x < 4294967296) (e : nats l = dig n) : 0 < l.length → l.getD (l.length - 1) 0 ≠ 0 := by
  intro h0 hz
  have hl : (nats l).length = l.length := by unfold nats; rw [List.length_map]
  have hn : n ≠ 0 := by
    rintro rfl
    rw [e, dig_zero] at hl
    simp at hl
    omega
  have ht := dig_top hn
  rw [← e, hl] at ht
  apply ht
  have e2 : (nats l).getD (l.length - 1) 0 = (l.getD (l.length - 1) 0).toNat := by
    unfold nats
    simp only [List.getD_eq_getElem?_getD, List.getElem?_map]
    cases l[l.length - 1]? <;> rfl
  rw [e2, hz]; rfl
theorem nR_of {l T : List Int} (h : ∀ x ∈ l, 0 ≤ x ∧ x < 4294967296) (hl : l.length < 4294967296) (hc : 0 < l.length → l.getD (l.length - 1) 0 ≠ 0) : nR (some (nb l ++ T)) = (l, 0, some T) := by
  unfold nR
  dsimp only
  rw [nat8_of T h hl hc]
theorem rR_of {s : Bool} {l1 l2 T : List Int} (h1 : ∀ x ∈ l1, 0 ≤ x ∧ x < 4294967296) (h2 : ∀ x ∈ l2, 0 ≤ x ∧ x < 4294967296) (g1 : l1.length < 4294967296) (g2 : l2.length < 4294967296) (c1 : 0 < l1.length → l1.getD (l1.length - 1) 0 ≠ 0) (c2 : 0 < l2.length → l2.getD (l2.length - 1) 0 ≠ 0) (hok : okQ s (nats l1) (nats l2) = true) :
    rR (some (([if s then 1 else 0] ++ nb l1 ++ nb l2) ++ T)) = ((s, l1, l2), 0, some T) := by
  have e : ([if s then 1 else 0] ++ nb l1 ++ nb l2) ++ T = (if s then 1 else 0) :: (nb l1 ++ (nb l2 ++ T)) := by simp
  rw [e]
  unfold rR
  dsimp only
  have hs : decide ((if s = true then (1 : Int) else 0) = 1) = s := by cases s <;> rfl
  rw [if_neg (by cases s <;> decide), hs, r2_ok (nR_of h1 g1 c1) (nR_of h2 g2 c2), if_pos hok]

theorem box6 {w W : World} {u0 u1 u2 u3 u4 u5 : Value} (hW : Below (w.alloc (.cells #[u0, u1, u2, u3, u4, u5] 39)).heap.size (w.alloc (.cells #[u0, u1, u2, u3, u4, u5] 39)) W) :
    W.cell? ⟨w.heap.size, 0, none⟩ = some u0 ∧ W.cell? ⟨w.heap.size, 1, none⟩ = some u1 ∧ W.cell? ⟨w.heap.size, 2, none⟩ = some u2 ∧ W.cell? ⟨w.heap.size, 3, none⟩ = some u3 ∧ W.cell? ⟨w.heap.size, 4, none⟩ = some u4 ∧ W.cell? ⟨w.heap.size, 5, none⟩ = some u5 := by
  have hh : W.heap[w.heap.size]? = some (.cells #[u0, u1, u2, u3, u4, u5] 39 (0, 0)) := by
    rw [hW.block w.heap.size (by simp)]; exact heap_alloc_new w _
  exact ⟨cell_of_row W _ 0 _ 39 (0, 0) hh, cell_of_row W _ 1 _ 39 (0, 0) hh, cell_of_row W _ 2 _ 39 (0, 0) hh, cell_of_row W _ 3 _ 39 (0, 0) hh, cell_of_row W _ 4 _ 39 (0, 0) hh, cell_of_row W _ 5 _ 39 (0, 0) hh⟩
set_option maxHeartbeats 16000000 in
set_option maxRecDepth 100000 in
theorem law_round (N : Nat) (i : Int) (s : Bool) (a1 : Option Addr) (n1 c1 : Nat) (l1 : List Int) (a2 : Option Addr) (n2 c2 : Nat) (l2 : List Int) (a3 : Option Addr) (n3 c3 : Nat) (l3 : List Int) (w : World) (hN : N < 18446744073709551616) (hi : -9223372036854775808 ≤ i ∧ i ≤ 9223372036854775807) (h1 : SlW w a1 n1 c1 l1 ∧ (a1 = none → c1 = 0)) (h2 : SlW w a2 n2 c2 l2 ∧ (a2 = none → c2 = 0)) (h3 : SlB w a3 n3 c3 l3) (hby : Bytes l3) (hT : Tab w) :
    Calls Tryd.prog 4 #[.agg #[.int .u64 (N : Nat), .int .i64 i, .bool s, .slice a1 n1 c1, .slice a2 n2 c2, .slice a3 n3 c3]] w (fun e w' => e = .returned (.bool true) ∧ Below w.heap.size w w') := by
  have H1 := Lib.hid h1
  have H2 := Lib.hid h2
  have H3 := Lib.hid h3
  have HT := Lib.hid hT
  have HBY := Lib.hid hby
  have HL3 := Lib.hid h3.1
  have HN := Lib.hid hN
  have HI := Lib.hid hi
  clear h1 h2 h3 hT hby hN hi
  by_cases q1 : 8 < n1
  · have q1i : (8 : Int) < (n1 : Int) := by omega
    go_enter Tryd.func4, Tryd.ntmps4
    obtain ⟨wb, hwb⟩ : ∃ q, w.alloc (.cells #[.int .u64 (N : Nat), .int .i64 i, .bool s, .slice a1 n1 c1, .slice a2 n2 c2, .slice a3 n3 c3] 39) = q := ⟨_, rfl⟩
    have BW : Hid (Below w.heap.size w wb) := Lib.hid (by rw [← hwb]; exact Below.newBlock _)
    have KB0 : Hid (∀ W, Below wb.heap.size wb W → W.cell? ⟨w.heap.size, 0, none⟩ = some (.int .u64 (N : Nat)) ∧ W.cell? ⟨w.heap.size, 1, none⟩ = some (.int .i64 i) ∧ W.cell? ⟨w.heap.size, 2, none⟩ = some (.bool s) ∧ W.cell? ⟨w.heap.size, 3, none⟩ = some (.slice a1 n1 c1) ∧ W.cell? ⟨w.heap.size, 4, none⟩ = some (.slice a2 n2 c2) ∧ W.cell? ⟨w.heap.size, 5, none⟩ = some (.slice a3 n3 c3)) := Lib.hid (fun W hW => by rw [← hwb] at hW; exact box6 hW)
    have hwb' := Lib.hid hwb
    clear hwb
    go_upto_region 1 with (fail)
    rw [hwb'.out]
    go_wp2_with fail
    refine (awake_c wb).mono ?_
    rintro e w1 ⟨rfl, hb1⟩
    obtain ⟨x0, x1, x2, x3, x4, x5⟩ := KB0.out _ hb1
    have C1 := Lib.hid (BW.out.trans (hb1.mono BW.out.size))
    clear hb1
    go_wp2_with fail
    refine (awake_c _).mono ?_
    rintro e w3 ⟨rfl, hb3⟩
    have C3 := Lib.hid (C1.out.trans (hb3.mono C1.out.size))
    clear hb3
    go_wp2
    refine bodyPost_ret (results_tmp rfl _ _ _) rfl ?_
    exact ⟨rfl, C3.out⟩
  by_cases q2 : 8 < n2
  · have q1i : ¬ ((8 : Int) < (n1 : Int)) := by omega
    have q2i : (8 : Int) < (n2 : Int) := by omega
    go_enter Tryd.func4, Tryd.ntmps4
    obtain ⟨wb, hwb⟩ : ∃ q, w.alloc (.cells #[.int .u64 (N : Nat), .int .i64 i, .bool s, .slice a1 n1 c1, .slice a2 n2 c2, .slice a3 n3 c3] 39) = q := ⟨_, rfl⟩
    have BW : Hid (Below w.heap.size w wb) := Lib.hid (by rw [← hwb]; exact Below.newBlock _)
    have KB0 : Hid (∀ W, Below wb.heap.size wb W → W.cell? ⟨w.heap.size, 0, none⟩ = some (.int .u64 (N : Nat)) ∧ W.cell? ⟨w.heap.size, 1, none⟩ = some (.int .i64 i) ∧ W.cell? ⟨w.heap.size, 2, none⟩ = some (.bool s) ∧ W.cell? ⟨w.heap.size, 3, none⟩ = some (.slice a1 n1 c1) ∧ W.cell? ⟨w.heap.size, 4, none⟩ = some (.slice a2 n2 c2) ∧ W.cell? ⟨w.heap.size, 5, none⟩ = some (.slice a3 n3 c3)) := Lib.hid (fun W hW => by rw [← hwb] at hW; exact box6 hW)
    have hwb' := Lib.hid hwb
    clear hwb
    go_upto_region 1 with (fail)
    rw [hwb'.out]
    go_wp2_with fail
    refine (awake_c wb).mono ?_
    rintro e w1 ⟨rfl, hb1⟩
    obtain ⟨x0, x1, x2, x3, x4, x5⟩ := KB0.out _ hb1
    have C1 := Lib.hid (BW.out.trans (hb1.mono BW.out.size))
    clear hb1
    go_wp2_with fail
    refine (awake_c _).mono ?_
    rintro e w3 ⟨rfl, hb3⟩
    have C3 := Lib.hid (C1.out.trans (hb3.mono C1.out.size))
    clear hb3
    go_wp2
    refine bodyPost_ret (results_tmp rfl _ _ _) rfl ?_
    exact ⟨rfl, C3.out⟩
  have q1i : ¬ ((8 : Int) < (n1 : Int)) := by omega
  have q2i : ¬ ((8 : Int) < (n2 : Int)) := by omega
  rcases Bool.eq_false_or_eq_true (okQ s (nats l1) (nats l2)) with hok | hok
  rotate_left
  · skip
    go_enter Tryd.func4, Tryd.ntmps4
    obtain ⟨wb, hwb⟩ : ∃ q, w.alloc (.cells #[.int .u64 (N : Nat), .int .i64 i, .bool s, .slice a1 n1 c1, .slice a2 n2 c2, .slice a3 n3 c3] 39) = q := ⟨_, rfl⟩
    have BW : Hid (Below w.heap.size w wb) := Lib.hid (by rw [← hwb]; exact Below.newBlock _)
    have KB0 : Hid (∀ W, Below wb.heap.size wb W → W.cell? ⟨w.heap.size, 0, none⟩ = some (.int .u64 (N : Nat)) ∧ W.cell? ⟨w.heap.size, 1, none⟩ = some (.int .i64 i) ∧ W.cell? ⟨w.heap.size, 2, none⟩ = some (.bool s) ∧ W.cell? ⟨w.heap.size, 3, none⟩ = some (.slice a1 n1 c1) ∧ W.cell? ⟨w.heap.size, 4, none⟩ = some (.slice a2 n2 c2) ∧ W.cell? ⟨w.heap.size, 5, none⟩ = some (.slice a3 n3 c3)) := Lib.hid (fun W hW => by rw [← hwb] at hW; exact box6 hW)
    have hwb' := Lib.hid hwb
    clear hwb
    go_upto_region 1 with (fail)
    rw [hwb'.out]
    go_wp2_with fail
    refine (awake_c wb).mono ?_
    rintro e w1 ⟨rfl, hb1⟩
    obtain ⟨x0, x1, x2, x3, x4, x5⟩ := KB0.out _ hb1
    have C1 := Lib.hid (BW.out.trans (hb1.mono BW.out.size))
    have VV := rqvalid_c (s := s) (k := 8) ((H1.out.1.below C1.out).rd H1.out.2) ((H2.out.1.below C1.out).rd H2.out.2) (by unfold nats; rw [List.length_map, H1.out.1.1]; omega) (by unfold nats; rw [List.length_map, H2.out.1.1]; omega) (by omega) (by omega)
    rw [hok] at VV
    have V := Lib.hid VV
    have KB1 := Lib.hid (show ∀ W, Below w1.heap.size w1 W → W.cell? ⟨w.heap.size, 0, none⟩ = some (.int .u64 (N : Nat)) ∧ W.cell? ⟨w.heap.size, 1, none⟩ = some (.int .i64 i) ∧ W.cell? ⟨w.heap.size, 2, none⟩ = some (.bool s) ∧ W.cell? ⟨w.heap.size, 3, none⟩ = some (.slice a1 n1 c1) ∧ W.cell? ⟨w.heap.size, 4, none⟩ = some (.slice a2 n2 c2) ∧ W.cell? ⟨w.heap.size, 5, none⟩ = some (.slice a3 n3 c3) from fun W hW => KB0.out _ (hb1.trans (hW.mono hb1.size)))
    clear VV
    clear hb1
    go_wp2_with fail
    refine V.out.mono ?_
    rintro e w2 ⟨rfl, k2⟩
    obtain ⟨x0, x1, x2, x3, x4, x5⟩ := KB1.out _ k2
    have C2 := Lib.hid (C1.out.trans (Below.mono k2 C1.out.size))
    go_wp2_with fail
    refine (awake_c _).mono ?_
    rintro e w3 ⟨rfl, hb3⟩
    have C3 := Lib.hid (C2.out.trans (hb3.mono C2.out.size))
    clear hb3
    go_wp2
    refine bodyPost_ret (results_tmp rfl _ _ _) rfl ?_
    exact ⟨rfl, C3.out⟩
  by_cases q3 : 50 < n3
  · have q3i : (50 : Int) < (n3 : Int) := by omega
    go_enter Tryd.func4, Tryd.ntmps4
    obtain ⟨wb, hwb⟩ : ∃ q, w.alloc (.cells #[.int .u64 (N : Nat), .int .i64 i, .bool s, .slice a1 n1 c1, .slice a2 n2 c2, .slice a3 n3 c3] 39) = q := ⟨_, rfl⟩
    have BW : Hid (Below w.heap.size w wb) := Lib.hid (by rw [← hwb]; exact Below.newBlock _)
    have KB0 : Hid (∀ W, Below wb.heap.size wb W → W.cell? ⟨w.heap.size, 0, none⟩ = some (.int .u64 (N : Nat)) ∧ W.cell? ⟨w.heap.size, 1, none⟩ = some (.int .i64 i) ∧ W.cell? ⟨w.heap.size, 2, none⟩ = some (.bool s) ∧ W.cell? ⟨w.heap.size, 3, none⟩ = some (.slice a1 n1 c1) ∧ W.cell? ⟨w.heap.size, 4, none⟩ = some (.slice a2 n2 c2) ∧ W.cell? ⟨w.heap.size, 5, none⟩ = some (.slice a3 n3 c3)) := Lib.hid (fun W hW => by rw [← hwb] at hW; exact box6 hW)
    have hwb' := Lib.hid hwb
    clear hwb
    go_upto_region 1 with (fail)
    rw [hwb'.out]
    go_wp2_with fail
    refine (awake_c wb).mono ?_
    rintro e w1 ⟨rfl, hb1⟩
    obtain ⟨x0, x1, x2, x3, x4, x5⟩ := KB0.out _ hb1
    have C1 := Lib.hid (BW.out.trans (hb1.mono BW.out.size))
    have VV := rqvalid_c (s := s) (k := 8) ((H1.out.1.below C1.out).rd H1.out.2) ((H2.out.1.below C1.out).rd H2.out.2) (by unfold nats; rw [List.length_map, H1.out.1.1]; omega) (by unfold nats; rw [List.length_map, H2.out.1.1]; omega) (by omega) (by omega)
    rw [hok] at VV
    have V := Lib.hid VV
    have KB1 := Lib.hid (show ∀ W, Below w1.heap.size w1 W → W.cell? ⟨w.heap.size, 0, none⟩ = some (.int .u64 (N : Nat)) ∧ W.cell? ⟨w.heap.size, 1, none⟩ = some (.int .i64 i) ∧ W.cell? ⟨w.heap.size, 2, none⟩ = some (.bool s) ∧ W.cell? ⟨w.heap.size, 3, none⟩ = some (.slice a1 n1 c1) ∧ W.cell? ⟨w.heap.size, 4, none⟩ = some (.slice a2 n2 c2) ∧ W.cell? ⟨w.heap.size, 5, none⟩ = some (.slice a3 n3 c3) from fun W hW => KB0.out _ (hb1.trans (hW.mono hb1.size)))
    clear VV
    clear hb1
    go_wp2_with fail
    refine V.out.mono ?_
    rintro e w2 ⟨rfl, k2⟩
    obtain ⟨x0, x1, x2, x3, x4, x5⟩ := KB1.out _ k2
    have C2 := Lib.hid (C1.out.trans (Below.mono k2 C1.out.size))
    go_wp2_with fail
    refine (awake_c _).mono ?_
    rintro e w3 ⟨rfl, hb3⟩
    have C3 := Lib.hid (C2.out.trans (hb3.mono C2.out.size))
    clear hb3
    go_wp2
    refine bodyPost_ret (results_tmp rfl _ _ _) rfl ?_
    exact ⟨rfl, C3.out⟩
  · have q3i : ¬ ((50 : Int) < (n3 : Int)) := by omega
    go_enter Tryd.func4, Tryd.ntmps4
    obtain ⟨wb, hwb⟩ : ∃ q, w.alloc (.cells #[.int .u64 (N : Nat), .int .i64 i, .bool s, .slice a1 n1 c1, .slice a2 n2 c2, .slice a3 n3 c3] 39) = q := ⟨_, rfl⟩
    have BW : Hid (Below w.heap.size w wb) := Lib.hid (by rw [← hwb]; exact Below.newBlock _)
    have KB0 : Hid (∀ W, Below wb.heap.size wb W → W.cell? ⟨w.heap.size, 0, none⟩ = some (.int .u64 (N : Nat)) ∧ W.cell? ⟨w.heap.size, 1, none⟩ = some (.int .i64 i) ∧ W.cell? ⟨w.heap.size, 2, none⟩ = some (.bool s) ∧ W.cell? ⟨w.heap.size, 3, none⟩ = some (.slice a1 n1 c1) ∧ W.cell? ⟨w.heap.size, 4, none⟩ = some (.slice a2 n2 c2) ∧ W.cell? ⟨w.heap.size, 5, none⟩ = some (.slice a3 n3 c3)) := Lib.hid (fun W hW => by rw [← hwb] at hW; exact box6 hW)
    have hwb' := Lib.hid hwb
    clear hwb
    go_upto_region 1 with (fail)
    rw [hwb'.out]
    go_wp2_with fail
    refine (awake_c wb).mono ?_
    rintro e w1 ⟨rfl, hb1⟩
    obtain ⟨x0, x1, x2, x3, x4, x5⟩ := KB0.out _ hb1
    have C1 := Lib.hid (BW.out.trans (hb1.mono BW.out.size))
    have VV := rqvalid_c (s := s) (k := 8) ((H1.out.1.below C1.out).rd H1.out.2) ((H2.out.1.below C1.out).rd H2.out.2) (by unfold nats; rw [List.length_map, H1.out.1.1]; omega) (by unfold nats; rw [List.length_map, H2.out.1.1]; omega) (by omega) (by omega)
    rw [hok] at VV
    have V := Lib.hid VV
    have KB1 := Lib.hid (show ∀ W, Below w1.heap.size w1 W → W.cell? ⟨w.heap.size, 0, none⟩ = some (.int .u64 (N : Nat)) ∧ W.cell? ⟨w.heap.size, 1, none⟩ = some (.int .i64 i) ∧ W.cell? ⟨w.heap.size, 2, none⟩ = some (.bool s) ∧ W.cell? ⟨w.heap.size, 3, none⟩ = some (.slice a1 n1 c1) ∧ W.cell? ⟨w.heap.size, 4, none⟩ = some (.slice a2 n2 c2) ∧ W.cell? ⟨w.heap.size, 5, none⟩ = some (.slice a3 n3 c3) from fun W hW => KB0.out _ (hb1.trans (hW.mono hb1.size)))
    clear VV
    clear hb1
    go_wp2_with fail
    refine V.out.mono ?_
    rintro e w2 ⟨rfl, k2⟩
    obtain ⟨x0, x1, x2, x3, x4, x5⟩ := KB1.out _ k2
    have C2 := Lib.hid (C1.out.trans (Below.mono k2 C1.out.size))
    have KB : Hid (∀ W, Below w2.heap.size w2 W → W.cell? ⟨w.heap.size, 0, none⟩ = some (.int .u64 (N : Nat)) ∧ W.cell? ⟨w.heap.size, 1, none⟩ = some (.int .i64 i) ∧ W.cell? ⟨w.heap.size, 2, none⟩ = some (.bool s) ∧ W.cell? ⟨w.heap.size, 3, none⟩ = some (.slice a1 n1 c1) ∧ W.cell? ⟨w.heap.size, 4, none⟩ = some (.slice a2 n2 c2) ∧ W.cell? ⟨w.heap.size, 5, none⟩ = some (.slice a3 n3 c3)) := Lib.hid (fun W hW => KB1.out _ (Below.trans k2 (Below.mono hW (Below.size k2))))
    have W1 := Lib.hid (H1.out.1.below C2.out)
    have W2 := Lib.hid (H2.out.1.below C2.out)
    have W3 := Lib.hid (H3.out.below C2.out)
    have T2 := Lib.hid (HT.out.below C2.out)
    have hN := HN.out
    have hi := HI.out
    have GN := Lib.hid (grp_len10 hN)
    have GI := Lib.hid (grp_len10 (zz_lt hi.1 hi.2))
    have NB1 := Lib.hid (nb_len2 (L := l1) H1.out.1.1 (by omega))
    have NB2 := Lib.hid (nb_len2 (L := l2) H2.out.1.1 (by omega))
    have B0 : Hid (Below w2.heap.size w2 w2.drew) := Lib.hid (below_drewN (Below.refl _ _) 1)
    go_upto_region 3 with (fail)
    clear k2 x0 x1 x2 x3 x4 x5 KB1 KB0
    refine wp_region_held_drew (S := (fun w' => w'.cell? ⟨w.heap.size, 0, none⟩ = some (.int .u64 (N : Nat)) ∧ w'.cell? ⟨w.heap.size, 1, none⟩ = some (.int .i64 i) ∧ w'.cell? ⟨w.heap.size, 2, none⟩ = some (.bool s) ∧ w'.cell? ⟨w.heap.size, 3, none⟩ = some (.slice a1 n1 c1) ∧ w'.cell? ⟨w.heap.size, 4, none⟩ = some (.slice a2 n2 c2) ∧ w'.cell? ⟨w.heap.size, 5, none⟩ = some (.slice a3 n3 c3))) (by kernel_rfl) (KB.out _ (below_drewN (Below.refl _ _) 1)) (fun hHeld => ?_)
    refine wpAnyH_take (i := 0) (oi := _) (v := ?vz1) rfl (by kernel_rfl) (by kernel_rfl) (by kernel_rfl) (fun _ _ _ h => h) (Or.inl ⟨by rfl, ?hyz1⟩) (by assumption) ?restz1
    case hyz1 => (intro wq hSw; (try dsimp only at hSw); first | (go_simp; done) | (go_simp; with_reducible rfl))
    try simp only [Act.put, List.getElem_toArray, List.getElem_cons_succ, List.getElem_cons_zero, List.setIfInBounds_toArray, List.set_cons_zero, List.set_cons_succ]
    refine wpAnyH_take (i := 1) (oi := _) (v := ?vz2) rfl (by kernel_rfl) (by kernel_rfl) (by kernel_rfl) (fun _ _ _ h => h) (Or.inl ⟨by rfl, ?hyz2⟩) (by assumption) ?restz2
    case hyz2 => (intro wq hSw; (try dsimp only at hSw); first | (go_simp; done) | (go_simp; with_reducible rfl))
    try simp only [Act.put, List.getElem_toArray, List.getElem_cons_succ, List.getElem_cons_zero, List.setIfInBounds_toArray, List.set_cons_zero, List.set_cons_succ]
    refine wpAnyH_take (i := 3) (oi := _) (v := ?vz3) rfl (by kernel_rfl) (by kernel_rfl) (by kernel_rfl) (fun _ _ _ h => h) (Or.inl ⟨by rfl, ?hyz3⟩) (by assumption) ?restz3
    case hyz3 => (intro wq hSw; (try dsimp only at hSw); first | (go_simp; done) | (go_simp; with_reducible rfl))
    try simp only [Act.put, List.getElem_toArray, List.getElem_cons_succ, List.getElem_cons_zero, List.setIfInBounds_toArray, List.set_cons_zero, List.set_cons_succ]
    refine wpAnyH_take (i := 4) (oi := _) (v := ?vz4) rfl (by kernel_rfl) (by kernel_rfl) (by kernel_rfl) (fun _ _ _ h => h) (Or.inl ⟨by rfl, ?hyz4⟩) (by assumption) ?restz4
    case hyz4 => (intro wq hSw; (try dsimp only at hSw); first | (go_simp; done) | (go_simp; with_reducible rfl))
    try simp only [Act.put, List.getElem_toArray, List.getElem_cons_succ, List.getElem_cons_zero, List.setIfInBounds_toArray, List.set_cons_zero, List.set_cons_succ]
    refine wpAnyH_take (i := 6) (oi := _) (v := ?vz5) rfl (by kernel_rfl) (by kernel_rfl) (by kernel_rfl) (fun _ _ _ h => h) (Or.inl ⟨by rfl, ?hyz5⟩) (by assumption) ?restz5
    case hyz5 => (intro wq hSw; (try dsimp only at hSw); first | (go_simp; done) | (go_simp; with_reducible rfl))
    try simp only [Act.put, List.getElem_toArray, List.getElem_cons_succ, List.getElem_cons_zero, List.setIfInBounds_toArray, List.set_cons_zero, List.set_cons_succ]
    refine wpAnyH_take (i := 7) (oi := _) (v := ?vz6) rfl (by kernel_rfl) (by kernel_rfl) (by kernel_rfl) (fun _ _ _ h => h) (Or.inl ⟨by rfl, ?hyz6⟩) (by assumption) ?restz6
    case hyz6 => (intro wq hSw; (try dsimp only at hSw); first | (go_simp; done) | (go_simp; with_reducible rfl))
    try simp only [Act.put, List.getElem_toArray, List.getElem_cons_succ, List.getElem_cons_zero, List.setIfInBounds_toArray, List.set_cons_zero, List.set_cons_succ]
    refine wpAnyH_take (i := 8) (oi := _) (v := ?vz7) rfl (by kernel_rfl) (by kernel_rfl) (by kernel_rfl) (fun _ _ _ h => h) (Or.inl ⟨by rfl, ?hyz7⟩) (by assumption) ?restz7
    case hyz7 => (intro wq hSw; (try dsimp only at hSw); first | (go_simp; done) | (go_simp; with_reducible rfl))
    try simp only [Act.put, List.getElem_toArray, List.getElem_cons_succ, List.getElem_cons_zero, List.setIfInBounds_toArray, List.set_cons_zero, List.set_cons_succ]
    refine wpAnyH_take (i := 10) (oi := _) (v := ?vz8) rfl (by kernel_rfl) (by kernel_rfl) (by kernel_rfl) (fun _ _ _ h => h) (Or.inl ⟨by rfl, ?hyz8⟩) (by assumption) ?restz8
    case hyz8 => (intro wq hSw; (try dsimp only at hSw); first | (go_simp; done) | (go_simp; with_reducible rfl))
    try simp only [Act.put, List.getElem_toArray, List.getElem_cons_succ, List.getElem_cons_zero, List.setIfInBounds_toArray, List.set_cons_zero, List.set_cons_succ]
    refine wpAnyH_take (i := 11) (oi := _) (v := ?vz9) rfl (by kernel_rfl) (by kernel_rfl) (by kernel_rfl) (fun _ _ _ h => h) (Or.inl ⟨by rfl, ?hyz9⟩) (by assumption) ?restz9
    case hyz9 => (intro wq hSw; (try dsimp only at hSw); first | (go_simp; done) | (go_simp; with_reducible rfl))
    try simp only [Act.put, List.getElem_toArray, List.getElem_cons_succ, List.getElem_cons_zero, List.setIfInBounds_toArray, List.set_cons_zero, List.set_cons_succ]
    refine wpAnyH_take (i := 13) (oi := _) (v := ?vz10) rfl (by kernel_rfl) (by kernel_rfl) (by kernel_rfl) (fun _ _ _ h => h) (Or.inl ⟨by rfl, ?hyz10⟩) (by assumption) ?restz10
    case hyz10 => (intro wq hSw; (try dsimp only at hSw); first | (go_simp; done) | (go_simp; with_reducible rfl))
    try simp only [Act.put, List.getElem_toArray, List.getElem_cons_succ, List.getElem_cons_zero, List.setIfInBounds_toArray, List.set_cons_zero, List.set_cons_succ]
    refine wpAnyH_take (i := 14) (oi := _) (v := ?vz11) rfl (by kernel_rfl) (by kernel_rfl) (by kernel_rfl) (fun _ _ _ h => h) (Or.inl ⟨by rfl, ?hyz11⟩) (by assumption) ?restz11
    case hyz11 => (intro wq hSw; (try dsimp only at hSw); first | (go_simp; done) | (go_simp; with_reducible rfl))
    try simp only [Act.put, List.getElem_toArray, List.getElem_cons_succ, List.getElem_cons_zero, List.setIfInBounds_toArray, List.set_cons_zero, List.set_cons_succ]
    have CT1 := Lib.hid (appendUint_c none 0 0 [] N w2.drew (SlB.nil _) hN (by omega))
    refine wpAnyH_ready (rs := [2]) (by kernel_rfl) (by simp) ?_
    refine AllReadyH.cons (o := _) rfl (fun KK hKK => ?_) AllReadyH.nil
    go_simp
    refine Calls.mono CT1.out ?_
    rintro e v1 ⟨y1, rfl, hO, hb⟩
    have B1 := Lib.hid (B0.out.trans (hb.mono B0.out.size))
    obtain ⟨x1, u1, e1⟩ := hO.slice
    obtain ⟨z1, hz1⟩ : ∃ q, ([] ++ grp N).length = q := ⟨_, rfl⟩
    rw [hz1] at e1
    subst e1
    have Z1 := Lib.hid hz1
    have S1 := Lib.hid (hO.sl hz1)
    clear hz1
    clear hO hb CT1
    go_wp2_with fail
    refine hKK.out _ _ (KB.out _ B1.out) (fun hHeld2 => ?_)
    clear hKK KK hHeld
    have hHeld := hHeld2
    clear hHeld2
    try simp only [Act.put, List.getElem_toArray, List.getElem_cons_succ, List.getElem_cons_zero, List.setIfInBounds_toArray, List.set_cons_zero, List.set_cons_succ]
    have CT2 := Lib.hid (appendInt_c x1 z1 u1 _ i v1 S1.out hi.1 hi.2 (by rw [← Z1.out, List.nil_append]; have := GN.out; omega))
    refine wpAnyH_ready (rs := [5]) (by kernel_rfl) (by simp) ?_
    refine AllReadyH.cons (o := _) rfl (fun KK hKK => ?_) AllReadyH.nil
    go_simp
    refine Calls.mono CT2.out ?_
    rintro e v2 ⟨y2, rfl, hO, hb⟩
    have B2 := Lib.hid (B1.out.trans (hb.mono B1.out.size))
    obtain ⟨x2, u2, e2⟩ := hO.slice
    obtain ⟨z2, hz2⟩ : ∃ q, ([] ++ grp N ++ grp (zz i)).length = q := ⟨_, rfl⟩
    rw [hz2] at e2
    subst e2
    have Z2 := Lib.hid hz2
    have S2 := Lib.hid (hO.sl hz2)
    clear hz2
    clear hO hb CT2
    go_wp2_with fail
    refine hKK.out _ _ (KB.out _ B2.out) (fun hHeld2 => ?_)
    clear hKK KK hHeld
    have hHeld := hHeld2
    clear hHeld2
    try simp only [Act.put, List.getElem_toArray, List.getElem_cons_succ, List.getElem_cons_zero, List.setIfInBounds_toArray, List.set_cons_zero, List.set_cons_succ]
    have CT3 := Lib.hid (appendNat_c x2 z2 u2 _ a1 n1 c1 l1 v2 S2.out (W1.out.below B2.out) (by rw [← Z2.out, List.nil_append, List.length_append]; have := GN.out; have := GI.out; omega) (by omega))
    refine wpAnyH_ready (rs := [9]) (by kernel_rfl) (by simp) ?_
    refine AllReadyH.cons (o := _) rfl (fun KK hKK => ?_) AllReadyH.nil
    go_simp
    refine Calls.mono CT3.out ?_
    rintro e v3 ⟨y3, rfl, hO, hb⟩
    have B3 := Lib.hid (B2.out.trans (hb.mono B2.out.size))
    obtain ⟨x3, u3, e3⟩ := hO.slice
    obtain ⟨z3, hz3⟩ : ∃ q, ([] ++ grp N ++ grp (zz i) ++ nb l1).length = q := ⟨_, rfl⟩
    rw [hz3] at e3
    subst e3
    have Z3 := Lib.hid hz3
    have S3 := Lib.hid (hO.sl hz3)
    clear hz3
    clear hO hb CT3
    go_wp2_with fail
    refine hKK.out _ _ (KB.out _ B3.out) (fun hHeld2 => ?_)
    clear hKK KK hHeld
    have hHeld := hHeld2
    clear hHeld2
    try simp only [Act.put, List.getElem_toArray, List.getElem_cons_succ, List.getElem_cons_zero, List.setIfInBounds_toArray, List.set_cons_zero, List.set_cons_succ]
    have CT4 := Lib.hid (appendRat_c x3 z3 u3 _ s a1 n1 c1 l1 a2 n2 c2 l2 v3 S3.out (W1.out.below B3.out) (W2.out.below B3.out) (by rw [← Z3.out, List.nil_append, List.length_append, List.length_append]; have := GN.out; have := GI.out; have := NB1.out; omega) (by omega) (by omega))
    refine wpAnyH_ready (rs := [12]) (by kernel_rfl) (by simp) ?_
    refine AllReadyH.cons (o := _) rfl (fun KK hKK => ?_) AllReadyH.nil
    go_simp
    refine Calls.mono CT4.out ?_
    rintro e v4 ⟨y4, rfl, hO, hb⟩
    have Q34 := Lib.hid hb.size
    have B4 := Lib.hid (B3.out.trans (hb.mono B3.out.size))
    have O4 := Lib.hid hO
    clear hO hb CT4
    go_wp2_with fail
    refine hKK.out _ _ (KB.out _ B4.out) (fun hHeld2 => ?_)
    clear hKK KK hHeld
    have hHeld := hHeld2
    clear hHeld2
    try simp only [Act.put, List.getElem_toArray, List.getElem_cons_succ, List.getElem_cons_zero, List.setIfInBounds_toArray, List.set_cons_zero, List.set_cons_succ]
    refine wpAnyH_ready (rs := [15]) (by kernel_rfl) (by simp) ?_
    refine AllReadyH.cons (o := _) rfl (fun KK hKK => ?_) AllReadyH.nil
    rw [if_pos (by rfl)]
    obtain ⟨y5, v5, hr, hO5, hB5⟩ := app_bs v4 v3.heap.size _ _ _ n3 l3 O4.out ((W3.out.below B4.out).asSrc Tryd.underlying22) HL3.out (by simp only [List.length_append, List.length_nil, List.length_singleton]; have := GN.out; have := GI.out; have := NB1.out; have := NB2.out; omega) Q34.out
    have B5 := Lib.hid (B4.out.trans (hB5.mono B3.out.size))
    obtain ⟨B, hB⟩ : ∃ B, [] ++ grp N ++ grp (zz i) ++ nb l1 ++ ([if s then 1 else 0] ++ nb l1 ++ nb l2) ++ l3 = B := ⟨_, rfl⟩
    rw [hB] at hO5
    obtain ⟨n5, hn5⟩ : ∃ q, B.length = q := ⟨_, rfl⟩
    obtain ⟨x5, u5, e5⟩ := hO5.slice
    rw [hn5] at e5
    subst e5
    have S5 := Lib.hid (hO5.sl hn5)
    have HB := Lib.hid hB
    have HN5 := Lib.hid hn5
    clear hO5 hB5 hB hn5
    refine upon_append (.tmp 54) (.tmp 56) 22 22 rfl _ _ _ _ rfl rfl hr ?_
    clear hr
    refine hKK.out _ _ (KB.out _ B5.out) (fun hHeld2 => ?_)
    clear hKK KK hHeld
    have hHeld := hHeld2
    clear hHeld2
    try simp only [Act.put, List.getElem_toArray, List.getElem_cons_succ, List.getElem_cons_zero, List.setIfInBounds_toArray, List.set_cons_zero, List.set_cons_succ]
    refine wpAnyH_take (i := 16) (oi := _) (v := ?vz12) rfl (by kernel_rfl) (by kernel_rfl) (by kernel_rfl) (fun _ _ _ h => h) (Or.inl ⟨by rfl, ?hyz12⟩) (by assumption) ?restz12
    case hyz12 => (intro wq hSw; (try dsimp only at hSw); first | (go_simp; done) | (go_simp; with_reducible rfl))
    try simp only [Act.put, List.getElem_toArray, List.getElem_cons_succ, List.getElem_cons_zero, List.setIfInBounds_toArray, List.set_cons_zero, List.set_cons_succ]
    refine wpAnyH_done (by kernel_rfl) ?_ _
    try go_simp
    clear hHeld
    have hB := HB.out
    have hn5 := HN5.out
    obtain ⟨T3, hT3⟩ : ∃ q, ([if s then 1 else 0] ++ nb l1 ++ nb l2) ++ l3 = q := ⟨_, rfl⟩
    obtain ⟨T2', hT2⟩ : ∃ q, nb l1 ++ T3 = q := ⟨_, rfl⟩
    obtain ⟨T1, hT1⟩ : ∃ q, grp (zz i) ++ T2' = q := ⟨_, rfl⟩
    have hB2 : grp N ++ T1 = B := by rw [← hB, ← hT1, ← hT2, ← hT3]; simp only [List.append_assoc, List.nil_append]
    have r1 := H1.out.1.2.2.2.1
    have r2 := H2.out.1.2.2.2.1
    have len1 := H1.out.1.1
    have len2 := H2.out.1.1
    obtain ⟨⟨hs1, can1⟩, can2⟩ := okQ_iff.1 hok
    have k1 := canon_last r1 can1
    have k2 := canon_last r2 can2
    have E4 : rR (some T3) = ((s, l1, l2), 0, some l3) := by rw [← hT3]; exact rR_of r1 r2 (by omega) (by omega) k1 k2 hok
    have E3 : nR (some T2') = (l1, 0, some T3) := by rw [← hT2]; exact nR_of r1 (by omega) k1
    have E2 : uR (some T1) = (zz i, 0, some T2') := by rw [← hT1]; exact uR_some (dec_of T2' (zz_lt hi.1 hi.2))
    have E1 : uR (some B) = (N, 0, some T1) := by rw [← hB2]; exact uR_some (dec_of T1 hN)
    have lB : B.length ≤ 8000 := by
      rw [← hB]
      simp only [List.length_append, List.length_nil, List.length_singleton]
      have := GN.out; have := GI.out; have := NB1.out; have := NB2.out; have := HL3.out
      omega
    have bsg : Bytes [if s then (1 : Int) else 0] := by intro x hx; cases s <;> simp at hx <;> omega
    have OKB : Ok (some B) := fun L e => by
      injection e with e
      subst e
      refine ⟨?_, lB⟩
      rw [← hB2, ← hT1, ← hT2, ← hT3]
      exact (grp_bytes _).app ((grp_bytes _).app ((nb_bytes r1).app (((bsg.app (nb_bytes r1)).app (nb_bytes r2)).app HBY.out)))
    have OK1 : Ok (some T1) := Ok.tail (A := grp N) (by rw [hB2]; exact OKB)
    have OK2 : Ok (some T2') := Ok.tail (A := grp (zz i)) (by rw [hT1]; exact OK1)
    have OK3 : Ok (some T3) := Ok.tail (A := nb l1) (by rw [hT2]; exact OK2)
    have UZ : uzz (zz i) = i := by
      unfold zz uzz
      by_cases h0 : 0 ≤ i
      · rw [if_pos h0, if_pos (by omega)]; omega
      · rw [if_neg h0, if_neg (by omega)]; omega
    rw [hn5] at lB
    have MK := Lib.hid (made_g x5 n5 u5 B v5 S5.out lB)
    have HE1 := Lib.hid E1
    have HE2 := Lib.hid E2
    have HE3 := Lib.hid E3
    have HE4 := Lib.hid E4
    have HUZ := Lib.hid UZ
    have OKB := Lib.hid OKB
    have OK1 := Lib.hid OK1
    have OK2 := Lib.hid OK2
    have OK3 := Lib.hid OK3
    clear hB hB2 hT1 hT2 hT3 r1 r2 len1 len2 hs1 can1 can2 k1 k2 E1 E2 E3 E4 lB bsg UZ hn5 hok S5 S1 S2 S3 O4 Z1 Z2 Z3 Q34 GN GI NB1 NB2
    go_wp2_with fail
    refine MK.out.mono ?_
    rintro e w6 ⟨R, rfl, hR, hR2, hst, hb6⟩
    have B6 := Lib.hid (B5.out.trans (hb6.mono B5.out.size))
    have LR := Lib.hid (show w2.heap.size ≤ R from Nat.le_trans B5.out.size hR)
    have U6 := uint_g R (some B) w6 hst OKB.out.by
    rw [HE1.out] at U6
    have NI6 := Lib.hid hst.noInt
    have CU := Lib.hid U6
    clear hst hb6 hR hR2 MK U6
    go_wp2_with fail
    refine CU.out.mono ?_
    rintro e w7 ⟨rfl, st7, g7⟩
    dsimp only at st7 ⊢
    have B7 := Lib.hid (B6.out.grown g7 B6.out.size (fun j hj => by injection hj with hj; have := LR.out; omega))
    have U7 := int_g R (some T1) w7 st7 OK1.out.by
    rw [HE2.out] at U7
    have CI := Lib.hid U7
    clear st7 g7 CU U7
    go_wp2_with fail
    refine CI.out.mono ?_
    rintro e w8 ⟨rfl, st8, g8⟩
    dsimp only at st8 ⊢
    rw [HUZ.out]
    have B8 := Lib.hid (B7.out.grown g8 B7.out.size (fun j hj => by injection hj with hj; have := LR.out; omega))
    have U8 := nat_g R (some T2') w8 st8 OK2.out.by OK2.out.len
    rw [HE3.out] at U8
    have CN := Lib.hid U8
    clear st8 g8 CI U8
    go_wp2_with fail
    refine CN.out.mono ?_
    rintro e w9 ⟨r0, m0, g0, rfl, sw0, nc0, st9, g9⟩
    dsimp only at st9 sw0 ⊢
    have B9 := Lib.hid (B8.out.grown g9 B8.out.size (fun j hj => by injection hj with hj; have := LR.out; omega))
    have SW0 := Lib.hid sw0
    have NC0 := Lib.hid nc0
    have NI9 := Lib.hid st9.noInt
    have U9 := rat_g R (some T3) w9 st9 OK3.out.by OK3.out.len (T2.out.below B9.out)
    rw [HE4.out] at U9
    have CR := Lib.hid U9
    clear st9 g9 sw0 nc0 CN U9
    go_wp2_with fail
    refine CR.out.mono ?_
    rintro e w10 ⟨r1, m1, g1, r2, m2, g2, rfl, sw1, nc1, sw2, nc2, st10, g10⟩
    dsimp only at st10 sw1 sw2 ⊢
    have B10 := Lib.hid (B9.out.grown g10 B9.out.size (fun j hj => by injection hj with hj; have := LR.out; omega))
    have SZ := Lib.hid (SW0.out.pastN NI9.out g10)
    obtain ⟨A, hA⟩ : ∃ q, w10.alloc (.cells #[.bool s, .slice r1 m1 g1, .slice r2 m2 g2] 37) = q := ⟨_, rfl⟩
    have BA : Hid (Below w10.heap.size w10 A) := Lib.hid (by rw [← hA]; exact Below.newBlock _)
    have BAw := Lib.hid (B10.out.trans (BA.out.mono B10.out.size))
    have QA : Hid (Q3 A w10.heap.size (.bool s) (.slice r1 m1 g1) (.slice r2 m2 g2)) := Lib.hid (by rw [← hA]; exact Q3.new _ _ _ _)
    obtain ⟨X, hX⟩ : ∃ q, w10.heap.size = q := ⟨_, rfl⟩
    have KX : Hid (∀ W, Keep A W → (W.cell? ⟨w.heap.size, 0, none⟩ = some (.int .u64 (N : Nat)) ∧ W.cell? ⟨w.heap.size, 1, none⟩ = some (.int .i64 i) ∧ W.cell? ⟨w.heap.size, 2, none⟩ = some (.bool s) ∧ W.cell? ⟨w.heap.size, 3, none⟩ = some (.slice a1 n1 c1) ∧ W.cell? ⟨w.heap.size, 4, none⟩ = some (.slice a2 n2 c2) ∧ W.cell? ⟨w.heap.size, 5, none⟩ = some (.slice a3 n3 c3)) ∧ W.cell? ⟨X, 0, none⟩ = some (.bool s) ∧ W.cell? ⟨X, 1, none⟩ = some (.slice r1 m1 g1) ∧ W.cell? ⟨X, 2, none⟩ = some (.slice r2 m2 g2)) := Lib.hid (fun W hW => by
      have q := (QA.out.below hW).facts
      rw [hX] at q
      exact ⟨KB.out _ (BAw.out.trans (Below.mono hW BAw.out.size)), q.1, q.2.1, q.2.2.1⟩)
    have RD1 : Hid (∀ W, Keep A W → Rd W a1 n1 c1 (nats l1)) := Lib.hid (fun W hW => ((W1.out.below BAw.out).below hW).rd H1.out.2)
    have RD2 : Hid (∀ W, Keep A W → Rd W a2 n2 c2 (nats l2)) := Lib.hid (fun W hW => ((W2.out.below BAw.out).below hW).rd H2.out.2)
    have RE1 : Hid (∀ W, Keep A W → Rd W r1 m1 g1 (nats l1)) := Lib.hid (fun W hW => ((sw1.below BA.out).below hW).rd nc1)
    have RE2 : Hid (∀ W, Keep A W → Rd W r2 m2 g2 (nats l2)) := Lib.hid (fun W hW => ((sw2.below BA.out).below hW).rd nc2)
    have RZ : Hid (∀ W, Keep A W → Rd W r0 m0 g0 (nats l1)) := Lib.hid (fun W hW => ((SZ.out.below BA.out).below hW).rd NC0.out)
    have STX : Hid (∀ W, Keep A W → St 63 W R (some l3)) := Lib.hid (fun W hW => (st10.below BA.out).below hW)
    have D0 : Hid (Keep A A.drew) := Lib.hid (below_drewN (Below.refl _ _) 1)
    have SN := Lib.hid (qsame_c (s := false) (t := false) (RZ.out _ D0.out) (Rd.nil A.drew) (RD1.out _ D0.out) (Rd.nil A.drew))
    have hA' := Lib.hid hA
    have hX' := Lib.hid hX
    clear st10 g10 sw1 nc1 sw2 nc2 CR hA hX
    go_upto_region 9 with (fail)
    rw [hA'.out, hX'.out]
    refine wp_region_held_drew (S := (fun w' => (w'.cell? ⟨w.heap.size, 0, none⟩ = some (.int .u64 (N : Nat)) ∧ w'.cell? ⟨w.heap.size, 1, none⟩ = some (.int .i64 i) ∧ w'.cell? ⟨w.heap.size, 2, none⟩ = some (.bool s) ∧ w'.cell? ⟨w.heap.size, 3, none⟩ = some (.slice a1 n1 c1) ∧ w'.cell? ⟨w.heap.size, 4, none⟩ = some (.slice a2 n2 c2) ∧ w'.cell? ⟨w.heap.size, 5, none⟩ = some (.slice a3 n3 c3)) ∧ w'.cell? ⟨X, 0, none⟩ = some (.bool s) ∧ w'.cell? ⟨X, 1, none⟩ = some (.slice r1 m1 g1) ∧ w'.cell? ⟨X, 2, none⟩ = some (.slice r2 m2 g2))) (by kernel_rfl) (KX.out _ D0.out) (fun hHeld => ?_)
    refine wpAnyH_take (i := 0) (oi := _) (v := ?vz13) rfl (by kernel_rfl) (by kernel_rfl) (by kernel_rfl) (fun _ _ _ h => h) (Or.inl ⟨by rfl, ?hyz13⟩) (by assumption) ?restz13
    case hyz13 => (intro wq hSw; (try dsimp only at hSw); first | (go_simp; done) | (go_simp; with_reducible rfl))
    try simp only [Act.put, List.getElem_toArray, List.getElem_cons_succ, List.getElem_cons_zero, List.setIfInBounds_toArray, List.set_cons_zero, List.set_cons_succ]
    refine wpAnyH_take (i := 1) (oi := _) (v := ?vz14) rfl (by kernel_rfl) (by kernel_rfl) (by kernel_rfl) (fun _ _ _ h => h) (Or.inl ⟨by rfl, ?hyz14⟩) (by assumption) ?restz14
    case hyz14 => (intro wq hSw; (try dsimp only at hSw); first | (go_simp; done) | (go_simp; with_reducible rfl))
    try simp only [Act.put, List.getElem_toArray, List.getElem_cons_succ, List.getElem_cons_zero, List.setIfInBounds_toArray, List.set_cons_zero, List.set_cons_succ]
    refine wpAnyH_take (i := 2) (oi := _) (v := ?vz15) rfl (by kernel_rfl) (by kernel_rfl) (by kernel_rfl) (fun _ _ _ h => h) (Or.inl ⟨by rfl, ?hyz15⟩) (by assumption) ?restz15
    case hyz15 => (intro wq hSw; (try dsimp only at hSw); first | (go_simp; done) | (go_simp; with_reducible rfl))
    try simp only [Act.put, List.getElem_toArray, List.getElem_cons_succ, List.getElem_cons_zero, List.setIfInBounds_toArray, List.set_cons_zero, List.set_cons_succ]
    refine wpAnyH_take (i := 3) (oi := _) (v := ?vz16) rfl (by kernel_rfl) (by kernel_rfl) (by kernel_rfl) (fun _ _ _ h => h) (Or.inl ⟨by rfl, ?hyz16⟩) (by assumption) ?restz16
    case hyz16 => (intro wq hSw; (try dsimp only at hSw); first | (go_simp; done) | (go_simp; with_reducible rfl))
    try simp only [Act.put, List.getElem_toArray, List.getElem_cons_succ, List.getElem_cons_zero, List.setIfInBounds_toArray, List.set_cons_zero, List.set_cons_succ]
    refine wpAnyH_take (i := 4) (oi := _) (v := ?vz17) rfl (by kernel_rfl) (by kernel_rfl) (by kernel_rfl) (fun _ _ _ h => h) (Or.inl ⟨by rfl, ?hyz17⟩) (by assumption) ?restz17
    case hyz17 => (intro wq hSw; (try dsimp only at hSw); first | (go_simp; done) | (go_simp; with_reducible rfl))
    try simp only [Act.put, List.getElem_toArray, List.getElem_cons_succ, List.getElem_cons_zero, List.setIfInBounds_toArray, List.set_cons_zero, List.set_cons_succ]
    refine wpAnyH_take (i := 5) (oi := _) (v := ?vz18) rfl (by kernel_rfl) (by kernel_rfl) (by kernel_rfl) (fun _ _ _ h => h) (Or.inl ⟨by rfl, ?hyz18⟩) (by assumption) ?restz18
    case hyz18 => (intro wq hSw; (try dsimp only at hSw); first | (go_simp; done) | (go_simp; with_reducible rfl))
    try simp only [Act.put, List.getElem_toArray, List.getElem_cons_succ, List.getElem_cons_zero, List.setIfInBounds_toArray, List.set_cons_zero, List.set_cons_succ]
    refine wpAnyH_take (i := 6) (oi := _) (v := ?vz19) rfl (by kernel_rfl) (by kernel_rfl) (by kernel_rfl) (fun _ _ _ h => h) (Or.inl ⟨by rfl, ?hyz19⟩) (by assumption) ?restz19
    case hyz19 => (intro wq hSw; (try dsimp only at hSw); first | (go_simp; done) | (go_simp; with_reducible rfl))
    try simp only [Act.put, List.getElem_toArray, List.getElem_cons_succ, List.getElem_cons_zero, List.setIfInBounds_toArray, List.set_cons_zero, List.set_cons_succ]
    refine wpAnyH_take (i := 7) (oi := _) (v := ?vz20) rfl (by kernel_rfl) (by kernel_rfl) (by kernel_rfl) (fun _ _ _ h => h) (Or.inl ⟨by rfl, ?hyz20⟩) (by assumption) ?restz20
    case hyz20 => (intro wq hSw; (try dsimp only at hSw); first | (go_simp; done) | (go_simp; with_reducible rfl))
    try simp only [Act.put, List.getElem_toArray, List.getElem_cons_succ, List.getElem_cons_zero, List.setIfInBounds_toArray, List.set_cons_zero, List.set_cons_succ]
    refine wpAnyH_take (i := 8) (oi := _) (v := ?vz21) rfl (by kernel_rfl) (by kernel_rfl) (by kernel_rfl) (fun _ _ _ h => h) (Or.inl ⟨by rfl, ?hyz21⟩) (by assumption) ?restz21
    case hyz21 => (intro wq hSw; (try dsimp only at hSw); first | (go_simp; done) | (go_simp; with_reducible rfl))
    try simp only [Act.put, List.getElem_toArray, List.getElem_cons_succ, List.getElem_cons_zero, List.setIfInBounds_toArray, List.set_cons_zero, List.set_cons_succ]
    refine wpAnyH_take (i := 9) (oi := _) (v := ?vz22) rfl (by kernel_rfl) (by kernel_rfl) (by kernel_rfl) (fun _ _ _ h => h) (Or.inl ⟨by rfl, ?hyz22⟩) (by assumption) ?restz22
    case hyz22 => (intro wq hSw; (try dsimp only at hSw); first | (go_simp; done) | (go_simp; with_reducible rfl))
    try simp only [Act.put, List.getElem_toArray, List.getElem_cons_succ, List.getElem_cons_zero, List.setIfInBounds_toArray, List.set_cons_zero, List.set_cons_succ]
    refine wpAnyH_take (i := 10) (oi := _) (v := ?vz23) rfl (by kernel_rfl) (by kernel_rfl) (by kernel_rfl) (fun _ _ _ h => h) (Or.inl ⟨by rfl, ?hyz23⟩) (by assumption) ?restz23
    case hyz23 => (intro wq hSw; (try dsimp only at hSw); first | (go_simp; done) | (go_simp; with_reducible rfl))
    try simp only [Act.put, List.getElem_toArray, List.getElem_cons_succ, List.getElem_cons_zero, List.setIfInBounds_toArray, List.set_cons_zero, List.set_cons_succ]
    refine wpAnyH_take (i := 11) (oi := _) (v := ?vz24) rfl (by kernel_rfl) (by kernel_rfl) (by kernel_rfl) (fun _ _ _ h => h) (Or.inl ⟨by rfl, ?hyz24⟩) (by assumption) ?restz24
    case hyz24 => (intro wq hSw; (try dsimp only at hSw); first | (go_simp; done) | (go_simp; with_reducible rfl))
    try simp only [Act.put, List.getElem_toArray, List.getElem_cons_succ, List.getElem_cons_zero, List.setIfInBounds_toArray, List.set_cons_zero, List.set_cons_succ]
    refine wpAnyH_take (i := 12) (oi := _) (v := ?vz25) rfl (by kernel_rfl) (by kernel_rfl) (by kernel_rfl) (fun _ _ _ h => h) (Or.inl ⟨by rfl, ?hyz25⟩) (by assumption) ?restz25
    case hyz25 => (intro wq hSw; (try dsimp only at hSw); first | (go_simp; done) | (go_simp; with_reducible rfl))
    try simp only [Act.put, List.getElem_toArray, List.getElem_cons_succ, List.getElem_cons_zero, List.setIfInBounds_toArray, List.set_cons_zero, List.set_cons_succ]
    refine wpAnyH_take (i := 13) (oi := _) (v := ?vz26) rfl (by kernel_rfl) (by kernel_rfl) (by kernel_rfl) (fun _ _ _ h => h) (Or.inl ⟨by rfl, ?hyz26⟩) (by assumption) ?restz26
    case hyz26 => (intro wq hSw; (try dsimp only at hSw); first | (go_simp; done) | (go_simp; with_reducible rfl))
    try simp only [Act.put, List.getElem_toArray, List.getElem_cons_succ, List.getElem_cons_zero, List.setIfInBounds_toArray, List.set_cons_zero, List.set_cons_succ]
    refine wpAnyH_take (i := 14) (oi := _) (v := ?vz27) rfl (by kernel_rfl) (by kernel_rfl) (by kernel_rfl) (fun _ _ _ h => h) (Or.inl ⟨by rfl, ?hyz27⟩) (by assumption) ?restz27
    case hyz27 => (intro wq hSw; (try dsimp only at hSw); first | (go_simp; done) | (go_simp; with_reducible rfl))
    try simp only [Act.put, List.getElem_toArray, List.getElem_cons_succ, List.getElem_cons_zero, List.setIfInBounds_toArray, List.set_cons_zero, List.set_cons_succ]
    refine wpAnyH_take (i := 15) (oi := _) (v := ?vz28) rfl (by kernel_rfl) (by kernel_rfl) (by kernel_rfl) (fun _ _ _ h => h) (Or.inl ⟨by rfl, ?hyz28⟩) (by assumption) ?restz28
    case hyz28 => (intro wq hSw; (try dsimp only at hSw); first | (go_simp; done) | (go_simp; with_reducible rfl))
    try simp only [Act.put, List.getElem_toArray, List.getElem_cons_succ, List.getElem_cons_zero, List.setIfInBounds_toArray, List.set_cons_zero, List.set_cons_succ]
    refine wpAnyH_take (i := 16) (oi := _) (v := ?vz29) rfl (by kernel_rfl) (by kernel_rfl) (by kernel_rfl) (fun _ _ _ h => h) (Or.inl ⟨by rfl, ?hyz29⟩) (by assumption) ?restz29
    case hyz29 => (intro wq hSw; (try dsimp only at hSw); first | (go_simp; done) | (go_simp; with_reducible rfl))
    try simp only [Act.put, List.getElem_toArray, List.getElem_cons_succ, List.getElem_cons_zero, List.setIfInBounds_toArray, List.set_cons_zero, List.set_cons_succ]
    refine wpAnyH_take (i := 17) (oi := _) (v := ?vz30) rfl (by kernel_rfl) (by kernel_rfl) (by kernel_rfl) (fun _ _ _ h => h) (Or.inl ⟨by rfl, ?hyz30⟩) (by assumption) ?restz30
    case hyz30 => (intro wq hSw; (try dsimp only at hSw); first | (go_simp; done) | (go_simp; with_reducible rfl))
    try simp only [Act.put, List.getElem_toArray, List.getElem_cons_succ, List.getElem_cons_zero, List.setIfInBounds_toArray, List.set_cons_zero, List.set_cons_succ]
    refine wpAnyH_take (i := 18) (oi := _) (v := ?vz31) rfl (by kernel_rfl) (by kernel_rfl) (by kernel_rfl) (fun _ _ _ h => h) (Or.inl ⟨by rfl, ?hyz31⟩) (by assumption) ?restz31
    case hyz31 => (intro wq hSw; (try dsimp only at hSw); first | (go_simp; done) | (go_simp; with_reducible rfl))
    try simp only [Act.put, List.getElem_toArray, List.getElem_cons_succ, List.getElem_cons_zero, List.setIfInBounds_toArray, List.set_cons_zero, List.set_cons_succ]
    refine wpAnyH_take (i := 19) (oi := _) (v := ?vz32) rfl (by kernel_rfl) (by kernel_rfl) (by kernel_rfl) (fun _ _ _ h => h) (Or.inl ⟨by rfl, ?hyz32⟩) (by assumption) ?restz32
    case hyz32 => (intro wq hSw; (try dsimp only at hSw); first | (go_simp; done) | (go_simp; with_reducible rfl))
    try simp only [Act.put, List.getElem_toArray, List.getElem_cons_succ, List.getElem_cons_zero, List.setIfInBounds_toArray, List.set_cons_zero, List.set_cons_succ]
    refine wpAnyH_take (i := 20) (oi := _) (v := ?vz33) rfl (by kernel_rfl) (by kernel_rfl) (by kernel_rfl) (fun _ _ _ h => h) (Or.inl ⟨by rfl, ?hyz33⟩) (by assumption) ?restz33
    case hyz33 => (intro wq hSw; (try dsimp only at hSw); first | (go_simp; done) | (go_simp; with_reducible rfl))
    try simp only [Act.put, List.getElem_toArray, List.getElem_cons_succ, List.getElem_cons_zero, List.setIfInBounds_toArray, List.set_cons_zero, List.set_cons_succ]
    refine wpAnyH_take (i := 21) (oi := _) (v := ?vz34) rfl (by kernel_rfl) (by kernel_rfl) (by kernel_rfl) (fun _ _ _ h => h) (Or.inl ⟨by rfl, ?hyz34⟩) (by assumption) ?restz34
    case hyz34 => (intro wq hSw; (try dsimp only at hSw); first | (go_simp; done) | (go_simp; with_reducible rfl))
    try simp only [Act.put, List.getElem_toArray, List.getElem_cons_succ, List.getElem_cons_zero, List.setIfInBounds_toArray, List.set_cons_zero, List.set_cons_succ]
    refine wpAnyH_take (i := 22) (oi := _) (v := ?vz35) rfl (by kernel_rfl) (by kernel_rfl) (by kernel_rfl) (fun _ _ _ h => h) (Or.inl ⟨by rfl, ?hyz35⟩) (by assumption) ?restz35
    case hyz35 => (intro wq hSw; (try dsimp only at hSw); first | (go_simp; done) | (go_simp; with_reducible rfl))
    try simp only [Act.put, List.getElem_toArray, List.getElem_cons_succ, List.getElem_cons_zero, List.setIfInBounds_toArray, List.set_cons_zero, List.set_cons_succ]
    refine wpAnyH_take (i := 23) (oi := _) (v := ?vz36) rfl (by kernel_rfl) (by kernel_rfl) (by kernel_rfl) (fun _ _ _ h => h) (Or.inl ⟨by rfl, ?hyz36⟩) (by assumption) ?restz36
    case hyz36 => (intro wq hSw; (try dsimp only at hSw); first | (go_simp; done) | (go_simp; with_reducible rfl))
    try simp only [Act.put, List.getElem_toArray, List.getElem_cons_succ, List.getElem_cons_zero, List.setIfInBounds_toArray, List.set_cons_zero, List.set_cons_succ]
    refine wpAnyH_take (i := 24) (oi := _) (v := ?vz37) rfl (by kernel_rfl) (by kernel_rfl) (by kernel_rfl) (fun _ _ _ h => h) (Or.inl ⟨by rfl, ?hyz37⟩) (by assumption) ?restz37
    case hyz37 => (intro wq hSw; (try dsimp only at hSw); first | (go_simp; done) | (go_simp; with_reducible rfl))
    try simp only [Act.put, List.getElem_toArray, List.getElem_cons_succ, List.getElem_cons_zero, List.setIfInBounds_toArray, List.set_cons_zero, List.set_cons_succ]
    refine wpAnyH_take (i := 25) (oi := _) (v := ?vz38) rfl (by kernel_rfl) (by kernel_rfl) (by kernel_rfl) (fun _ _ _ h => h) (Or.inl ⟨by rfl, ?hyz38⟩) (by assumption) ?restz38
    case hyz38 => (intro wq hSw; (try dsimp only at hSw); first | (go_simp; done) | (go_simp; with_reducible rfl))
    try simp only [Act.put, List.getElem_toArray, List.getElem_cons_succ, List.getElem_cons_zero, List.setIfInBounds_toArray, List.set_cons_zero, List.set_cons_succ]
    refine wpAnyH_take (i := 26) (oi := _) (v := ?vz39) rfl (by kernel_rfl) (by kernel_rfl) (by kernel_rfl) (fun _ _ _ h => h) (Or.inl ⟨by rfl, ?hyz39⟩) (by assumption) ?restz39
    case hyz39 => (intro wq hSw; (try dsimp only at hSw); first | (go_simp; done) | (go_simp; with_reducible rfl))
    try simp only [Act.put, List.getElem_toArray, List.getElem_cons_succ, List.getElem_cons_zero, List.setIfInBounds_toArray, List.set_cons_zero, List.set_cons_succ]
    refine wpAnyH_take (i := 27) (oi := _) (v := ?vz40) rfl (by kernel_rfl) (by kernel_rfl) (by kernel_rfl) (fun _ _ _ h => h) (Or.inl ⟨by rfl, ?hyz40⟩) (by assumption) ?restz40
    case hyz40 => (intro wq hSw; (try dsimp only at hSw); first | (go_simp; done) | (go_simp; with_reducible rfl))
    try simp only [Act.put, List.getElem_toArray, List.getElem_cons_succ, List.getElem_cons_zero, List.setIfInBounds_toArray, List.set_cons_zero, List.set_cons_succ]
    refine wpAnyH_take (i := 28) (oi := _) (v := ?vz41) rfl (by kernel_rfl) (by kernel_rfl) (by kernel_rfl) (fun _ _ _ h => h) (Or.inl ⟨by rfl, ?hyz41⟩) (by assumption) ?restz41
    case hyz41 => (intro wq hSw; (try dsimp only at hSw); first | (go_simp; done) | (go_simp; with_reducible rfl))
    try simp only [Act.put, List.getElem_toArray, List.getElem_cons_succ, List.getElem_cons_zero, List.setIfInBounds_toArray, List.set_cons_zero, List.set_cons_succ]
    refine wpAnyH_take (i := 29) (oi := _) (v := ?vz42) rfl (by kernel_rfl) (by kernel_rfl) (by kernel_rfl) (fun _ _ _ h => h) (Or.inl ⟨by rfl, ?hyz42⟩) (by assumption) ?restz42
    case hyz42 => (intro wq hSw; (try dsimp only at hSw); first | (go_simp; done) | (go_simp; with_reducible rfl))
    try simp only [Act.put, List.getElem_toArray, List.getElem_cons_succ, List.getElem_cons_zero, List.setIfInBounds_toArray, List.set_cons_zero, List.set_cons_succ]
    refine wpAnyH_take (i := 30) (oi := _) (v := ?vz43) rfl (by kernel_rfl) (by kernel_rfl) (by kernel_rfl) (fun _ _ _ h => h) (Or.inl ⟨by rfl, ?hyz43⟩) (by assumption) ?restz43
    case hyz43 => (intro wq hSw; (try dsimp only at hSw); first | (go_simp; done) | (go_simp; with_reducible rfl))
    try simp only [Act.put, List.getElem_toArray, List.getElem_cons_succ, List.getElem_cons_zero, List.setIfInBounds_toArray, List.set_cons_zero, List.set_cons_succ]
    refine wpAnyH_take (i := 31) (oi := _) (v := ?vz44) rfl (by kernel_rfl) (by kernel_rfl) (by kernel_rfl) (fun _ _ _ h => h) (Or.inl ⟨by rfl, ?hyz44⟩) (by assumption) ?restz44
    case hyz44 => (intro wq hSw; (try dsimp only at hSw); first | (go_simp; done) | (go_simp; with_reducible rfl))
    try simp only [Act.put, List.getElem_toArray, List.getElem_cons_succ, List.getElem_cons_zero, List.setIfInBounds_toArray, List.set_cons_zero, List.set_cons_succ]
    refine wpAnyH_take (i := 32) (oi := _) (v := ?vz45) rfl (by kernel_rfl) (by kernel_rfl) (by kernel_rfl) (fun _ _ _ h => h) (Or.inl ⟨by rfl, ?hyz45⟩) (by assumption) ?restz45
    case hyz45 => (intro wq hSw; (try dsimp only at hSw); first | (go_simp; done) | (go_simp; with_reducible rfl))
    try simp only [Act.put, List.getElem_toArray, List.getElem_cons_succ, List.getElem_cons_zero, List.setIfInBounds_toArray, List.set_cons_zero, List.set_cons_succ]
    refine wpAnyH_ready (rs := [33]) (by kernel_rfl) (by simp) ?_
    refine AllReadyH.cons (o := _) rfl (fun KK hKK => ?_) AllReadyH.nil
    go_simp
    refine Calls.mono SN.out ?_
    rintro e y1 ⟨rfl, k1⟩
    have D1 := Lib.hid k1
    clear k1
    rw [eqB_self, eqB_self]
    go_wp2_with fail
    refine hKK.out _ _ (KX.out _ (D0.out.trans D1.out)) (fun hHeld2 => ?_)
    clear hKK KK hHeld
    have hHeld := hHeld2
    clear hHeld2
    try simp only [Act.put, List.getElem_toArray, List.getElem_cons_succ, List.getElem_cons_zero, List.setIfInBounds_toArray, List.set_cons_zero, List.set_cons_succ]
    refine wpAnyH_take (i := 34) (oi := _) (v := ?vz46) rfl (by kernel_rfl) (by kernel_rfl) (by kernel_rfl) (fun _ _ _ h => h) (Or.inl ⟨by rfl, ?hyz46⟩) (by assumption) ?restz46
    case hyz46 => (intro wq hSw; (try dsimp only at hSw); first | (go_simp; done) | (go_simp; with_reducible rfl))
    try simp only [Act.put, List.getElem_toArray, List.getElem_cons_succ, List.getElem_cons_zero, List.setIfInBounds_toArray, List.set_cons_zero, List.set_cons_succ]
    refine wpAnyH_take (i := 35) (oi := _) (v := ?vz47) rfl (by kernel_rfl) (by kernel_rfl) (by kernel_rfl) (fun _ _ _ h => h) (Or.inl ⟨by rfl, ?hyz47⟩) (by assumption) ?restz47
    case hyz47 => (intro wq hSw; (try dsimp only at hSw); first | (go_simp; done) | (go_simp; with_reducible rfl))
    try simp only [Act.put, List.getElem_toArray, List.getElem_cons_succ, List.getElem_cons_zero, List.setIfInBounds_toArray, List.set_cons_zero, List.set_cons_succ]
    refine wpAnyH_take (i := 36) (oi := _) (v := ?vz48) rfl (by kernel_rfl) (by kernel_rfl) (by kernel_rfl) (fun _ _ _ h => h) (Or.inl ⟨by rfl, ?hyz48⟩) (by assumption) ?restz48
    case hyz48 => (intro wq hSw; (try dsimp only at hSw); first | (go_simp; done) | (go_simp; with_reducible rfl))
    try simp only [Act.put, List.getElem_toArray, List.getElem_cons_succ, List.getElem_cons_zero, List.setIfInBounds_toArray, List.set_cons_zero, List.set_cons_succ]
    refine wpAnyH_take (i := 37) (oi := _) (v := ?vz49) rfl (by kernel_rfl) (by kernel_rfl) (by kernel_rfl) (fun _ _ _ h => h) (Or.inl ⟨by rfl, ?hyz49⟩) (by assumption) ?restz49
    case hyz49 => (intro wq hSw; (try dsimp only at hSw); first | (go_simp; done) | (go_simp; with_reducible rfl))
    try simp only [Act.put, List.getElem_toArray, List.getElem_cons_succ, List.getElem_cons_zero, List.setIfInBounds_toArray, List.set_cons_zero, List.set_cons_succ]
    refine wpAnyH_take (i := 38) (oi := _) (v := ?vz50) rfl (by kernel_rfl) (by kernel_rfl) (by kernel_rfl) (fun _ _ _ h => h) (Or.inl ⟨by rfl, ?hyz50⟩) (by assumption) ?restz50
    case hyz50 => (intro wq hSw; (try dsimp only at hSw); first | (go_simp; done) | (go_simp; with_reducible rfl))
    try simp only [Act.put, List.getElem_toArray, List.getElem_cons_succ, List.getElem_cons_zero, List.setIfInBounds_toArray, List.set_cons_zero, List.set_cons_succ]
    have SQ := Lib.hid (qsame_c (s := s) (t := s) (RD1.out _ (D0.out.trans D1.out)) (RD2.out _ (D0.out.trans D1.out)) (RE1.out _ (D0.out.trans D1.out)) (RE2.out _ (D0.out.trans D1.out)))
    refine wpAnyH_ready (rs := [39]) (by kernel_rfl) (by simp) ?_
    refine AllReadyH.cons (o := _) rfl (fun KK hKK => ?_) AllReadyH.nil
    go_simp
    refine Calls.mono SQ.out ?_
    rintro e y2 ⟨rfl, k2⟩
    have D2 := Lib.hid (Keep.trans (Keep.trans D0.out D1.out) k2)
    clear k2
    rw [eqB_self, eqB_self, beq_self_eq_true]
    go_wp2_with fail
    refine hKK.out _ _ (KX.out _ D2.out) (fun hHeld2 => ?_)
    clear hKK KK hHeld
    have hHeld := hHeld2
    clear hHeld2
    try simp only [Act.put, List.getElem_toArray, List.getElem_cons_succ, List.getElem_cons_zero, List.setIfInBounds_toArray, List.set_cons_zero, List.set_cons_succ]
    refine wpAnyH_take (i := 40) (oi := _) (v := ?vz51) rfl (by kernel_rfl) (by kernel_rfl) (by kernel_rfl) (fun _ _ _ h => h) (Or.inl ⟨by rfl, ?hyz51⟩) (by assumption) ?restz51
    case hyz51 => (intro wq hSw; (try dsimp only at hSw); first | (go_simp; done) | (go_simp; with_reducible rfl))
    try simp only [Act.put, List.getElem_toArray, List.getElem_cons_succ, List.getElem_cons_zero, List.setIfInBounds_toArray, List.set_cons_zero, List.set_cons_succ]
    refine wpAnyH_take (i := 41) (oi := _) (v := ?vz52) rfl (by kernel_rfl) (by kernel_rfl) (by kernel_rfl) (fun _ _ _ h => h) (Or.inl ⟨by rfl, ?hyz52⟩) (by assumption) ?restz52
    case hyz52 => (intro wq hSw; (try dsimp only at hSw); first | (go_simp; done) | (go_simp; with_reducible rfl))
    try simp only [Act.put, List.getElem_toArray, List.getElem_cons_succ, List.getElem_cons_zero, List.setIfInBounds_toArray, List.set_cons_zero, List.set_cons_succ]
    refine wpAnyH_take (i := 42) (oi := _) (v := ?vz53) rfl (by kernel_rfl) (by kernel_rfl) (by kernel_rfl) (fun _ _ _ h => h) (Or.inl ⟨by rfl, ?hyz53⟩) (by assumption) ?restz53
    case hyz53 => (intro wq hSw; (try dsimp only at hSw); first | (go_simp; done) | (go_simp; with_reducible rfl))
    try simp only [Act.put, List.getElem_toArray, List.getElem_cons_succ, List.getElem_cons_zero, List.setIfInBounds_toArray, List.set_cons_zero, List.set_cons_succ]
    refine wpAnyH_take (i := 44) (oi := _) (v := ?vz54) rfl (by kernel_rfl) (by kernel_rfl) (by kernel_rfl) (fun _ _ _ h => h) (Or.inl ⟨by rfl, ?hyz54⟩) (by assumption) ?restz54
    case hyz54 => (intro wq hSw; (try dsimp only at hSw); first | (go_simp; done) | (go_simp; with_reducible rfl))
    try simp only [Act.put, List.getElem_toArray, List.getElem_cons_succ, List.getElem_cons_zero, List.setIfInBounds_toArray, List.set_cons_zero, List.set_cons_succ]
    refine wpAnyH_take (i := 45) (oi := _) (v := ?vz55) rfl (by kernel_rfl) (by kernel_rfl) (by kernel_rfl) (fun _ _ _ h => h) (Or.inl ⟨by rfl, ?hyz55⟩) (by assumption) ?restz55
    case hyz55 => (intro wq hSw; (try dsimp only at hSw); first | (go_simp; done) | (go_simp; with_reducible rfl))
    try simp only [Act.put, List.getElem_toArray, List.getElem_cons_succ, List.getElem_cons_zero, List.setIfInBounds_toArray, List.set_cons_zero, List.set_cons_succ]
    refine wpAnyH_take (i := 46) (oi := _) (v := ?vz56) rfl (by kernel_rfl) (by kernel_rfl) (by kernel_rfl) (fun _ _ _ h => h) (Or.inl ⟨by rfl, ?hyz56⟩) (by assumption) ?restz56
    case hyz56 => (intro wq hSw; (try dsimp only at hSw); first | (go_simp; done) | (go_simp; with_reducible rfl))
    try simp only [Act.put, List.getElem_toArray, List.getElem_cons_succ, List.getElem_cons_zero, List.setIfInBounds_toArray, List.set_cons_zero, List.set_cons_succ]
    have LE := Lib.hid (left_g R (some l3) y2 (STX.out _ D2.out))
    refine wpAnyH_ready (rs := [43]) (by kernel_rfl) (by simp) ?_
    refine AllReadyH.cons (o := _) rfl (fun KK hKK => ?_) AllReadyH.nil
    go_simp
    refine Calls.mono LE.out ?_
    rintro e y3 ⟨rfl, rfl⟩
    simp only [lft, HL3.out]
    go_wp2_with fail
    refine hKK.out _ _ (KX.out _ D2.out) (fun hHeld2 => ?_)
    clear hKK KK hHeld
    have hHeld := hHeld2
    clear hHeld2
    try simp only [Act.put, List.getElem_toArray, List.getElem_cons_succ, List.getElem_cons_zero, List.setIfInBounds_toArray, List.set_cons_zero, List.set_cons_succ]
    refine wpAnyH_take (i := 47) (oi := _) (v := ?vz57) rfl (by kernel_rfl) (by kernel_rfl) (by kernel_rfl) (fun _ _ _ h => h) (Or.inl ⟨by rfl, ?hyz57⟩) (by assumption) ?restz57
    case hyz57 => (intro wq hSw; (try dsimp only at hSw); first | (go_simp; done) | (go_simp; with_reducible rfl))
    try simp only [Act.put, List.getElem_toArray, List.getElem_cons_succ, List.getElem_cons_zero, List.setIfInBounds_toArray, List.set_cons_zero, List.set_cons_succ]
    refine wpAnyH_take (i := 48) (oi := _) (v := ?vz58) rfl (by kernel_rfl) (by kernel_rfl) (by kernel_rfl) (fun _ _ _ h => h) (Or.inl ⟨by rfl, ?hyz58⟩) (by assumption) ?restz58
    case hyz58 => (intro wq hSw; (try dsimp only at hSw); first | (go_simp; done) | (go_simp; with_reducible rfl))
    try simp only [Act.put, List.getElem_toArray, List.getElem_cons_succ, List.getElem_cons_zero, List.setIfInBounds_toArray, List.set_cons_zero, List.set_cons_succ]
    refine wpAnyH_take (i := 49) (oi := _) (v := ?vz59) rfl (by kernel_rfl) (by kernel_rfl) (by kernel_rfl) (fun _ _ _ h => h) (Or.inl ⟨by rfl, ?hyz59⟩) (by assumption) ?restz59
    case hyz59 => (intro wq hSw; (try dsimp only at hSw); first | (go_simp; done) | (go_simp; with_reducible rfl))
    try simp only [Act.put, List.getElem_toArray, List.getElem_cons_succ, List.getElem_cons_zero, List.setIfInBounds_toArray, List.set_cons_zero, List.set_cons_succ]
    refine wpAnyH_done (by kernel_rfl) ?_ _
    try go_simp
    clear hHeld
    go_wp2
    refine bodyPost_ret (results_tmp rfl _ _ _) rfl ?_
    exact ⟨rfl, C2.out.trans ((BAw.out.trans (Below.mono D2.out BAw.out.size)).mono C2.out.size)⟩

end Go.Proofs.YtcdkehghdhcokaaDoor.wr
