/- Nat of the reference. -/
import Derived.Test.YtcdkehghdhcokaaDoorX12
import Derived.Laws.BitsAllLaws
import Derived.Deep.RegionHeld3
import Derived.Deep.Cut
namespace Go.Proofs.YtcdkehghdhcokaaDoor.wr
open Go.RowKit
set_option linter.unusedVariables false

theorem grown_base {w W W' : World} {R : Nat} (h : w.grownBy W (some R)) (hb : Below w.heap.size W W') : w.grownBy W' (some R) :=
  ⟨hb.os.trans h.os, hb.tape.trans h.tape, hb.output.trans h.output, Nat.le_trans h.size hb.size, fun j hj hne => (hb.block j hj).trans (h.block j hj hne)⟩
theorem ownw_set {w : World} {base R k : Nat} {v u : Value} {L : List Int} (h : OwnW w base v L) (hR : R < base) : OwnW (w.setCell ⟨R, k, none⟩ u) base v L := by
  obtain ⟨h1, h2⟩ := h
  refine ⟨h1, ?_⟩
  rcases h2 with h2 | ⟨g, cap, cur, hv, hg, hh, r⟩
  · exact .inl h2
  · refine .inr ⟨g, cap, cur, hv, hg, ?_, r⟩
    rw [heap_setCell_other _ _ g _ (by show g ≠ R; omega)]; exact hh

set_option linter.unusedSimpArgs false
theorem rnat_bad (R : Nat) (s : Option (List Int)) (w : World) (h : St 65 w R s) (hby : ∀ L, s = some L → Bytes L) (hlen : ∀ L, s = some L → L.length ≤ 100000) (hs : uR s = (0, 5, none)) :
    Calls Tryd.prog 30 #[.pointer (some ⟨R, 0, none⟩)] w (NPost 65 w R ([], 5, none)) := by
  have HU := Lib.hid (ruint_g R s w h hby hlen)
  rw [hs] at HU
  clear h hby hlen hs
  go_enter Tryd.func30, Tryd.ntmps30
  go_wp2_with fail
  refine HU.out.mono ?_
  rintro e w1 ⟨rfl, hr, hg⟩
  have RR := Lib.hid hr
  have GG := Lib.hid hg
  clear hr hg HU
  go_wp2
  refine bodyPost_ret (results_tmp2 rfl _ _ _) rfl ?_
  exact ⟨none, 0, 0, rfl, SlW.nil _, fun _ => rfl, RR.out, GG.out⟩
set_option maxHeartbeats 4000000 in
set_option maxRecDepth 100000 in
theorem rnat_short (R : Nat) (m : Nat) (T : List Int) (w : World) (h : St 65 w R (some (grp m ++ T))) (hby : Bytes (grp m ++ T)) (hm : m < 18446744073709551616) (hT : (grp m ++ T).length ≤ 100000) (hs : T.length / 4 < m) :
    Calls Tryd.prog 30 #[.pointer (some ⟨R, 0, none⟩)] w (NPost 65 w R ([], 5, none)) := by
  have HU := Lib.hid (ruint_s R _ w h hby hT)
  rw [uR_some (dec_of T hm)] at HU
  rw [List.length_append] at hT
  clear h hby
  go_enter Tryd.func30, Tryd.ntmps30
  go_wp2_with fail
  refine HU.out.mono ?_
  rintro e w1 ⟨rfl, hr, hg⟩
  have FL := Lib.hid (rfail_g R T w1 hr)
  obtain ⟨a, c, h1, h2, h3⟩ := hr
  have GG := Lib.hid hg
  have H1 := Lib.hid h1
  obtain ⟨n, hn⟩ : ∃ n, T.length = n := ⟨_, rfl⟩
  rw [hn] at H1 hs hT
  have k0 := cell_of_row w1 R 0 _ 65 (0, 0) H1.out
  change w1.cell? ⟨R, 0, none⟩ = some (.slice a n c) at k0
  obtain ⟨q, hq⟩ : ∃ q, n / 4 = q := ⟨_, rfl⟩
  rw [hq] at hs
  have hdiv : (n : Int).tdiv 4 = (q : Int) := by rw [Int.tdiv_eq_ediv_of_nonneg (by omega)]; omega
  have hd2 : (n : Int) / 4 = (q : Int) := by omega
  have hmq : (q : Int) < (m : Int) := by omega
  have hq0 : (0 : Int) ≤ (q : Int) := by omega
  have hq1 : (q : Int) ≤ 200000 := by omega
  clear h1 h2 h3 hg HU hn hq
  dsimp only
  go_wp2_with fail
  refine FL.out.mono ?_
  rintro e w2 ⟨rfl, hr2, hg2⟩
  have R2 := Lib.hid hr2
  have G2 := Lib.hid (grown_trans GG.out hg2)
  clear hr2 hg2 FL
  go_wp2
  refine bodyPost_ret (results_tmp2 rfl _ _ _) rfl ?_
  exact ⟨none, 0, 0, rfl, SlW.nil _, fun _ => rfl, R2.out, G2.out⟩
theorem slb_take {w : World} {b off n c k : Nat} {L : List Int} (h : SlB w (some ⟨b, off, none⟩) n c L) (hk : k < n) : SlB w (some ⟨b, off + (k + 1), none⟩) (n - (k + 1)) (c - (k + 1)) (L.drop (k + 1)) := by
  have e : L = L.take (k + 1) ++ L.drop (k + 1) := (List.take_append_drop _ _).symm
  have h2 := h
  rw [e] at h2
  exact SlB.drop (A := L.take (k + 1)) (B := L.drop (k + 1)) (k := k + 1) h2 (by rw [List.length_take]; have := h.1; omega)
set_option maxHeartbeats 8000000 in
set_option maxRecDepth 100000 in
theorem rnat_some (R m : Nat) (T : List Int) (w : World) (h : St 65 w R (some (grp m ++ T))) (hby : Bytes (grp m ++ T)) (hT : (grp m ++ T).length ≤ 100000) (hmT : ¬ T.length / 4 < m) :
    Calls Tryd.prog 30 #[.pointer (some ⟨R, 0, none⟩)] w (NPost 65 w R (if 0 < m ∧ (lbs m T).getD (m - 1) 0 = 0 then ([], 5, none) else (lbs m T, 0, some (T.drop (4 * m))))) := by
  have hT2 := hT
  rw [List.length_append] at hT2
  have HU := Lib.hid (ruint_s R _ w h hby hT)
  rw [uR_some (dec_of T (m := m) (by omega))] at HU
  have BB := Lib.hid (show Bytes T from hby.right)
  have hm5 : m ≤ 25000 := by omega
  have HTL := Lib.hid (show 4 * m ≤ T.length by omega)
  have LL := Lib.hid (lbs_len m T (by omega))
  have LR := Lib.hid (lbs_range m T BB.out)
  obtain ⟨r, hr0⟩ : ∃ r, (if 0 < m ∧ (lbs m T).getD (m - 1) 0 = 0 then (([], 5, none) : List Int × Int × Option (List Int)) else (lbs m T, 0, some (T.drop (4 * m)))) = r := ⟨_, rfl⟩
  rw [hr0]
  have HRR := Lib.hid hr0
  clear h hby hr0 hT
  go_enter Tryd.func30, Tryd.ntmps30
  go_wp2_with fail
  refine HU.out.mono ?_
  rintro e w1 ⟨rfl, hst, hg⟩
  have NI1 := Lib.hid hst.noInt
  obtain ⟨a0, c0, h1, h2, h3⟩ := hst
  obtain ⟨n0, hn0⟩ : ∃ n, T.length = n := ⟨_, rfl⟩
  have HN0 := Lib.hid hn0
  have GG := Lib.hid hg
  rw [hn0] at h1 h2 h3 hmT hT2
  have H1 := Lib.hid h1
  have H2 := Lib.hid h2
  have H3 := Lib.hid h3
  have k0 := cell_of_row w1 R 0 _ 65 (0, 0) h1
  change w1.cell? ⟨R, 0, none⟩ = some (.slice a0 n0 c0) at k0
  obtain ⟨q, hq⟩ : ∃ q, n0 / 4 = q := ⟨_, rfl⟩
  rw [hq] at hmT
  have hdiv : (n0 : Int).tdiv 4 = (q : Int) := by rw [Int.tdiv_eq_ediv_of_nonneg (by omega)]; omega
  have hd2 : (n0 : Int) / 4 = (q : Int) := by omega
  have hmq : ¬ ((q : Int) < (m : Int)) := by omega
  have hq0 : (0 : Int) ≤ (q : Int) := by omega
  have hq1 : (q : Int) ≤ 200000 := by omega
  have hmi : (m : Int) ≤ 25000 := by omega
  clear h1 h2 h3 hg HU hn0 hq
  dsimp only
  go_wp2
  clear k0 hdiv hd2 hmq hq0 hq1 hmT
  go_loopw [6, 7] (fun s6 s7 wr => ∃ (k : Nat) (a : Option Addr) (n c : Nat) (v : Value), k ≤ m ∧ v = s6 ∧ s7 = .int .i64 (k : Nat) ∧ wr.heap[R]? = some (.cells #[.slice a n c, .bool false] 65 (0, 0)) ∧ SlB w1 a n c (T.drop (4 * k)) ∧ (∀ b off, a = some ⟨b, off, none⟩ → 0 < n → b ≠ R) ∧ OwnW wr w1.heap.size v ((lbs m T).take k) ∧ w1.grownBy wr (some R)) (fun _ s _ => m - (intOf s).toNat)
  case atStart => exact ⟨0, a0, n0, c0, _, by omega, rfl, rfl, H1.out, by simpa using H2.out, H3.out, by simpa using OwnW.nil _ _, grown_refl _ _⟩
  case round =>
    obtain ⟨k, a, n, c, v, hk, rfl, rfl, hrow, hs, hal, ho, hb⟩ := hrel
    have RW := Lib.hid hrow
    have SW := Lib.hid hs
    have OO := Lib.hid ho
    have B1 := Lib.hid hb
    have AL := Lib.hid hal
    have sz := Lib.hid hb.size
    have HN := Lib.hid (show n = n0 - 4 * k by rw [← hs.1, List.length_drop, HN0.out])
    have hnc : n ≤ c := hs.2.1
    have hc63 := hs.2.2.1
    have HT4 := Lib.hid (show 4 * m ≤ n0 by rw [← HN0.out]; exact HTL.out)
    clear hrow hs hal ho hb
    by_cases hlt : k < m
    · have h4n : 4 ≤ n := by have := HN.out; have := HT4.out; omega
      obtain ⟨b, off, ea, hbl, hcs⟩ := SW.out.at (by omega)
      subst ea
      have hbR := AL.out b off rfl (by omega)
      have i0 : (0 : Int) < (n : Int) := by omega
      have hn0p : 0 < n := by omega
      have i1 : (1 : Int) < (n : Int) := by omega
      have i2 : (2 : Int) < (n : Int) := by omega
      have i3 : (3 : Int) < (n : Int) := by omega
      have i4 : (4 : Int) ≤ (n : Int) := by omega
      have i5 : (4 : Int) ≤ (c : Int) := by omega
      have hlti : (k : Int) < (m : Int) := by omega
      obtain ⟨y0, y1, y2, y3, E, hE, h0, h1, h2, h3⟩ := four_of (D := T.drop (4 * k)) (by rw [List.length_drop]; have := HTL.out; omega) (BB.out.drop _)
      have g0 := hcs 0 (by omega)
      have g1 := hcs 1 (by omega)
      have g2 := hcs 2 (by omega)
      have g3 := hcs 3 (by omega)
      rw [hE] at g0 g1 g2 g3
      have KB : Hid (∀ W, w1.grownBy W (some R) → W.cell? ⟨b, off, none⟩ = some (.int .u8 (y0 : Int)) ∧ W.cell? ⟨b, off + 1, none⟩ = some (.int .u8 (y1 : Int)) ∧ W.cell? ⟨b, off + 2, none⟩ = some (.int .u8 (y2 : Int)) ∧ W.cell? ⟨b, off + 3, none⟩ = some (.int .u8 (y3 : Int))) := Lib.hid (fun W hW => ⟨hW.cell g0 (by simpa using hbR), hW.cell g1 (by simpa using hbR), hW.cell g2 (by simpa using hbR), hW.cell g3 (by simpa using hbR)⟩)
      have KR : Hid (∀ W : World, W.heap[R]? = some (.cells #[.slice (some ⟨b, off, none⟩) n c, .bool false] 65 (0, 0)) → W.cell? ⟨R, 0, none⟩ = some (.slice (some ⟨b, off, none⟩) n c)) := Lib.hid (fun W hW => cell_of_row W R 0 _ 65 (0, 0) hW)
      have HBR := Lib.hid hbR
      clear g0 g1 g2 g3 hcs hbl hbR
      have kd : wr.drew.cell? ⟨R, 0, none⟩ = some (.slice (some ⟨b, off, none⟩) n c) ∧ wr.drew.cell? ⟨b, off, none⟩ = some (.int .u8 (y0 : Int)) ∧ wr.drew.cell? ⟨b, off + 1, none⟩ = some (.int .u8 (y1 : Int)) ∧ wr.drew.cell? ⟨b, off + 2, none⟩ = some (.int .u8 (y2 : Int)) ∧ wr.drew.cell? ⟨b, off + 3, none⟩ = some (.int .u8 (y3 : Int)) := ⟨KR.out wr RW.out, KB.out wr B1.out⟩
      have ET := Lib.hid (lbs_take k m T y0 y1 y2 y3 E hlt HTL.out hE)
      have HE := Lib.hid hE
      have q0 : IntKind.u32.wrap (y0 : Int) = y0 := wrap32 (by omega) (by omega)
      have q1 : IntKind.u32.wrap (y1 : Int) = y1 := wrap32 (by omega) (by omega)
      have q2 : IntKind.u32.wrap (y2 : Int) = y2 := wrap32 (by omega) (by omega)
      have q3 : IntKind.u32.wrap (y3 : Int) = y3 := wrap32 (by omega) (by omega)
      have p1 : IntKind.u32.wrap ((y1 : Int) * 256) = (y1 : Int) * 256 := wrap32 (by omega) (by omega)
      have p2 : IntKind.u32.wrap ((y2 : Int) * 65536) = (y2 : Int) * 65536 := wrap32 (by omega) (by omega)
      have p3 : IntKind.u32.wrap ((y3 : Int) * 16777216) = (y3 : Int) * 16777216 := wrap32 (by omega) (by omega)
      have s1 : IntKind.u32.wrap ((y0 : Int) + (y1 : Int) * 256) = (y0 : Int) + (y1 : Int) * 256 := wrap32 (by omega) (by omega)
      have s2 : IntKind.u32.wrap ((y0 : Int) + (y1 : Int) * 256 + (y2 : Int) * 65536) = (y0 : Int) + (y1 : Int) * 256 + (y2 : Int) * 65536 := wrap32 (by omega) (by omega)
      have s3 : IntKind.u32.wrap ((y0 : Int) + (y1 : Int) * 256 + (y2 : Int) * 65536 + (y3 : Int) * 16777216) = ((y0 : Int) + (y1 : Int) * 256 + (y2 : Int) * 65536 + (y3 : Int) * 16777216) := wrap32 (by omega) (by omega)
      have hRw := (Array.getElem?_eq_some_iff.1 RW.out).1
      obtain ⟨wa, hwa⟩ : ∃ wa, wr.drew.alloc (.cells #[.int .u32 ((y0 : Int) + (y1 : Int) * 256 + (y2 : Int) * 65536 + (y3 : Int) * 16777216)] 60) = wa := ⟨_, rfl⟩
      have BA : Hid (Below wr.heap.size wr wa) := Lib.hid (by rw [← hwa]; exact (below_drewN (Below.refl _ wr) 1).alloc (Nat.le_refl _) _)
      have OA := Lib.hid (OO.out.below BA.out)
      have SA : Hid (Src Tryd.prog 1 35 (.slice (some ⟨wr.heap.size, 0, none⟩) 1 1) 1 (vals .u32 [((y0 : Int) + (y1 : Int) * 256 + (y2 : Int) * 65536 + (y3 : Int) * 16777216)]) wa) := Lib.hid (by rw [← hwa]; exact one_srcw wr.drew _)
      obtain ⟨v2, w2, hrun, hO2, hB2⟩ := app_ws wa w1.heap.size v _ _ 1 _ OA.out SA.out rfl (by rw [List.length_take]; omega) (by have := BA.out.size; have := sz.out; omega)
      have hR1 : R < w1.heap.size := (Array.getElem?_eq_some_iff.1 H1.out).1
      have Ga : Hid (w1.grownBy wa (some R)) := Lib.hid (grown_below B1.out BA.out)
      have G2 : Hid (w1.grownBy w2 (some R)) := Lib.hid (grown_base Ga.out hB2)
      have RWa : Hid (wa.heap[R]? = some (.cells #[.slice (some ⟨b, off, none⟩) n c, .bool false] 65 (0, 0))) := Lib.hid ((BA.out.block R hRw).trans RW.out)
      have RW2 : Hid (w2.heap[R]? = some (.cells #[.slice (some ⟨b, off, none⟩) n c, .bool false] 65 (0, 0))) := Lib.hid ((hB2.block R hR1).trans RWa.out)
      have ka : wa.cell? ⟨R, 0, none⟩ = some (.slice (some ⟨b, off, none⟩) n c) ∧ wa.cell? ⟨b, off, none⟩ = some (.int .u8 (y0 : Int)) ∧ wa.cell? ⟨b, off + 1, none⟩ = some (.int .u8 (y1 : Int)) ∧ wa.cell? ⟨b, off + 2, none⟩ = some (.int .u8 (y2 : Int)) ∧ wa.cell? ⟨b, off + 3, none⟩ = some (.int .u8 (y3 : Int)) := ⟨KR.out wa RWa.out, KB.out wa Ga.out⟩
      have kb : w2.cell? ⟨R, 0, none⟩ = some (.slice (some ⟨b, off, none⟩) n c) ∧ w2.cell? ⟨b, off, none⟩ = some (.int .u8 (y0 : Int)) ∧ w2.cell? ⟨b, off + 1, none⟩ = some (.int .u8 (y1 : Int)) ∧ w2.cell? ⟨b, off + 2, none⟩ = some (.int .u8 (y2 : Int)) ∧ w2.cell? ⟨b, off + 3, none⟩ = some (.int .u8 (y3 : Int)) := ⟨KR.out w2 RW2.out, KB.out w2 G2.out⟩
      have hk9 : (k : Int) ≤ 25000 := by omega
      go_upto_region 10 with (fail)
      refine wp_region_held_drew (S := (fun w' => w'.cell? ⟨R, 0, none⟩ = some (.slice (some ⟨b, off, none⟩) n c) ∧ w'.cell? ⟨b, off, none⟩ = some (.int .u8 (y0 : Int)) ∧ w'.cell? ⟨b, off + 1, none⟩ = some (.int .u8 (y1 : Int)) ∧ w'.cell? ⟨b, off + 2, none⟩ = some (.int .u8 (y2 : Int)) ∧ w'.cell? ⟨b, off + 3, none⟩ = some (.int .u8 (y3 : Int)))) (by kernel_rfl) kd (fun hHeld => ?_)
      refine wpAnyH_take (i := 0) (oi := _) (v := ?vA0) rfl (by kernel_rfl) (by kernel_rfl) (by kernel_rfl) (fun _ _ _ h => h) (Or.inl ⟨by rfl, ?hyA0⟩) (by assumption) ?restA0
      case hyA0 => (intro wq hSw; (try dsimp only at hSw); first | (go_simp; done) | (go_simp; with_reducible rfl))
      try simp only [Act.put, List.getElem_toArray, List.getElem_cons_succ, List.getElem_cons_zero, List.setIfInBounds_toArray, List.set_cons_zero, List.set_cons_succ]
      refine wpAnyH_take (i := 1) (oi := _) (v := ?vA1) rfl (by kernel_rfl) (by kernel_rfl) (by kernel_rfl) (fun _ _ _ h => h) (Or.inl ⟨by rfl, ?hyA1⟩) (by assumption) ?restA1
      case hyA1 => (intro wq hSw; (try dsimp only at hSw); first | (go_simp; done) | (go_simp; with_reducible rfl))
      try simp only [Act.put, List.getElem_toArray, List.getElem_cons_succ, List.getElem_cons_zero, List.setIfInBounds_toArray, List.set_cons_zero, List.set_cons_succ]
      refine wpAnyH_take (i := 2) (oi := _) (v := ?vA2) rfl (by kernel_rfl) (by kernel_rfl) (by kernel_rfl) (fun _ _ _ h => h) (Or.inl ⟨by rfl, ?hyA2⟩) (by assumption) ?restA2
      case hyA2 => (intro wq hSw; (try dsimp only at hSw); first | (go_simp; done) | (go_simp; with_reducible rfl))
      try simp only [Act.put, List.getElem_toArray, List.getElem_cons_succ, List.getElem_cons_zero, List.setIfInBounds_toArray, List.set_cons_zero, List.set_cons_succ]
      refine wpAnyH_take (i := 3) (oi := _) (v := ?vA3) rfl (by kernel_rfl) (by kernel_rfl) (by kernel_rfl) (fun _ _ _ h => h) (Or.inl ⟨by rfl, ?hyA3⟩) (by assumption) ?restA3
      case hyA3 => (intro wq hSw; (try dsimp only at hSw); first | (go_simp; done) | (go_simp; with_reducible rfl))
      try simp only [Act.put, List.getElem_toArray, List.getElem_cons_succ, List.getElem_cons_zero, List.setIfInBounds_toArray, List.set_cons_zero, List.set_cons_succ]
      refine wpAnyH_take (i := 4) (oi := _) (v := ?vA4) rfl (by kernel_rfl) (by kernel_rfl) (by kernel_rfl) (fun _ _ _ h => h) (Or.inl ⟨by rfl, ?hyA4⟩) (by assumption) ?restA4
      case hyA4 => (intro wq hSw; (try dsimp only at hSw); first | (go_simp; done) | (go_simp; with_reducible rfl))
      try simp only [Act.put, List.getElem_toArray, List.getElem_cons_succ, List.getElem_cons_zero, List.setIfInBounds_toArray, List.set_cons_zero, List.set_cons_succ]
      refine wpAnyH_take (i := 5) (oi := _) (v := ?vA5) rfl (by kernel_rfl) (by kernel_rfl) (by kernel_rfl) (fun _ _ _ h => h) (Or.inl ⟨by rfl, ?hyA5⟩) (by assumption) ?restA5
      case hyA5 => (intro wq hSw; (try dsimp only at hSw); first | (go_simp; done) | (go_simp; with_reducible rfl))
      try simp only [Act.put, List.getElem_toArray, List.getElem_cons_succ, List.getElem_cons_zero, List.setIfInBounds_toArray, List.set_cons_zero, List.set_cons_succ]
      refine wpAnyH_take (i := 6) (oi := _) (v := ?vA6) rfl (by kernel_rfl) (by kernel_rfl) (by kernel_rfl) (fun _ _ _ h => h) (Or.inl ⟨by rfl, ?hyA6⟩) (by assumption) ?restA6
      case hyA6 => (intro wq hSw; (try dsimp only at hSw); first | (go_simp; done) | (go_simp; with_reducible rfl))
      try simp only [Act.put, List.getElem_toArray, List.getElem_cons_succ, List.getElem_cons_zero, List.setIfInBounds_toArray, List.set_cons_zero, List.set_cons_succ]
      refine wpAnyH_take (i := 7) (oi := _) (v := ?vA7) rfl (by kernel_rfl) (by kernel_rfl) (by kernel_rfl) (fun _ _ _ h => h) (Or.inl ⟨by rfl, ?hyA7⟩) (by assumption) ?restA7
      case hyA7 => (intro wq hSw; (try dsimp only at hSw); first | (go_simp; done) | (go_simp; with_reducible rfl))
      try simp only [Act.put, List.getElem_toArray, List.getElem_cons_succ, List.getElem_cons_zero, List.setIfInBounds_toArray, List.set_cons_zero, List.set_cons_succ]
      refine wpAnyH_take (i := 8) (oi := _) (v := ?vA8) rfl (by kernel_rfl) (by kernel_rfl) (by kernel_rfl) (fun _ _ _ h => h) (Or.inl ⟨by rfl, ?hyA8⟩) (by assumption) ?restA8
      case hyA8 => (intro wq hSw; (try dsimp only at hSw); first | (go_simp; done) | (go_simp; with_reducible rfl))
      try simp only [Act.put, List.getElem_toArray, List.getElem_cons_succ, List.getElem_cons_zero, List.setIfInBounds_toArray, List.set_cons_zero, List.set_cons_succ]
      refine wpAnyH_take (i := 9) (oi := _) (v := ?vA9) rfl (by kernel_rfl) (by kernel_rfl) (by kernel_rfl) (fun _ _ _ h => h) (Or.inl ⟨by rfl, ?hyA9⟩) (by assumption) ?restA9
      case hyA9 => (intro wq hSw; (try dsimp only at hSw); first | (go_simp; done) | (go_simp; with_reducible rfl))
      try simp only [Act.put, List.getElem_toArray, List.getElem_cons_succ, List.getElem_cons_zero, List.setIfInBounds_toArray, List.set_cons_zero, List.set_cons_succ]
      refine wpAnyH_take (i := 10) (oi := _) (v := ?vA10) rfl (by kernel_rfl) (by kernel_rfl) (by kernel_rfl) (fun _ _ _ h => h) (Or.inl ⟨by rfl, ?hyA10⟩) (by assumption) ?restA10
      case hyA10 => (intro wq hSw; (try dsimp only at hSw); first | (go_simp; done) | (go_simp; with_reducible rfl))
      try simp only [Act.put, List.getElem_toArray, List.getElem_cons_succ, List.getElem_cons_zero, List.setIfInBounds_toArray, List.set_cons_zero, List.set_cons_succ]
      refine wpAnyH_take (i := 11) (oi := _) (v := ?vA11) rfl (by kernel_rfl) (by kernel_rfl) (by kernel_rfl) (fun _ _ _ h => h) (Or.inl ⟨by rfl, ?hyA11⟩) (by assumption) ?restA11
      case hyA11 => (intro wq hSw; (try dsimp only at hSw); first | (go_simp; done) | (go_simp; with_reducible rfl))
      try simp only [Act.put, List.getElem_toArray, List.getElem_cons_succ, List.getElem_cons_zero, List.setIfInBounds_toArray, List.set_cons_zero, List.set_cons_succ]
      refine wpAnyH_take (i := 12) (oi := _) (v := ?vA12) rfl (by kernel_rfl) (by kernel_rfl) (by kernel_rfl) (fun _ _ _ h => h) (Or.inl ⟨by rfl, ?hyA12⟩) (by assumption) ?restA12
      case hyA12 => (intro wq hSw; (try dsimp only at hSw); first | (go_simp; done) | (go_simp; with_reducible rfl))
      try simp only [Act.put, List.getElem_toArray, List.getElem_cons_succ, List.getElem_cons_zero, List.setIfInBounds_toArray, List.set_cons_zero, List.set_cons_succ]
      refine wpAnyH_take (i := 13) (oi := _) (v := ?vA13) rfl (by kernel_rfl) (by kernel_rfl) (by kernel_rfl) (fun _ _ _ h => h) (Or.inl ⟨by rfl, ?hyA13⟩) (by assumption) ?restA13
      case hyA13 => (intro wq hSw; (try dsimp only at hSw); first | (go_simp; done) | (go_simp; with_reducible rfl))
      try simp only [Act.put, List.getElem_toArray, List.getElem_cons_succ, List.getElem_cons_zero, List.setIfInBounds_toArray, List.set_cons_zero, List.set_cons_succ]
      refine wpAnyH_take (i := 14) (oi := _) (v := ?vA14) rfl (by kernel_rfl) (by kernel_rfl) (by kernel_rfl) (fun _ _ _ h => h) (Or.inl ⟨by rfl, ?hyA14⟩) (by assumption) ?restA14
      case hyA14 => (intro wq hSw; (try dsimp only at hSw); first | (go_simp; done) | (go_simp; with_reducible rfl))
      try simp only [Act.put, List.getElem_toArray, List.getElem_cons_succ, List.getElem_cons_zero, List.setIfInBounds_toArray, List.set_cons_zero, List.set_cons_succ]
      refine wpAnyH_take (i := 15) (oi := _) (v := ?vA15) rfl (by kernel_rfl) (by kernel_rfl) (by kernel_rfl) (fun _ _ _ h => h) (Or.inl ⟨by rfl, ?hyA15⟩) (by assumption) ?restA15
      case hyA15 => (intro wq hSw; (try dsimp only at hSw); first | (go_simp; done) | (go_simp; with_reducible rfl))
      try simp only [Act.put, List.getElem_toArray, List.getElem_cons_succ, List.getElem_cons_zero, List.setIfInBounds_toArray, List.set_cons_zero, List.set_cons_succ]
      refine wpAnyH_take (i := 16) (oi := _) (v := ?vA16) rfl (by kernel_rfl) (by kernel_rfl) (by kernel_rfl) (fun _ _ _ h => h) (Or.inl ⟨by rfl, ?hyA16⟩) (by assumption) ?restA16
      case hyA16 => (intro wq hSw; (try dsimp only at hSw); first | (go_simp; done) | (go_simp; with_reducible rfl))
      try simp only [Act.put, List.getElem_toArray, List.getElem_cons_succ, List.getElem_cons_zero, List.setIfInBounds_toArray, List.set_cons_zero, List.set_cons_succ]
      refine wpAnyH_take (i := 17) (oi := _) (v := ?vA17) rfl (by kernel_rfl) (by kernel_rfl) (by kernel_rfl) (fun _ _ _ h => h) (Or.inl ⟨by rfl, ?hyA17⟩) (by assumption) ?restA17
      case hyA17 => (intro wq hSw; (try dsimp only at hSw); first | (go_simp; done) | (go_simp; with_reducible rfl))
      try simp only [Act.put, List.getElem_toArray, List.getElem_cons_succ, List.getElem_cons_zero, List.setIfInBounds_toArray, List.set_cons_zero, List.set_cons_succ]
      refine wpAnyH_take (i := 18) (oi := _) (v := ?vA18) rfl (by kernel_rfl) (by kernel_rfl) (by kernel_rfl) (fun _ _ _ h => h) (Or.inl ⟨by rfl, ?hyA18⟩) (by assumption) ?restA18
      case hyA18 => (intro wq hSw; (try dsimp only at hSw); first | (go_simp; done) | (go_simp; with_reducible rfl))
      try simp only [Act.put, List.getElem_toArray, List.getElem_cons_succ, List.getElem_cons_zero, List.setIfInBounds_toArray, List.set_cons_zero, List.set_cons_succ]
      refine wpAnyH_take (i := 19) (oi := _) (v := ?vA19) rfl (by kernel_rfl) (by kernel_rfl) (by kernel_rfl) (fun _ _ _ h => h) (Or.inl ⟨by rfl, ?hyA19⟩) (by assumption) ?restA19
      case hyA19 => (intro wq hSw; (try dsimp only at hSw); first | (go_simp; done) | (go_simp; with_reducible rfl))
      try simp only [Act.put, List.getElem_toArray, List.getElem_cons_succ, List.getElem_cons_zero, List.setIfInBounds_toArray, List.set_cons_zero, List.set_cons_succ]
      refine wpAnyH_take (i := 20) (oi := _) (v := ?vA20) rfl (by kernel_rfl) (by kernel_rfl) (by kernel_rfl) (fun _ _ _ h => h) (Or.inl ⟨by rfl, ?hyA20⟩) (by assumption) ?restA20
      case hyA20 => (intro wq hSw; (try dsimp only at hSw); first | (go_simp; done) | (go_simp; with_reducible rfl))
      try simp only [Act.put, List.getElem_toArray, List.getElem_cons_succ, List.getElem_cons_zero, List.setIfInBounds_toArray, List.set_cons_zero, List.set_cons_succ]
      refine wpAnyH_take (i := 21) (oi := _) (v := ?vA21) rfl (by kernel_rfl) (by kernel_rfl) (by kernel_rfl) (fun _ _ _ h => h) (Or.inl ⟨by rfl, ?hyA21⟩) (by assumption) ?restA21
      case hyA21 => (intro wq hSw; (try dsimp only at hSw); first | (go_simp; done) | (go_simp; with_reducible rfl))
      try simp only [Act.put, List.getElem_toArray, List.getElem_cons_succ, List.getElem_cons_zero, List.setIfInBounds_toArray, List.set_cons_zero, List.set_cons_succ]
      refine wpAnyH_take (i := 22) (oi := _) (v := ?vA22) rfl (by kernel_rfl) (by kernel_rfl) (by kernel_rfl) (fun _ _ _ h => h) (Or.inl ⟨by rfl, ?hyA22⟩) (by assumption) ?restA22
      case hyA22 => (intro wq hSw; (try dsimp only at hSw); first | (go_simp; done) | (go_simp; with_reducible rfl))
      try simp only [Act.put, List.getElem_toArray, List.getElem_cons_succ, List.getElem_cons_zero, List.setIfInBounds_toArray, List.set_cons_zero, List.set_cons_succ]
      refine wpAnyH_take (i := 23) (oi := _) (v := ?vA23) rfl (by kernel_rfl) (by kernel_rfl) (by kernel_rfl) (fun _ _ _ h => h) (Or.inl ⟨by rfl, ?hyA23⟩) (by assumption) ?restA23
      case hyA23 => (intro wq hSw; (try dsimp only at hSw); first | (go_simp; done) | (go_simp; with_reducible rfl))
      try simp only [Act.put, List.getElem_toArray, List.getElem_cons_succ, List.getElem_cons_zero, List.setIfInBounds_toArray, List.set_cons_zero, List.set_cons_succ]
      refine wpAnyH_take (i := 24) (oi := _) (v := ?vA24) rfl (by kernel_rfl) (by kernel_rfl) (by kernel_rfl) (fun _ _ _ h => h) (Or.inl ⟨by rfl, ?hyA24⟩) (by assumption) ?restA24
      case hyA24 => (intro wq hSw; (try dsimp only at hSw); first | (go_simp; done) | (go_simp; with_reducible rfl))
      try simp only [Act.put, List.getElem_toArray, List.getElem_cons_succ, List.getElem_cons_zero, List.setIfInBounds_toArray, List.set_cons_zero, List.set_cons_succ]
      refine wpAnyH_take (i := 25) (oi := _) (v := ?vA25) rfl (by kernel_rfl) (by kernel_rfl) (by kernel_rfl) (fun _ _ _ h => h) (Or.inl ⟨by rfl, ?hyA25⟩) (by assumption) ?restA25
      case hyA25 => (intro wq hSw; (try dsimp only at hSw); first | (go_simp; done) | (go_simp; with_reducible rfl))
      try simp only [Act.put, List.getElem_toArray, List.getElem_cons_succ, List.getElem_cons_zero, List.setIfInBounds_toArray, List.set_cons_zero, List.set_cons_succ]
      refine wpAnyH_take (i := 26) (oi := _) (v := ?vA26) rfl (by kernel_rfl) (by kernel_rfl) (by kernel_rfl) (fun _ _ _ h => h) (Or.inl ⟨by rfl, ?hyA26⟩) (by assumption) ?restA26
      case hyA26 => (intro wq hSw; (try dsimp only at hSw); first | (go_simp; done) | (go_simp; with_reducible rfl))
      try simp only [Act.put, List.getElem_toArray, List.getElem_cons_succ, List.getElem_cons_zero, List.setIfInBounds_toArray, List.set_cons_zero, List.set_cons_succ]
      refine wpAnyH_take (i := 27) (oi := _) (v := ?vA27) rfl (by kernel_rfl) (by kernel_rfl) (by kernel_rfl) (fun _ _ _ h => h) (Or.inl ⟨by rfl, ?hyA27⟩) (by assumption) ?restA27
      case hyA27 => (intro wq hSw; (try dsimp only at hSw); first | (go_simp; done) | (go_simp; with_reducible rfl))
      try simp only [Act.put, List.getElem_toArray, List.getElem_cons_succ, List.getElem_cons_zero, List.setIfInBounds_toArray, List.set_cons_zero, List.set_cons_succ]
      refine wpAnyH_take (i := 28) (oi := _) (v := ?vA28) rfl (by kernel_rfl) (by kernel_rfl) (by kernel_rfl) (fun _ _ _ h => h) (Or.inl ⟨by rfl, ?hyA28⟩) (by assumption) ?restA28
      case hyA28 => (intro wq hSw; (try dsimp only at hSw); first | (go_simp; done) | (go_simp; with_reducible rfl))
      try simp only [Act.put, List.getElem_toArray, List.getElem_cons_succ, List.getElem_cons_zero, List.setIfInBounds_toArray, List.set_cons_zero, List.set_cons_succ]
      refine wpAnyH_take (i := 29) (oi := _) (v := ?vA29) rfl (by kernel_rfl) (by kernel_rfl) (by kernel_rfl) (fun _ _ _ h => h) (Or.inl ⟨by rfl, ?hyA29⟩) (by assumption) ?restA29
      case hyA29 => (intro wq hSw; (try dsimp only at hSw); first | (go_simp; done) | (go_simp; with_reducible rfl))
      try simp only [Act.put, List.getElem_toArray, List.getElem_cons_succ, List.getElem_cons_zero, List.setIfInBounds_toArray, List.set_cons_zero, List.set_cons_succ]
      refine wpAnyH_take (i := 30) (oi := _) (v := ?vA30) rfl (by kernel_rfl) (by kernel_rfl) (by kernel_rfl) (fun _ _ _ h => h) (Or.inl ⟨by rfl, ?hyA30⟩) (by assumption) ?restA30
      case hyA30 => (intro wq hSw; (try dsimp only at hSw); first | (go_simp; done) | (go_simp; with_reducible rfl))
      try simp only [Act.put, List.getElem_toArray, List.getElem_cons_succ, List.getElem_cons_zero, List.setIfInBounds_toArray, List.set_cons_zero, List.set_cons_succ]
      refine wpAnyH_take (i := 31) (oi := _) (v := ?vA31) rfl (by kernel_rfl) (by kernel_rfl) (by kernel_rfl) (fun _ _ _ h => h) (Or.inl ⟨by rfl, ?hyA31⟩) (by assumption) ?restA31
      case hyA31 => (intro wq hSw; (try dsimp only at hSw); first | (go_simp; done) | (go_simp; with_reducible rfl))
      try simp only [Act.put, List.getElem_toArray, List.getElem_cons_succ, List.getElem_cons_zero, List.setIfInBounds_toArray, List.set_cons_zero, List.set_cons_succ]
      refine wpAnyH_take (i := 32) (oi := _) (v := ?vA32) rfl (by kernel_rfl) (by kernel_rfl) (by kernel_rfl) (fun _ _ _ h => h) (Or.inl ⟨by rfl, ?hyA32⟩) (by assumption) ?restA32
      case hyA32 => (intro wq hSw; (try dsimp only at hSw); first | (go_simp; done) | (go_simp; with_reducible rfl))
      try simp only [Act.put, List.getElem_toArray, List.getElem_cons_succ, List.getElem_cons_zero, List.setIfInBounds_toArray, List.set_cons_zero, List.set_cons_succ]
      refine wpAnyH_take (i := 33) (oi := _) (v := ?vA33) rfl (by kernel_rfl) (by kernel_rfl) (by kernel_rfl) (fun _ _ _ h => h) (Or.inl ⟨by rfl, ?hyA33⟩) (by assumption) ?restA33
      case hyA33 => (intro wq hSw; (try dsimp only at hSw); first | (go_simp; done) | (go_simp; with_reducible rfl))
      try simp only [Act.put, List.getElem_toArray, List.getElem_cons_succ, List.getElem_cons_zero, List.setIfInBounds_toArray, List.set_cons_zero, List.set_cons_succ]
      refine wpAnyH_take (i := 34) (oi := _) (v := ?vA34) rfl (by kernel_rfl) (by kernel_rfl) (by kernel_rfl) (fun _ _ _ h => h) (Or.inl ⟨by rfl, ?hyA34⟩) (by assumption) ?restA34
      case hyA34 => (intro wq hSw; (try dsimp only at hSw); first | (go_simp; done) | (go_simp; with_reducible rfl))
      try simp only [Act.put, List.getElem_toArray, List.getElem_cons_succ, List.getElem_cons_zero, List.setIfInBounds_toArray, List.set_cons_zero, List.set_cons_succ]
      refine wpAnyH_ready (rs := [35]) (by kernel_rfl) (by simp) ?_
      refine AllReadyH.cons (o := _) rfl (fun KK hKK => ?_) AllReadyH.nil
      go_simp
      refine hKK.out _ _ ka (fun hHeld2 => ?_)
      clear hKK KK hHeld
      have hHeld := hHeld2
      clear hHeld2
      try simp only [Act.put, List.getElem_toArray, List.getElem_cons_succ, List.getElem_cons_zero, List.setIfInBounds_toArray, List.set_cons_zero, List.set_cons_succ]
      refine wpAnyH_ready (rs := [36]) (by kernel_rfl) (by simp) ?_
      refine AllReadyH.cons (o := _) rfl (fun KK hKK => ?_) AllReadyH.nil
      rw [if_pos (by rfl)]
      refine upon_append (.tmp 33) (.tmp 68) 35 35 rfl _ _ _ _ rfl rfl hrun ?_
      refine hKK.out _ _ kb (fun hHeld2 => ?_)
      clear hKK KK hHeld
      have hHeld := hHeld2
      clear hHeld2
      try simp only [Act.put, List.getElem_toArray, List.getElem_cons_succ, List.getElem_cons_zero, List.setIfInBounds_toArray, List.set_cons_zero, List.set_cons_succ]
      refine wpAnyH_take (i := 37) (oi := _) (v := ?vA37) rfl (by kernel_rfl) (by kernel_rfl) (by kernel_rfl) (fun _ _ _ h => h) (Or.inl ⟨by rfl, ?hyA37⟩) (by assumption) ?restA37
      case hyA37 => (intro wq hSw; (try dsimp only at hSw); first | (go_simp; done) | (go_simp; with_reducible rfl))
      try simp only [Act.put, List.getElem_toArray, List.getElem_cons_succ, List.getElem_cons_zero, List.setIfInBounds_toArray, List.set_cons_zero, List.set_cons_succ]
      refine wpAnyH_done (by kernel_rfl) ?_ _
      try go_simp
      clear hHeld
      skip
      have ED : Hid (T.drop (4 * (k + 1)) = E) := Lib.hid (by
        have e := congrArg (List.drop 4) HE.out
        rw [List.drop_drop] at e
        rw [show 4 * (k + 1) = 4 * k + 4 by omega, e]
        rfl)
      have SD : Hid (SlB w1 (some ⟨b, off + 4, none⟩) (n - 4) (c - 4) E) := Lib.hid (by
        have h := SW.out
        rw [HE.out] at h
        exact SlB.drop (A := [(y0 : Int), (y1 : Int), (y2 : Int), (y3 : Int)]) (B := E) h rfl)
      have O2 : Hid (OwnW w2 w1.heap.size v2 ((lbs m T).take (k + 1))) := Lib.hid (by rw [ET.out]; exact hO2)
      have f2 := frozen_of_row w2 R 0 _ 65 RW2.out
      have k2 := KR.out w2 RW2.out
      have hR0 : R < w1.heap.size := hR1
      clear hO2 hB2 hrun kd ka kb q0 q1 q2 q3 p1 p2 p3 s1 s2 s3 hRw hR1
      by_cases hc4 : c = 4
      · have hc4i : (c : Int) = 4 := by omega
        go_wp2
        go_roundw
        case rel => exact ⟨k + 1, some ⟨b, off, none⟩, n - 4, 0, v2, by omega, rfl, by go_num, by rw [heap_setCell_same w2 R 0 _ 65 _ RW2.out]; rfl, by rw [ED.out]; exact ⟨SD.out.1, by omega, by omega, fun h => (by cases h), .inl (by omega)⟩, fun b' off' e h => by omega, ownw_set O2.out hR0, grown_trans G2.out (grown_set w2 R 0 _)⟩
        case measure => simp [intOf]; omega
      · have hc4i : ¬ ((c : Int) = 4) := by omega
        go_wp2
        go_roundw
        case rel => exact ⟨k + 1, some ⟨b, off + 4, none⟩, n - 4, c - 4, v2, by omega, rfl, by go_num, by rw [heap_setCell_same w2 R 0 _ 65 _ RW2.out]; rfl, by rw [ED.out]; exact SD.out, fun b' off' e h => by injection e with e; injection e with e1 e2; subst e1; exact HBR.out, ownw_set O2.out hR0, grown_trans G2.out (grown_set w2 R 0 _)⟩
        case measure => simp [intOf]; omega
    · obtain rfl : k = m := by omega
      have et : (lbs k T).take k = lbs k T := List.take_of_length_le (by rw [LL.out]; exact Nat.le_refl _)
      have oo := OO.out
      rw [et] at oo
      obtain ⟨a2, c2, e2⟩ := oo.slice
      rw [LL.out] at e2
      subst e2
      obtain ⟨sw, nc⟩ := oo.sl LL.out LR.out
      have S2 := Lib.hid sw
      have NC := Lib.hid nc
      have st2 : St 65 wr R (some (T.drop (4 * k))) := ⟨a, c, by rw [SW.out.1]; exact RW.out, by rw [SW.out.1]; exact SW.out.pastN NI1.out B1.out, fun b' off' e h => AL.out b' off' e (by rw [SW.out.1] at h; exact h)⟩
      have R2 := Lib.hid st2
      have G2 := Lib.hid (grown_trans GG.out B1.out)
      have FL := Lib.hid (rfail_g R _ wr R2.out)
      have hc2 : k ≤ c2 := sw.2.1
      have hc3 := sw.2.2.1
      clear oo et sw nc OO SW HN hnc hc63 st2
      by_cases h0 : k = 0
      · subst h0
        have er : r = (lbs 0 T, 0, some (T.drop (4 * 0))) := by rw [← HRR.out, if_neg (by omega)]
        subst er
        go_wp2
        refine bodyPost_ret (results_tmp2 rfl _ _ _) rfl ?_
        exact ⟨a2, 0, c2, rfl, S2.out, NC.out, R2.out, G2.out⟩
      · obtain ⟨j, rfl⟩ : ∃ j, k = j + 1 := ⟨k - 1, by omega⟩
        obtain ⟨b2, o2, ea, hlt2, hcs⟩ := S2.out.at (by omega)
        subst ea
        have kj := hcs j (by omega)
        obtain ⟨x, hx⟩ : ∃ x, (lbs (j + 1) T).getD j 0 = x := ⟨_, rfl⟩
        rw [hx] at kj
        have HX := Lib.hid hx
        have j0 : (0 : Int) ≤ (j : Int) := by omega
        have j1 : (j : Int) < (j : Int) + 1 := by omega
        have j2 : (0 : Int) < (j : Int) + 1 := by omega
        have j3 : (j : Int) ≤ 100000 := by omega
        clear hcs hx hlt2
        by_cases hx0 : x = 0
        · subst hx0
          have er : r = ([], 5, none) := by rw [← HRR.out, if_pos ⟨by omega, HX.out⟩]
          subst er
          go_wp2_with fail
          refine FL.out.mono ?_
          rintro e w2 ⟨rfl, hr2, hg2⟩
          have R3 := Lib.hid hr2
          have G3 := Lib.hid (grown_trans G2.out hg2)
          clear hr2 hg2 FL
          go_wp2
          refine bodyPost_ret (results_tmp2 rfl _ _ _) rfl ?_
          exact ⟨none, 0, 0, rfl, SlW.nil _, fun _ => rfl, R3.out, G3.out⟩
        · have er : r = (lbs (j + 1) T, 0, some (T.drop (4 * (j + 1)))) := by rw [← HRR.out, if_neg (fun h => hx0 (by rw [← HX.out]; exact h.2))]
          have ER := Lib.hid er
          clear er HX HRR LL LR GG
          have hx0i : (x == 0) = false := by simpa using hx0
          clear hx0
          go_upto_region 14 with (fail)
          go_wp2
          refine bodyPost_ret (results_tmp2 rfl _ _ _) rfl ?_
          have er := ER.out
          subst er
          exact ⟨_, j + 1, c2, rfl, S2.out, NC.out, R2.out, G2.out⟩
theorem rnat_g (R : Nat) (s : Option (List Int)) (w : World) (h : St 65 w R s) (hby : ∀ L, s = some L → Bytes L) (hlen : ∀ L, s = some L → L.length ≤ 100000) :
    Calls Tryd.prog 30 #[.pointer (some ⟨R, 0, none⟩)] w (NPost 65 w R (nR s)) := by
  cases s with
  | none => exact rnat_bad R none w h hby hlen rfl
  | some L =>
    cases hd : dec L with
    | none =>
      rw [nR_none hd]
      exact rnat_bad R (some L) w h hby hlen (uR_none hd)
    | some p =>
      obtain ⟨m, T⟩ := p
      rw [nR_some hd]
      have hb := hby L rfl
      have hl := hlen L rfl
      obtain ⟨e1, e2⟩ := dec_grp hb hd
      clear hby hlen hd
      subst e1
      by_cases h1 : T.length / 4 < m
      · rw [if_pos h1]
        exact rnat_short R m T w h hb e2 hl h1
      · rw [if_neg h1]
        exact rnat_some R m T w h hb hl h1

end Go.Proofs.YtcdkehghdhcokaaDoor.wr
