/- Nat of the program. -/
import Derived.Test.YtcdkehghdhcokaaDoorXB
import Derived.Laws.BitsAllLaws
import Derived.Deep.RegionHeld3
import Derived.Deep.Cut
namespace Go.Proofs.YtcdkehghdhcokaaDoor.wr
open Go.RowKit
set_option linter.unusedVariables false

set_option linter.unusedSimpArgs false
/-- how long a slice is -/
def slen : Value → Nat
  | .slice _ n _ => n
  | _ => 0
theorem lbs_take : ∀ (k m : Nat) (B : List Int) (y0 y1 y2 y3 : Int) (D : List Int), k < m → 4 * m ≤ B.length → B.drop (4 * k) = y0 :: y1 :: y2 :: y3 :: D →
    (lbs m B).take (k + 1) = (lbs m B).take k ++ [y0 + y1 * 256 + y2 * 65536 + y3 * 16777216]
  | 0, m + 1, B, y0, y1, y2, y3, D, _, _, h => by
    have e : B = y0 :: y1 :: y2 :: y3 :: D := by simpa using h
    rw [e]
    unfold lbs
    simp
  | k + 1, m + 1, b0 :: b1 :: b2 :: b3 :: B, y0, y1, y2, y3, D, hk, hl, h => by
    have e := lbs_take k m B y0 y1 y2 y3 D (by omega) (by simp at hl; omega) (by rw [show 4 * (k + 1) = 4 * k + 1 + 1 + 1 + 1 by omega] at h; simpa using h)
    unfold lbs
    rw [List.take_succ_cons, List.take_succ_cons, e]
    rfl
  | _ + 1, m + 1, [], _, _, _, _, _, _, hl, _ => by simp at hl
  | _ + 1, m + 1, [_], _, _, _, _, _, _, hl, _ => by simp at hl; omega
  | _ + 1, m + 1, [_, _], _, _, _, _, _, _, hl, _ => by simp at hl; omega
  | _ + 1, m + 1, [_, _, _], _, _, _, _, _, _, hl, _ => by simp at hl; omega
theorem four_of {D : List Int} (h : 4 ≤ D.length) (hb : Bytes D) : ∃ (y0 y1 y2 y3 : Nat) (E : List Int), D = (y0 : Int) :: (y1 : Int) :: (y2 : Int) :: (y3 : Int) :: E ∧ y0 < 256 ∧ y1 < 256 ∧ y2 < 256 ∧ y3 < 256 := by
  match D, h with
  | a :: b :: c :: d :: E, _ =>
    have ha := hb a (by simp)
    have hb' := hb b (by simp)
    have hc := hb c (by simp)
    have hd := hb d (by simp)
    refine ⟨a.toNat, b.toNat, c.toNat, d.toNat, E, ?_, by omega, by omega, by omega, by omega⟩
    rw [Int.toNat_of_nonneg ha.1, Int.toNat_of_nonneg hb'.1, Int.toNat_of_nonneg hc.1, Int.toNat_of_nonneg hd.1]
/-- what Nat reads -/
def nR : Option (List Int) → List Int × Int × Option (List Int)
  | none => ([], 5, none)
  | some L => match nat8 L with | none => ([], 5, none) | some (l, T) => (l, 0, some T)
/-- what Nat does -/
def NPost (t : Nat) (w : World) (R : Nat) (r : List Int × Int × Option (List Int)) (e : Ending) (w' : World) : Prop :=
  ∃ a n c, e = .returned (.tuple #[.slice a n c, .int .i64 r.2.1]) ∧ SlW w' a n c r.1 ∧ (a = none → c = 0) ∧ St t w' R r.2.2 ∧ w.grownBy w' (some R)
theorem SlW.nil (w : World) : SlW w none 0 0 [] := ⟨rfl, Nat.le_refl _, by omega, fun _ h => (by cases h), .inl rfl⟩
theorem nat_bad (R : Nat) (w : World) (h : ∀ W : World, W = w → Calls Tryd.prog 41 #[.pointer (some ⟨R, 0, none⟩), .int .i64 4] w (NoTake w R)) : Calls Tryd.prog 22 #[.pointer (some ⟨R, 0, none⟩)] w (NPost 63 w R ([], 5, none)) := by
  have HT := Lib.hid (h w rfl)
  clear h
  go_enter Tryd.func22, Tryd.ntmps22
  go_wp2_with fail
  refine HT.out.mono ?_
  rintro e w1 ⟨rfl, hr, hg⟩
  have RR := Lib.hid hr
  have GG := Lib.hid hg
  clear hr hg HT
  go_wp2
  refine bodyPost_ret (results_tmp2 rfl _ _ _) rfl ?_
  exact ⟨none, 0, 0, rfl, SlW.nil _, fun _ => rfl, RR.out, GG.out⟩
set_option maxHeartbeats 8000000 in
set_option maxRecDepth 100000 in
theorem nat_some (R m : Nat) (B T : List Int) (w : World) (h : St 63 w R (some (grp m ++ (B ++ T)))) (hby : Bytes (grp m ++ (B ++ T))) (hB : B.length = m * 4) (hT : (B ++ T).length ≤ 100000) :
    Calls Tryd.prog 22 #[.pointer (some ⟨R, 0, none⟩)] w (NPost 63 w R (if 0 < m ∧ (lbs m B).getD (m - 1) 0 = 0 then ([], 5, none) else (lbs m B, 0, some T))) := by
  have HT := Lib.hid (take_ok4 R m B T w h hby hB hT)
  have BB := Lib.hid (show Bytes B from hby.right.left)
  have hl0 : (B ++ T).length = B.length + T.length := List.length_append
  have hm5 : m ≤ 25000 := by omega
  have HBL : Hid (B.length = 4 * m) := Lib.hid (by omega)
  have LL := Lib.hid (lbs_len m B (by omega))
  have LR := Lib.hid (lbs_range m B BB.out)
  obtain ⟨r, hr0⟩ : ∃ r, (if 0 < m ∧ (lbs m B).getD (m - 1) 0 = 0 then (([], 5, none) : List Int × Int × Option (List Int)) else (lbs m B, 0, some T)) = r := ⟨_, rfl⟩
  rw [hr0]
  have HRR := Lib.hid hr0
  clear h hby hB hT hl0 hr0
  go_enter Tryd.func22, Tryd.ntmps22
  go_wp2_with fail
  refine HT.out.mono ?_
  rintro e w1 ⟨a0, c0, rfl, hs, hr, hg⟩
  have SS := Lib.hid hs
  have RR := Lib.hid hr
  have GG := Lib.hid hg
  clear hs hr hg HT
  go_wp2
  go_loopw [4, 6] (fun s4 s6 wr => ∃ (k : Nat) (a : Option Addr) (n c : Nat) (v : Value), k ≤ m ∧ s4 = .slice a n c ∧ v = s6 ∧ SlB w1 a n c (B.drop (4 * k)) ∧ OwnW wr w1.heap.size v ((lbs m B).take k) ∧ Below w1.heap.size w1 wr) (fun s _ _ => slen s)
  case atStart => exact ⟨0, a0, B.length, c0, _, by omega, rfl, rfl, by simpa using SS.out, by simpa using OwnW.nil _ _, Below.refl _ _⟩
  case round =>
    obtain ⟨k, a, n, c, v, hk, rfl, rfl, hs, ho, hb⟩ := hrel
    have SW := Lib.hid hs
    have OO := Lib.hid ho
    have B1 := Lib.hid hb
    have sz := Lib.hid hb.size
    have hn : n = 4 * m - 4 * k := by rw [← hs.1, List.length_drop, HBL.out]
    have hnc : n ≤ c := hs.2.1
    have hc63 := hs.2.2.1
    have HN := Lib.hid hn
    clear hs ho hb SS hn
    by_cases hlt : k < m
    · have h4n : 4 ≤ n := by have := HN.out; omega
      obtain ⟨b, off, ea, hbl, hcs⟩ := SW.out.at (by omega)
      subst ea
      have i0 : (0 : Int) < (n : Int) := by omega
      have i1 : (1 : Int) < (n : Int) := by omega
      have i2 : (2 : Int) < (n : Int) := by omega
      have i3 : (3 : Int) < (n : Int) := by omega
      have i4 : (4 : Int) ≤ (n : Int) := by omega
      have i5 : (4 : Int) ≤ (c : Int) := by omega
      obtain ⟨y0, y1, y2, y3, E, hE, h0, h1, h2, h3⟩ := four_of (D := B.drop (4 * k)) (by rw [List.length_drop, HBL.out]; omega) (BB.out.drop _)
      have g0 := hcs 0 (by omega)
      have g1 := hcs 1 (by omega)
      have g2 := hcs 2 (by omega)
      have g3 := hcs 3 (by omega)
      rw [hE] at g0 g1 g2 g3
      have KC : Hid (∀ W, Below w1.heap.size w1 W → W.cell? ⟨b, off, none⟩ = some (.int .u8 (y0 : Int)) ∧ W.cell? ⟨b, off + 1, none⟩ = some (.int .u8 (y1 : Int)) ∧ W.cell? ⟨b, off + 2, none⟩ = some (.int .u8 (y2 : Int)) ∧ W.cell? ⟨b, off + 3, none⟩ = some (.int .u8 (y3 : Int))) := Lib.hid (fun W hW => ⟨(hW.cell (p := ⟨b, off, none⟩) hbl).trans g0, (hW.cell (p := ⟨b, off + 1, none⟩) hbl).trans g1, (hW.cell (p := ⟨b, off + 2, none⟩) hbl).trans g2, (hW.cell (p := ⟨b, off + 3, none⟩) hbl).trans g3⟩)
      clear g0 g1 g2 g3 hcs hbl
      have kd := KC.out _ (below_drewN B1.out 1)
      replace kd : (wr.drew.cell? ⟨b, off, none⟩ = some (.int .u8 (y0 : Int)) ∧ wr.drew.cell? ⟨b, off + 1, none⟩ = some (.int .u8 (y1 : Int)) ∧ wr.drew.cell? ⟨b, off + 2, none⟩ = some (.int .u8 (y2 : Int)) ∧ wr.drew.cell? ⟨b, off + 3, none⟩ = some (.int .u8 (y3 : Int))) := kd
      have ET := Lib.hid (lbs_take k m B y0 y1 y2 y3 E hlt (by rw [HBL.out]; omega) hE)
      have HE := Lib.hid hE
      have q0 : IntKind.u32.wrap (y0 : Int) = y0 := wrap32 (by omega) (by omega)
      have q1 : IntKind.u32.wrap (y1 : Int) = y1 := wrap32 (by omega) (by omega)
      have q2 : IntKind.u32.wrap (y2 : Int) = y2 := wrap32 (by omega) (by omega)
      have q3 : IntKind.u32.wrap (y3 : Int) = y3 := wrap32 (by omega) (by omega)
      have p1 : IntKind.u32.wrap ((y1 : Int) * 256) = (y1 : Int) * 256 := wrap32 (by omega) (by omega)
      have p2 : IntKind.u32.wrap ((y2 : Int) * 65536) = (y2 : Int) * 65536 := wrap32 (by omega) (by omega)
      have p3 : IntKind.u32.wrap ((y3 : Int) * 16777216) = (y3 : Int) * 16777216 := wrap32 (by omega) (by omega)
      have o1 : bits .or .u32 (y0 : Int) ((y1 : Int) * 256) = (y0 : Int) + (y1 : Int) * 256 := by
        have := u32_or y0 y1 8 (by decide) (by omega) (by omega)
        rw [show (2 : Nat) ^ 8 = 256 by decide, Int.natCast_add, Int.natCast_mul] at this
        exact this
      have o2 : bits .or .u32 ((y0 : Int) + (y1 : Int) * 256) ((y2 : Int) * 65536) = (y0 : Int) + (y1 : Int) * 256 + (y2 : Int) * 65536 := by
        have := u32_or (y0 + y1 * 256) y2 16 (by decide) (by omega) (by omega)
        rw [show (2 : Nat) ^ 16 = 65536 by decide, Int.natCast_add, Int.natCast_mul, Int.natCast_add, Int.natCast_mul] at this
        exact this
      have o3 : bits .or .u32 ((y0 : Int) + (y1 : Int) * 256 + (y2 : Int) * 65536) ((y3 : Int) * 16777216) = (y0 : Int) + (y1 : Int) * 256 + (y2 : Int) * 65536 + (y3 : Int) * 16777216 := by
        have := u32_or (y0 + y1 * 256 + y2 * 65536) y3 24 (by decide) (by omega) (by omega)
        rw [show (2 : Nat) ^ 24 = 16777216 by decide, Int.natCast_add, Int.natCast_mul, Int.natCast_add, Int.natCast_mul, Int.natCast_add, Int.natCast_mul] at this
        exact this
      obtain ⟨wa, hwa⟩ : ∃ wa, wr.drew.alloc (.cells #[.int .u32 ((y0 : Int) + (y1 : Int) * 256 + (y2 : Int) * 65536 + (y3 : Int) * 16777216)] 60) = wa := ⟨_, rfl⟩
      have BA : Hid (Below wr.heap.size wr wa) := Lib.hid (by rw [← hwa]; exact (below_drewN (Below.refl _ wr) 1).alloc (Nat.le_refl _) _)
      have OA := Lib.hid (OO.out.below BA.out)
      have SA : Hid (Src Tryd.prog 1 35 (.slice (some ⟨wr.heap.size, 0, none⟩) 1 1) 1 (vals .u32 [(y0 : Int) + (y1 : Int) * 256 + (y2 : Int) * 65536 + (y3 : Int) * 16777216]) wa) := Lib.hid (by rw [← hwa]; exact one_srcw wr.drew _)
      obtain ⟨v2, w2, hrun, hO2, hB2⟩ := app_ws wa w1.heap.size v _ _ 1 _ OA.out SA.out rfl (by rw [List.length_take]; omega) (by have := BA.out.size; have := sz.out; omega)
      have B2 : Hid (Below w1.heap.size w1 w2) := Lib.hid ((B1.out.trans (BA.out.mono sz.out)).trans hB2)
      have ka := KC.out _ (B1.out.trans (BA.out.mono sz.out))
      have kb := KC.out _ B2.out
      go_upto_region 7 with (fail)
      refine wp_region_held_drew (S := (fun w' => w'.cell? ⟨b, off, none⟩ = some (.int .u8 (y0 : Int)) ∧ w'.cell? ⟨b, off + 1, none⟩ = some (.int .u8 (y1 : Int)) ∧ w'.cell? ⟨b, off + 2, none⟩ = some (.int .u8 (y2 : Int)) ∧ w'.cell? ⟨b, off + 3, none⟩ = some (.int .u8 (y3 : Int)))) (by kernel_rfl) kd (fun hHeld => ?_)
      refine wpAnyH_take (i := 0) (oi := _) (v := ?vA0) rfl (by kernel_rfl) (by kernel_rfl) (by kernel_rfl) (fun _ _ _ h => h) (Or.inl ⟨by rfl, ?hyA0⟩) (by assumption) ?restA0
      case hyA0 => (intro wq hSw; (try dsimp only at hSw); first | (go_simp; done) | (go_simp; with_reducible rfl))
      try simp only [Act.put, List.getElem_toArray, List.getElem_cons_succ, List.getElem_cons_zero, List.setIfInBounds_toArray, List.set_cons_zero, List.set_cons_succ]
      refine wpAnyH_take (i := 1) (oi := _) (v := ?vA1) rfl (by kernel_rfl) (by kernel_rfl) (by kernel_rfl) (fun _ _ _ h => h) (Or.inl ⟨by rfl, ?hyA1⟩) (by assumption) ?restA1
      case hyA1 => (intro wq hSw; (try dsimp only at hSw); first | (go_simp; done) | (go_simp; with_reducible rfl))
      try simp only [Act.put, List.getElem_toArray, List.getElem_cons_succ, List.getElem_cons_zero, List.setIfInBounds_toArray, List.set_cons_zero, List.set_cons_succ]
      refine wpAnyH_take (i := 2) (oi := _) (v := ?vA2) rfl (by kernel_rfl) (by kernel_rfl) (by kernel_rfl) (fun _ _ _ h => h) (Or.inl ⟨by rfl, ?hyA2⟩) (by assumption) ?restA2
      case hyA2 => (intro wq hSw; (try dsimp only at hSw); first | (go_simp; done) | (go_simp; with_reducible rfl))
      try simp only [Act.put, List.getElem_toArray, List.getElem_cons_succ, List.getElem_cons_zero, List.setIfInBounds_toArray, List.set_cons_zero, List.set_cons_succ]
      refine wpAnyH_take (i := 3) (oi := _) (v := ?vA3) rfl (by kernel_rfl) (by kernel_rfl) (by kernel_rfl) (fun _ _ _ h => h) (Or.inl ⟨by rfl, ?hyA3⟩) (by assumption) ?restA3
      case hyA3 => (intro wq hSw; (try dsimp only at hSw); first | (go_simp; done) | (go_simp; with_reducible rfl))
      try simp only [Act.put, List.getElem_toArray, List.getElem_cons_succ, List.getElem_cons_zero, List.setIfInBounds_toArray, List.set_cons_zero, List.set_cons_succ]
      refine wpAnyH_take (i := 4) (oi := _) (v := ?vA4) rfl (by kernel_rfl) (by kernel_rfl) (by kernel_rfl) (fun _ _ _ h => h) (Or.inl ⟨by rfl, ?hyA4⟩) (by assumption) ?restA4
      case hyA4 => (intro wq hSw; (try dsimp only at hSw); first | (go_simp; done) | (go_simp; with_reducible rfl))
      try simp only [Act.put, List.getElem_toArray, List.getElem_cons_succ, List.getElem_cons_zero, List.setIfInBounds_toArray, List.set_cons_zero, List.set_cons_succ]
      refine wpAnyH_take (i := 5) (oi := _) (v := ?vA5) rfl (by kernel_rfl) (by kernel_rfl) (by kernel_rfl) (fun _ _ _ h => h) (Or.inl ⟨by rfl, ?hyA5⟩) (by assumption) ?restA5
      case hyA5 => (intro wq hSw; (try dsimp only at hSw); first | (go_simp; done) | (go_simp; with_reducible rfl))
      try simp only [Act.put, List.getElem_toArray, List.getElem_cons_succ, List.getElem_cons_zero, List.setIfInBounds_toArray, List.set_cons_zero, List.set_cons_succ]
      refine wpAnyH_take (i := 6) (oi := _) (v := ?vA6) rfl (by kernel_rfl) (by kernel_rfl) (by kernel_rfl) (fun _ _ _ h => h) (Or.inl ⟨by rfl, ?hyA6⟩) (by assumption) ?restA6
      case hyA6 => (intro wq hSw; (try dsimp only at hSw); first | (go_simp; done) | (go_simp; with_reducible rfl))
      try simp only [Act.put, List.getElem_toArray, List.getElem_cons_succ, List.getElem_cons_zero, List.setIfInBounds_toArray, List.set_cons_zero, List.set_cons_succ]
      refine wpAnyH_take (i := 7) (oi := _) (v := ?vA7) rfl (by kernel_rfl) (by kernel_rfl) (by kernel_rfl) (fun _ _ _ h => h) (Or.inl ⟨by rfl, ?hyA7⟩) (by assumption) ?restA7
      case hyA7 => (intro wq hSw; (try dsimp only at hSw); first | (go_simp; done) | (go_simp; with_reducible rfl))
      try simp only [Act.put, List.getElem_toArray, List.getElem_cons_succ, List.getElem_cons_zero, List.setIfInBounds_toArray, List.set_cons_zero, List.set_cons_succ]
      refine wpAnyH_take (i := 8) (oi := _) (v := ?vA8) rfl (by kernel_rfl) (by kernel_rfl) (by kernel_rfl) (fun _ _ _ h => h) (Or.inl ⟨by rfl, ?hyA8⟩) (by assumption) ?restA8
      case hyA8 => (intro wq hSw; (try dsimp only at hSw); first | (go_simp; done) | (go_simp; with_reducible rfl))
      try simp only [Act.put, List.getElem_toArray, List.getElem_cons_succ, List.getElem_cons_zero, List.setIfInBounds_toArray, List.set_cons_zero, List.set_cons_succ]
      refine wpAnyH_take (i := 9) (oi := _) (v := ?vA9) rfl (by kernel_rfl) (by kernel_rfl) (by kernel_rfl) (fun _ _ _ h => h) (Or.inl ⟨by rfl, ?hyA9⟩) (by assumption) ?restA9
      case hyA9 => (intro wq hSw; (try dsimp only at hSw); first | (go_simp; done) | (go_simp; with_reducible rfl))
      try simp only [Act.put, List.getElem_toArray, List.getElem_cons_succ, List.getElem_cons_zero, List.setIfInBounds_toArray, List.set_cons_zero, List.set_cons_succ]
      refine wpAnyH_take (i := 10) (oi := _) (v := ?vA10) rfl (by kernel_rfl) (by kernel_rfl) (by kernel_rfl) (fun _ _ _ h => h) (Or.inl ⟨by rfl, ?hyA10⟩) (by assumption) ?restA10
      case hyA10 => (intro wq hSw; (try dsimp only at hSw); first | (go_simp; done) | (go_simp; with_reducible rfl))
      try simp only [Act.put, List.getElem_toArray, List.getElem_cons_succ, List.getElem_cons_zero, List.setIfInBounds_toArray, List.set_cons_zero, List.set_cons_succ]
      refine wpAnyH_take (i := 11) (oi := _) (v := ?vA11) rfl (by kernel_rfl) (by kernel_rfl) (by kernel_rfl) (fun _ _ _ h => h) (Or.inl ⟨by rfl, ?hyA11⟩) (by assumption) ?restA11
      case hyA11 => (intro wq hSw; (try dsimp only at hSw); first | (go_simp; done) | (go_simp; with_reducible rfl))
      try simp only [Act.put, List.getElem_toArray, List.getElem_cons_succ, List.getElem_cons_zero, List.setIfInBounds_toArray, List.set_cons_zero, List.set_cons_succ]
      refine wpAnyH_take (i := 12) (oi := _) (v := ?vA12) rfl (by kernel_rfl) (by kernel_rfl) (by kernel_rfl) (fun _ _ _ h => h) (Or.inl ⟨by rfl, ?hyA12⟩) (by assumption) ?restA12
      case hyA12 => (intro wq hSw; (try dsimp only at hSw); first | (go_simp; done) | (go_simp; with_reducible rfl))
      try simp only [Act.put, List.getElem_toArray, List.getElem_cons_succ, List.getElem_cons_zero, List.setIfInBounds_toArray, List.set_cons_zero, List.set_cons_succ]
      refine wpAnyH_take (i := 13) (oi := _) (v := ?vA13) rfl (by kernel_rfl) (by kernel_rfl) (by kernel_rfl) (fun _ _ _ h => h) (Or.inl ⟨by rfl, ?hyA13⟩) (by assumption) ?restA13
      case hyA13 => (intro wq hSw; (try dsimp only at hSw); first | (go_simp; done) | (go_simp; with_reducible rfl))
      try simp only [Act.put, List.getElem_toArray, List.getElem_cons_succ, List.getElem_cons_zero, List.setIfInBounds_toArray, List.set_cons_zero, List.set_cons_succ]
      refine wpAnyH_take (i := 14) (oi := _) (v := ?vA14) rfl (by kernel_rfl) (by kernel_rfl) (by kernel_rfl) (fun _ _ _ h => h) (Or.inl ⟨by rfl, ?hyA14⟩) (by assumption) ?restA14
      case hyA14 => (intro wq hSw; (try dsimp only at hSw); first | (go_simp; done) | (go_simp; with_reducible rfl))
      try simp only [Act.put, List.getElem_toArray, List.getElem_cons_succ, List.getElem_cons_zero, List.setIfInBounds_toArray, List.set_cons_zero, List.set_cons_succ]
      refine wpAnyH_take (i := 15) (oi := _) (v := ?vA15) rfl (by kernel_rfl) (by kernel_rfl) (by kernel_rfl) (fun _ _ _ h => h) (Or.inl ⟨by rfl, ?hyA15⟩) (by assumption) ?restA15
      case hyA15 => (intro wq hSw; (try dsimp only at hSw); first | (go_simp; done) | (go_simp; with_reducible rfl))
      try simp only [Act.put, List.getElem_toArray, List.getElem_cons_succ, List.getElem_cons_zero, List.setIfInBounds_toArray, List.set_cons_zero, List.set_cons_succ]
      refine wpAnyH_take (i := 16) (oi := _) (v := ?vA16) rfl (by kernel_rfl) (by kernel_rfl) (by kernel_rfl) (fun _ _ _ h => h) (Or.inl ⟨by rfl, ?hyA16⟩) (by assumption) ?restA16
      case hyA16 => (intro wq hSw; (try dsimp only at hSw); first | (go_simp; done) | (go_simp; with_reducible rfl))
      try simp only [Act.put, List.getElem_toArray, List.getElem_cons_succ, List.getElem_cons_zero, List.setIfInBounds_toArray, List.set_cons_zero, List.set_cons_succ]
      refine wpAnyH_take (i := 17) (oi := _) (v := ?vA17) rfl (by kernel_rfl) (by kernel_rfl) (by kernel_rfl) (fun _ _ _ h => h) (Or.inl ⟨by rfl, ?hyA17⟩) (by assumption) ?restA17
      case hyA17 => (intro wq hSw; (try dsimp only at hSw); first | (go_simp; done) | (go_simp; with_reducible rfl))
      try simp only [Act.put, List.getElem_toArray, List.getElem_cons_succ, List.getElem_cons_zero, List.setIfInBounds_toArray, List.set_cons_zero, List.set_cons_succ]
      refine wpAnyH_take (i := 18) (oi := _) (v := ?vA18) rfl (by kernel_rfl) (by kernel_rfl) (by kernel_rfl) (fun _ _ _ h => h) (Or.inl ⟨by rfl, ?hyA18⟩) (by assumption) ?restA18
      case hyA18 => (intro wq hSw; (try dsimp only at hSw); first | (go_simp; done) | (go_simp; with_reducible rfl))
      try simp only [Act.put, List.getElem_toArray, List.getElem_cons_succ, List.getElem_cons_zero, List.setIfInBounds_toArray, List.set_cons_zero, List.set_cons_succ]
      refine wpAnyH_take (i := 19) (oi := _) (v := ?vA19) rfl (by kernel_rfl) (by kernel_rfl) (by kernel_rfl) (fun _ _ _ h => h) (Or.inl ⟨by rfl, ?hyA19⟩) (by assumption) ?restA19
      case hyA19 => (intro wq hSw; (try dsimp only at hSw); first | (go_simp; done) | (go_simp; with_reducible rfl))
      try simp only [Act.put, List.getElem_toArray, List.getElem_cons_succ, List.getElem_cons_zero, List.setIfInBounds_toArray, List.set_cons_zero, List.set_cons_succ]
      refine wpAnyH_take (i := 20) (oi := _) (v := ?vA20) rfl (by kernel_rfl) (by kernel_rfl) (by kernel_rfl) (fun _ _ _ h => h) (Or.inl ⟨by rfl, ?hyA20⟩) (by assumption) ?restA20
      case hyA20 => (intro wq hSw; (try dsimp only at hSw); first | (go_simp; done) | (go_simp; with_reducible rfl))
      try simp only [Act.put, List.getElem_toArray, List.getElem_cons_succ, List.getElem_cons_zero, List.setIfInBounds_toArray, List.set_cons_zero, List.set_cons_succ]
      refine wpAnyH_take (i := 21) (oi := _) (v := ?vA21) rfl (by kernel_rfl) (by kernel_rfl) (by kernel_rfl) (fun _ _ _ h => h) (Or.inl ⟨by rfl, ?hyA21⟩) (by assumption) ?restA21
      case hyA21 => (intro wq hSw; (try dsimp only at hSw); first | (go_simp; done) | (go_simp; with_reducible rfl))
      try simp only [Act.put, List.getElem_toArray, List.getElem_cons_succ, List.getElem_cons_zero, List.setIfInBounds_toArray, List.set_cons_zero, List.set_cons_succ]
      refine wpAnyH_take (i := 22) (oi := _) (v := ?vA22) rfl (by kernel_rfl) (by kernel_rfl) (by kernel_rfl) (fun _ _ _ h => h) (Or.inl ⟨by rfl, ?hyA22⟩) (by assumption) ?restA22
      case hyA22 => (intro wq hSw; (try dsimp only at hSw); first | (go_simp; done) | (go_simp; with_reducible rfl))
      try simp only [Act.put, List.getElem_toArray, List.getElem_cons_succ, List.getElem_cons_zero, List.setIfInBounds_toArray, List.set_cons_zero, List.set_cons_succ]
      refine wpAnyH_ready (rs := [23]) (by kernel_rfl) (by simp) ?_
      refine AllReadyH.cons (o := _) rfl (fun KK hKK => ?_) AllReadyH.nil
      go_simp
      refine hKK.out _ _ ka (fun hHeld2 => ?_)
      clear hKK KK hHeld
      have hHeld := hHeld2
      clear hHeld2
      try simp only [Act.put, List.getElem_toArray, List.getElem_cons_succ, List.getElem_cons_zero, List.setIfInBounds_toArray, List.set_cons_zero, List.set_cons_succ]
      refine wpAnyH_ready (rs := [24]) (by kernel_rfl) (by simp) ?_
      refine AllReadyH.cons (o := _) rfl (fun KK hKK => ?_) AllReadyH.nil
      rw [if_pos (by rfl)]
      refine upon_append (.tmp 20) (.tmp 43) 35 35 rfl _ _ _ _ rfl rfl hrun ?_
      refine hKK.out _ _ kb (fun hHeld2 => ?_)
      clear hKK KK hHeld
      have hHeld := hHeld2
      clear hHeld2
      try simp only [Act.put, List.getElem_toArray, List.getElem_cons_succ, List.getElem_cons_zero, List.setIfInBounds_toArray, List.set_cons_zero, List.set_cons_succ]
      refine wpAnyH_take (i := 25) (oi := _) (v := ?vA25) rfl (by kernel_rfl) (by kernel_rfl) (by kernel_rfl) (fun _ _ _ h => h) (Or.inl ⟨by rfl, ?hyA25⟩) (by assumption) ?restA25
      case hyA25 => (intro wq hSw; (try dsimp only at hSw); first | (go_simp; done) | (go_simp; with_reducible rfl))
      try simp only [Act.put, List.getElem_toArray, List.getElem_cons_succ, List.getElem_cons_zero, List.setIfInBounds_toArray, List.set_cons_zero, List.set_cons_succ]
      refine wpAnyH_done (by kernel_rfl) ?_ _
      try go_simp
      clear hHeld
      skip
      have ED : Hid (B.drop (4 * (k + 1)) = E) := Lib.hid (by
        have e := congrArg (List.drop 4) HE.out
        rw [List.drop_drop] at e
        rw [show 4 * (k + 1) = 4 * k + 4 by omega, e]
        rfl)
      have SD : Hid (SlB w1 (some ⟨b, off + 4, none⟩) (n - 4) (c - 4) E) := Lib.hid (by
        have h := SW.out
        rw [HE.out] at h
        exact SlB.drop (A := [(y0 : Int), (y1 : Int), (y2 : Int), (y3 : Int)]) (B := E) h rfl)
      have O2 : Hid (OwnW w2 w1.heap.size v2 ((lbs m B).take (k + 1))) := Lib.hid (by rw [ET.out]; exact hO2)
      clear hO2 hB2 hrun kd ka kb q0 q1 q2 q3 p1 p2 p3 o1 o2 o3
      by_cases hc4 : c = 4
      · have hc4i : (c : Int) = 4 := by omega
        go_wp2
        go_roundw
        case rel => exact ⟨k + 1, _, _, _, v2, by omega, rfl, rfl, by rw [ED.out]; exact ⟨SD.out.1, by omega, by omega, fun h => (by cases h), .inl (by omega)⟩, O2.out, B2.out⟩
        case measure => simp only [slen]; omega
      · have hc4i : ¬ ((c : Int) = 4) := by omega
        go_wp2
        go_roundw
        case rel => exact ⟨k + 1, _, _, _, v2, by omega, rfl, rfl, by rw [ED.out]; exact SD.out, O2.out, B2.out⟩
        case measure => simp only [slen]; omega
    · obtain rfl : k = m := by omega
      have hn0 : n = 0 := by have := HN.out; omega
      subst hn0
      have et : (lbs k B).take k = lbs k B := List.take_of_length_le (by rw [LL.out]; exact Nat.le_refl _)
      have oo := OO.out
      rw [et] at oo
      obtain ⟨a2, c2, e2⟩ := oo.slice
      rw [LL.out] at e2
      subst e2
      obtain ⟨sw, nc⟩ := oo.sl LL.out LR.out
      have S2 := Lib.hid sw
      have NC := Lib.hid nc
      have R2 := Lib.hid (RR.out.below B1.out)
      have G2 := Lib.hid (grown_below GG.out B1.out)
      have FL := Lib.hid (fail_g R T wr R2.out)
      have hc2 : k ≤ c2 := sw.2.1
      have hc3 := sw.2.2.1
      clear oo et sw nc OO SW HN hnc hc63
      by_cases h0 : k = 0
      · subst h0
        have er : r = (lbs 0 B, 0, some T) := by rw [← HRR.out, if_neg (by omega)]
        subst er
        go_wp2
        refine bodyPost_ret (results_tmp2 rfl _ _ _) rfl ?_
        exact ⟨a2, 0, c2, rfl, S2.out, NC.out, R2.out, G2.out⟩
      · obtain ⟨j, rfl⟩ : ∃ j, k = j + 1 := ⟨k - 1, by omega⟩
        obtain ⟨b2, o2, ea, hlt2, hcs⟩ := S2.out.at (by omega)
        subst ea
        have kj := hcs j (by omega)
        obtain ⟨x, hx⟩ : ∃ x, (lbs (j + 1) B).getD j 0 = x := ⟨_, rfl⟩
        rw [hx] at kj
        have HX := Lib.hid hx
        have j0 : (0 : Int) ≤ (j : Int) := by omega
        have j1 : (j : Int) < (j : Int) + 1 := by omega
        have j2 : (0 : Int) < (j : Int) + 1 := by omega
        have j3 : (j : Int) ≤ 100000 := by omega
        clear hcs hx hlt2
        by_cases hx0 : x = 0
        · subst hx0
          have er : r = ([], 5, none) := by rw [← HRR.out, if_pos ⟨by omega, HX.out⟩]
          subst er
          go_wp2_with fail
          refine FL.out.mono ?_
          rintro e w2 ⟨rfl, hr2, hg2⟩
          have R3 := Lib.hid hr2
          have G3 := Lib.hid (grown_trans G2.out hg2)
          clear hr2 hg2 FL
          go_wp2
          refine bodyPost_ret (results_tmp2 rfl _ _ _) rfl ?_
          exact ⟨none, 0, 0, rfl, SlW.nil _, fun _ => rfl, R3.out, G3.out⟩
        · have er : r = (lbs (j + 1) B, 0, some T) := by rw [← HRR.out, if_neg (fun h => hx0 (by rw [← HX.out]; exact h.2))]
          subst er
          go_wp2
          refine bodyPost_ret (results_tmp2 rfl _ _ _) rfl ?_
          exact ⟨_, j + 1, c2, rfl, S2.out, NC.out, R2.out, G2.out⟩

end Go.Proofs.YtcdkehghdhcokaaDoor.wr
