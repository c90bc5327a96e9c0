/- The law ScheduleFair. -/
import Derived.Test.YtigokfcoofbdlaaF1
import Derived.Deep.OwnRows
import Derived.WalkSpells
import Derived.Laws.Cover3
namespace Go.Proofs.Ytigokfcoofbdlaa
open Go.RowKit
set_option linter.unusedVariables false

theorem info44z : (Try.prog.info? 44).map (fun i => (i.zero, i.size, i.bytes)) = some (some (.slice none 0 0), 1, 24) := by kernel_rfl
theorem info4z : (Try.prog.info? 4).map (fun i => (i.zero, i.size, i.bytes)) = some (some (.bool false), 1, 1) := by kernel_rfl
theorem nats_of2 {l : List Int} {n : Nat} (hl : l.length = n) (hn : n ≤ 12) (h1 : ∀ k, k < n → l.getD k 0 ≤ 50) (h2 : ∀ k, k < n → 1 ≤ l.getD k 0) :
    ints (l.map Int.toNat) = l ∧ (l.map Int.toNat).length = n ∧ (∀ i, i < n → 0 < (l.map Int.toNat).getD i 0) ∧ (l.map Int.toNat).sum ≤ 600 := by
  have hi := ints_nat (l := l) (fun k hk => h2 k (by omega))
  have hg : ∀ k, ((l.map Int.toNat).getD k 0 : Int) = l.getD k 0 := fun k => by rw [← ints_at, hi]
  refine ⟨hi, by simpa using hl, fun i hk => by have := hg i; have := h2 i hk; omega, ?_⟩
  have := sum_le (c := 50) (l.map Int.toNat) (fun k hk => by have := hg k; have := h1 k (by simp at hk; omega); omega)
  rw [List.length_map, hl] at this
  omega
/-- whoever has made a step since worker a's last one -/
def Fairs (n : Nat) (L : List Nat) (x : Int) (Z : List (Option (Nat × List Bool))) : Prop :=
  ∀ (a b : Nat) (r : List Bool), Z.getD a none = some (b, r) → ∀ o, o < n → o ≠ a → 0 < L.getD o 0 → cyc a x o → r.getD o false = true
def mkz (p : Nat) (z : Option (Nat × List Bool)) : Option (Nat × List Bool) := z.map fun v => (v.1, v.2.set p true)
/-- behind a step of worker p -/
def Marked (p : Nat) (Z Z' : List (Option (Nat × List Bool))) : Prop := ∀ (j b : Nat) (r : List Bool), Z'.getD j none = some (b, r) → (j = p ∧ True) ∨ ∃ r0, Z.getD j none = some (b, r0) ∧ r = r0.set p true
theorem Fairs.empty {n : Nat} {L : List Nat} {x : Int} {Z : List (Option (Nat × List Bool))} (h : ∀ k, Z.getD k none = none) : Fairs n L x Z := fun a b r hz => by rw [h a] at hz; cases hz
theorem Fairs.next {n p : Nat} {L : List Nat} {x : Int} {Z Z' : List (Option (Nat × List Bool))} (hF : Fairs n L x Z) (hL : L.length = n) (hp : aft (unf L) x = p) (hpn : p < n) (hM : Marked p Z Z') (hl : ∀ (k b : Nat) (r : List Bool), Z.getD k none = some (b, r) → r.length = n) : Fairs n (dec L p) (p : Nat) Z' := by
  intro a b r hz o ho hoa hpos hc
  rcases hM a b r hz with ⟨e, _⟩ | ⟨r0, h0, e⟩
  · subst e; exact absurd hc cyc_self
  · subst e
    by_cases e : o = p
    · subst e
      have := hl a b r0 h0
      rw [getD_set _ _ _ _ _ (by omega), if_pos rfl]
    · rw [dec_at (by omega), if_neg e] at hpos
      have hm : o ∈ unf L := mem_unf.2 ⟨by omega, hpos⟩
      have h2 := hF a b r0 h0 o ho hoa hpos (cyc_step (unf_sorted L) hp hm e hc)
      by_cases hlr : p < r0.length
      · rw [getD_set _ _ _ _ _ hlr, if_neg e]; exact h2
      · rw [List.set_eq_of_length_le (by omega)]; exact h2
theorem Fairs.all {n p b : Nat} {L : List Nat} {x : Int} {Z : List (Option (Nat × List Bool))} {r : List Bool} (hF : Fairs n L x Z) (hp : aft (unf L) x = p) (hz : Z.getD p none = some (b, r)) {o : Nat} (ho : o < n) (hL : L.length = n) (hne : o ≠ p) (hpos : 0 < L.getD o 0) : r.getD o false = true :=
  hF p b r hz o ho hne hpos (cyc_all (unf_sorted L) hp (mem_unf.2 ⟨by omega, hpos⟩) hne)
set_option maxHeartbeats 8000000 in
set_option maxRecDepth 100000 in
theorem law_fair (a0 : Option Addr) (n0 c0 : Nat) (l0 : List Int) (a1 : Option Addr) (n1 c1 : Nat) (S : List Nat) (w : World) (h0 : SlI w a0 n0 c0 l0) (z0 : a0 = none → n0 = 0 ∧ c0 = 0) (h1 : SlS w a1 n1 c1 S) (hS : ∀ i, S.getD i 0 < 256) :
    Calls Try.prog 7 #[.slice a0 n0 c0, .slice a1 n1 c1] w fun e w' => e = .returned (.bool true) ∧ Below w.heap.size w w' := by
  have H0 := Lib.hid h0; clear h0
  have H1 := Lib.hid h1; clear h1
  have HZ := Lib.hid z0; clear z0
  have HSB := Lib.hid hS; clear hS
  go_enter Try.func7, Try.ntmps7
  go_wp2_with fail
  refine (awake_c w).mono ?_
  rintro e w1 ⟨rfl, hb1⟩
  have B1 := Lib.hid hb1; clear hb1
  go_wp2_with fail
  refine (large_c a0 n0 c0 l0 a1 n1 c1 w1 (H0.out.below B1.out)).mono ?_
  rintro e w' ⟨⟨b, rfl, hb⟩, rfl⟩
  cases b with
  | true =>
    clear hb
    go_wp2
    refine bodyPost_ret (results_tmp rfl _ _ _) rfl ?_
    exact ⟨rfl, B1.out⟩
  | false =>
    obtain ⟨hn0, hn1, hle⟩ := hb rfl
    have HLE := Lib.hid hle
    clear hb hle
    go_wp2
    go_loopw [5, 26] (fun s5 s wr => ∃ (i s0 : Nat), i ≤ n0 ∧ s = .int .i64 (i : Nat) ∧ s5 = .int .i64 (s0 : Nat) ∧ w1 = wr ∧ s0 ≤ 50 * i ∧ Hid (s0 = ((l0.map Int.toNat).take i).sum) ∧ Hid (∀ k, k < i → 1 ≤ l0.getD k 0)) (fun _ s _ => n0 - (intOf s).toNat)
    case atStart => exact ⟨0, 0, by omega, rfl, rfl, rfl, by omega, Lib.hid rfl, Lib.hid (fun k hk => absurd hk (Nat.not_lt_zero k))⟩
    case round =>
      obtain ⟨i, s0, hi, rfl, rfl, rfl, hs0, hsum, hno⟩ := hrel
      by_cases hlt : i < n0
      · obtain ⟨p0, o0, rfl, hc0⟩ := (H0.out.below B1.out).at (by omega)
        have k0 := hc0 i hlt
        clear hc0
        obtain ⟨x, hx⟩ : ∃ y, l0.getD i 0 = y := ⟨_, rfl⟩
        rw [hx] at k0
        have hx50 : x ≤ 50 := by rw [← hx]; exact HLE.out i hlt
        have HX := Lib.hid hx
        clear hx
        by_cases hx1 : x < 1
        · go_wp2
          refine bodyPost_ret (results_tmp rfl _ _ _) rfl ?_
          exact ⟨rfl, B1.out⟩
        · obtain ⟨y, rfl⟩ : ∃ y : Nat, x = (y : Int) := ⟨x.toNat, by omega⟩
          have HSN : Hid (s0 + y = ((l0.map Int.toNat).take (i + 1)).sum) := Lib.hid (by
            have hl := H0.out.1
            rw [List.take_succ_eq_append_getElem (by rw [List.length_map]; omega), List.sum_append, ← hsum.out]
            have : (l0.map Int.toNat)[i]'(by rw [List.length_map]; omega) = y := by
              rw [List.getElem_map]
              have := HX.out
              rw [List.getD_eq_getElem?_getD, List.getElem?_eq_getElem (by omega), Option.getD_some] at this
              omega
            simp [this])
          go_wp2
          go_roundw
          case rel => exact ⟨i + 1, s0 + y, by omega, by go_num, by go_num, trivial, by omega, HSN, Lib.hid (fun k hk => by
            rcases Nat.lt_or_ge k i with h | h
            · exact hno.out k h
            · have : k = i := by omega
              rw [this, HX.out]; omega)⟩
          case measure => simp [intOf]; omega
      · have hin : i = n0 := by omega
        obtain ⟨hiL, hL, hp, hsm⟩ := nats_of2 H0.out.1 hn0 HLE.out (fun k hk => hno.out k (by omega))
        have hss := hsum.out
        rw [List.take_of_length_le (by rw [hL]; omega)] at hss
        obtain ⟨L, hLe⟩ : ∃ L, l0.map Int.toNat = L := ⟨_, rfl⟩
        rw [hLe] at hiL hL hp hsm hss
        subst hiL
        have HL := Lib.hid hL; have HP := Lib.hid hp; have HSm := Lib.hid hsm; have HSS := Lib.hid hss
        have hs600 : s0 ≤ 600 := by omega
        clear hno hsum hL hp hsm hss hLe
        go_wp2_with fail
        refine (crew_c a0 n0 c0 (ints L) w1 (H0.out.below B1.out) hn0).mono ?_
        rintro e w2 ⟨C, la, lc, rfl, hC, hP, hO⟩
        have CP := Lib.hid hP; have CO := Lib.hid hO; have HC := Lib.hid hC
        clear hP hO hC
        go_wp2_with fail
        refine (crun_c w1 (w1.heap.size + 1) C la n0 lc L a1 n1 c1 S (s0 : Nat) w2 rfl CP.out CO.out HC.out HL.out HP.out hn0 HSm.out (H1.out.below B1.out) HSB.out (by omega)).mono ?_
        rintro e w3 ⟨bw, u, L', rfl, hI⟩
        obtain ⟨R, hR⟩ : ∃ R, ord S (s0 : Nat) L.sum L (-1) [] = R := ⟨_, rfl⟩
        have hfull := ord_full (S := S) (x := -1) (out := []) (most := (s0 : Nat)) L.sum rfl (by rw [HSS.out]; simp)
        rw [hR] at hI hfull ⊢
        have hr1 : R.1.length = s0 := by rw [hfull.2, HSS.out]; simp
        rw [hfull.1, hr1]
        have HR := Lib.hid hR; have HR1 := Lib.hid hr1; have HR2 := Lib.hid hfull.1
        clear hR hr1 hfull
        obtain ⟨hbel, _, ⟨vo, hvo, hown, _⟩, _⟩ := hI
        have B3 := Lib.hid (B1.out.trans (hbel.mono B1.out.size))
        obtain ⟨oa, oc, rfl⟩ := hown.slice
        rw [ints_len, HR1.out] at hvo hown
        have HVO := Lib.hid hvo
        have kv := cell_of_one hvo
        have LG := Lib.hid hown
        have HLG : Hid (∀ k, (Value.slice oa s0 oc).ownBlock = some k → k < w3.heap.size) := Lib.hid (fun k hk => (hown.lt k hk).2)
        have lsz := hbel.size
        clear hbel hvo hown CP CO
        have OH : Hid ((w3.alloc (.cells #[] 3)).ownsRow w3.heap.size 3 1 (.slice (some ⟨w3.heap.size, 0, none⟩) 0 0) 0 []) := Lib.hid (World.ownsRow_made w3 #[] 0 (Nat.le_refl _) (by unfold maxLen; omega) rfl)
        go_upto_region 18 with (at_builtin; refine wpList_append_il rfl (.tmp 63) (.tmp 64) rfl w3.heap.size _ _ _ rfl OH.out a0 n0 c0 (ints L) rfl (H0.out.below (B3.out.alloc B3.out.size _)) HZ.out (by omega) (by rw [World.size_alloc]; omega) ?_; intro v1 w4 O1 G1; rw [Nat.zero_add, List.nil_append] at O1; have OA := Lib.hid O1; have BA : Hid (Below w3.heap.size w3 w4) := Lib.hid (((Below.refl w3.heap.size w3).alloc (o := .cells #[] 3) (Nat.le_refl _)).grown G1 (by rw [World.size_alloc]; omega) (fun k hk => by have e' := Option.some.inj (show some w3.heap.size = some k from hk); omega)); clear O1 G1)
        have ho : OwnI w4 w3.heap.size v1 (ints L) := by have := OA.out; unfold OwnI; rwa [ints_len, HL.out]
        obtain ⟨da, dc, rfl⟩ := ho.slice
        rw [ints_len, HL.out] at ho ⊢
        obtain ⟨j0, hj, hjz, hj1, hj2⟩ := info_parts info44z
        obtain ⟨q0, hq, hqz, hq1, hq2⟩ := info_parts info4z
        have hbz : j0.bytes * n0 ≤ 281474976710656 := by rw [hj2]; omega
        have hbq : q0.bytes * n0 ≤ 281474976710656 := by rw [hq2]; omega
        have G4 : Hid (w4.heap[w1.heap.size + 1]? = some (.cells #[.slice oa s0 oc] 22 (0, 0))) := Lib.hid (by rw [BA.out.block _ (lt_of_block HVO.out)]; exact HVO.out)
        have L4 : Hid (OwnI w4 w1.heap.size (.slice oa s0 oc) (ints R.1)) := Lib.hid (LG.out.below BA.out)
        have B4 : Hid (Below w.heap.size w w4) := Lib.hid (B3.out.trans (BA.out.mono B3.out.size))
        have D4 := Lib.hid ho
        have lz3 := BA.out.size
        clear kv ho OA OH BA LG HVO B3
        obtain ⟨bg, hbg⟩ : ∃ x, w1.heap.size + 1 = x := ⟨_, rfl⟩
        rw [hbg] at G4 ⊢
        clear hbg
        have hba : Below w4.heap.size w4 (w4.alloc (.cells (madeCells #[.slice none 0 0] n0) 44)) := (Below.refl _ _).alloc (Nat.le_refl _) _
        have G5 : Hid ((w4.alloc (.cells (madeCells #[.slice none 0 0] n0) 44)).heap[bg]? = some (.cells #[.slice oa s0 oc] 22 (0, 0))) := Lib.hid (by rw [Below.heap_alloc _ _ _ (lt_of_block G4.out)]; exact G4.out)
        have L5 : Hid (OwnI (w4.alloc (.cells (madeCells #[.slice none 0 0] n0) 44)) w1.heap.size (.slice oa s0 oc) (ints R.1)) := Lib.hid (L4.out.below hba)
        have D5 : Hid (OwnI (w4.alloc (.cells (madeCells #[.slice none 0 0] n0) 44)) w3.heap.size (.slice da n0 dc) (ints L)) := Lib.hid (D4.out.below hba)
        have B5 : Hid (Below w.heap.size w (w4.alloc (.cells (madeCells #[.slice none 0 0] n0) 44))) := Lib.hid (B4.out.alloc B4.out.size _)
        have S5 : Hid (SZ (w4.alloc (.cells (madeCells #[.slice none 0 0] n0) 44)) w4.heap.size n0 (List.replicate n0 none)) := Lib.hid (SZ.made w4 n0)
        have lw4 : w.heap.size ≤ w4.heap.size := B4.out.size
        have kg := cell_of_one G5.out
        clear hba G4 L4 D4 B4
        go_wp2_with (at_make; refine wpList_make_row _ rfl _ _ 43 rfl 44 j0 (.slice none 0 0) Try.underlying43 hj hjz hj1 rfl _ _ n0 rfl rfl hbz (by omega) ?_)
        obtain ⟨gs, hgs⟩ : ∃ x, w4.heap.size = x := ⟨_, rfl⟩
        obtain ⟨w5, hw5⟩ : ∃ x, w4.alloc (.cells (madeCells #[.slice none 0 0] n0) 44) = x := ⟨_, rfl⟩
        rw [hw5] at G5 L5 D5 B5 S5 kg ⊢
        rw [hgs] at S5 lw4 ⊢
        clear hgs hw5 kg
        have qn0 : ∀ (w : World), (binOp .neq 44 (.slice none 0 0) (.slice none 0 0)).run Try.prog w = .ok (.bool false) w := fun w => run_neq_slice_nil w 44 4 none 0 0 Try.underlying44
        have qn1 : ∀ (w : World) (b : Addr) (n c : Nat), (binOp .neq 44 (.slice (some b) n c) (.slice none 0 0)).run Try.prog w = .ok (.bool true) w := fun w b n c => run_neq_slice_nil w 44 4 (some b) n c Try.underlying44
        go_loopw [73] (fun s wr => ∃ (i : Nat) (L' : List Nat) (x : Int) (Z : List (Option (Nat × List Bool))), i ≤ s0 ∧ s = .int .i64 (i : Nat) ∧ Hid (L'.length = n0) ∧ Hid (L'.sum + i = s0) ∧ Hid (ord S (s0 : Nat) L'.sum L' x (R.1.take i) = R) ∧ Hid (OwnI wr w1.heap.size (.slice oa s0 oc) (ints R.1)) ∧ Hid (OwnI wr w3.heap.size (.slice da n0 dc) (ints L')) ∧
            Hid (SZ wr gs n0 Z) ∧ Hid (Fairs n0 L' x Z) ∧ Hid (i ≤ n1 → ∀ k, Z.getD k none = none) ∧ Hid (∀ (k b : Nat) (r : List Bool), Z.getD k none = some (b, r) → w3.heap.size ≤ b) ∧ Hid (Below w.heap.size w wr)) (fun s _ => s0 - (intOf s).toNat)
        case atStart => exact ⟨0, L, -1, List.replicate n0 none, by omega, rfl, HL, Lib.hid (by rw [HSS.out]; rfl), HR, L5, D5, S5, Lib.hid (Fairs.empty (fun k => by rw [List.getD_eq_getElem?_getD, List.getElem?_replicate]; split <;> rfl)), Lib.hid (fun _ k => by rw [List.getD_eq_getElem?_getD, List.getElem?_replicate]; split <;> rfl), Lib.hid (fun k b r hz => by rw [List.getD_eq_getElem?_getD, List.getElem?_replicate] at hz; split at hz <;> cases hz), B5⟩
        case round =>
          clear L5 D5 S5 B5 G5
          obtain ⟨i, L', x, Z, hi2, rfl, HL', HS', HRR, LW, DW, SW, HF, HN, HW, BW⟩ := hrel
          by_cases hlt2 : i < s0
          · have hne : unf L' ≠ [] := fun e => by
              have h1 := HRR.out
              rw [ord_done e] at h1
              have h2 := HR1.out
              rw [← h1, List.length_take] at h2
              omega
            have hlim : ((R.1.take i).length : Int) ≠ (s0 : Int) := by rw [List.length_take]; have := HR1.out; omega
            obtain ⟨p, hp⟩ : ∃ p, pick S L' x (R.1.take i) = p := ⟨_, rfl⟩
            have hpm := pick_mem (S := S) (x := x) (out := R.1.take i) hne
            rw [hp] at hpm
            have hpl := mem_unf.1 hpm
            have HX : Hid (ord S (s0 : Nat) (dec L' p).sum (dec L' p) p (R.1.take i ++ [p]) = R) := Lib.hid (by
              have := HRR.out
              rwa [← sum_dec hpl.1 hpl.2, ord_step hne hlim, hp] at this)
            have hpre := ord_pre (S := S) (most := (s0 : Nat)) (dec L' p).sum (L := dec L' p) (x := (p : Nat)) (out := R.1.take i ++ [p])
            rw [HX.out] at hpre
            have HRP : Hid (R.1.getD i 0 = p ∧ R.1.take i ++ [p] = R.1.take (i + 1)) := Lib.hid (by
              obtain ⟨t, ht⟩ := hpre
              have hti : (R.1.take i).length = i := by rw [List.length_take]; have := HR1.out; omega
              have hg : R.1[i]? = some p := by
                rw [ht, List.append_assoc, List.getElem?_append_right (by omega), hti, Nat.sub_self]; rfl
              refine ⟨by rw [List.getD_eq_getElem?_getD, hg]; rfl, ?_⟩
              rw [List.take_add_one, hg]; rfl)
            have hpn : p < n0 := by have := hpl.1; rw [HL'.out] at this; exact this
            have HPP := Lib.hid hp
            have hy1 := hpl.2
            have HSD : Hid ((dec L' p).sum + (i + 1) = s0 ∧ (dec L' p).length = n0) := Lib.hid ⟨by have := sum_dec hpl.1 hpl.2; have := HS'.out; omega, by rw [dec_len]; exact HL'.out⟩
            obtain ⟨y, hy⟩ : ∃ y, L'.getD p 0 = y := ⟨_, rfl⟩
            rw [hy] at hy1
            have hy2 : y ≤ 600 := by have := getD_le_sum L' p; have := HS'.out; omega
            have HY := Lib.hid hy
            have HNE := Lib.hid hne
            clear hpre hp hpm hpl hne hlim hy
            obtain ⟨lg, rfl⟩ := own_some LW.out (by omega)
            obtain ⟨dg, rfl⟩ := own_some DW.out (by omega)
            have kl := own_cell LW.out (by rw [ints_len, HR1.out]) hlt2
            rw [ints_at, HRP.out.1] at kl
            have kd := own_cell DW.out (by rw [ints_len, HL'.out]) hpn
            rw [ints_at, HY.out] at kd
            have hy0 : ((y : Int) == 0) = false := by rw [beq_eq_false_iff_ne]; omega
            have hpn2 : (p : Int) < (n0 : Int) := by omega
            have hlg : lg < w3.heap.size := HLG.out lg rfl
            have hdg : w3.heap.size ≤ dg := (DW.out.lt dg rfl).1
            obtain ⟨wo, rfl⟩ : ∃ wo : World, wo = wr := ⟨_, rfl⟩
            have hpb : decide (n0 ≤ p) = false := decide_eq_false (by omega)
            have hpz : decide ((p : Int) < 0) = false := decide_eq_false (by omega)
            go_upto_if 96 with fail
            go_cut [99] (fun _ wc => ∃ Z' : List (Option (Nat × List Bool)), Hid (OwnI wc w1.heap.size (.slice (some ⟨lg, 0, none⟩) s0 oc) (ints R.1)) ∧ Hid (OwnI wc w3.heap.size (.slice (some ⟨dg, 0, none⟩) n0 dc) (ints L')) ∧ Hid (SZ wc gs n0 Z') ∧ Hid (Fairs n0 (dec L' p) (p : Nat) Z') ∧ Hid (i + 1 ≤ n1 → ∀ k, Z'.getD k none = none) ∧ Hid (∀ (k b : Nat) (r : List Bool), Z'.getD k none = some (b, r) → w3.heap.size ≤ b) ∧ Hid (Below w.heap.size w wc))
            case first =>
              by_cases hsc : n1 ≤ i
              · have HA : Hid (aft (unf L') x = p) := Lib.hid (by
                  rw [← HPP.out]
                  unfold pick
                  rw [if_neg (by rw [List.length_take]; have := HR1.out; have := H1.out.1; omega)])
                clear HN
                have hsb : decide (n1 ≤ i) = true := decide_eq_true hsc
                rw [hsb]
                go_wp2
                go_loopw [99] (fun s wr => ∃ o : Nat, o ≤ n0 ∧ s = .int .i64 (o : Nat) ∧ wo = wr) (fun s _ => n0 - (intOf s).toNat)
                case atStart => exact ⟨0, by omega, rfl, rfl⟩
                case round =>
                  obtain ⟨o, ho2, rfl, rfl⟩ := hrel
                  by_cases hlo : o < n0
                  · have ko := own_cell DW.out (by rw [ints_len, HL'.out]) hlo
                    rw [ints_at] at ko
                    have kz := SW.out.cell hpn
                    obtain ⟨yo, hyo⟩ : ∃ y, L'.getD o 0 = y := ⟨_, rfl⟩
                    rw [hyo] at ko
                    have HYO := Lib.hid hyo
                    clear hyo
                    cases hz : Z.getD p none with
                    | none =>
                      rw [hz] at kz
                      have kz2 : wo.cell? ⟨gs, p, none⟩ = some (.slice none 0 0) := kz
                      clear kz hz
                      go_wp2
                      go_roundw
                      case rel => exact ⟨o + 1, by omega, by go_num, trivial⟩
                      case measure => simp [intOf]; omega
                    | some v =>
                      obtain ⟨b, r⟩ := v
                      rw [hz] at kz
                      have kz2 : wo.cell? ⟨gs, p, none⟩ = some (.slice (some ⟨b, 0, none⟩) n0 n0) := kz
                      have kr := (SW.out.row hz hlo).1
                      have HZP := Lib.hid hz
                      clear kz hz
                      by_cases hop : o = p
                      · subst hop
                        clear kr
                        go_wp2
                        go_roundw
                        case rel => exact ⟨o + 1, by omega, by go_num, trivial⟩
                        case measure => simp [intOf]; omega
                      · by_cases hyz : yo = 0
                        · subst hyz
                          have hopb : (o == p) = false := by rw [beq_eq_false_iff_ne]; exact hop
                          clear kr
                          go_wp2
                          go_roundw
                          case rel => exact ⟨o + 1, by omega, by go_num, trivial⟩
                          case measure => simp [intOf]; omega
                        · have hall := HF.out.all HA.out HZP.out hlo HL'.out hop (by rw [HYO.out]; omega)
                          rw [hall] at kr
                          have hyp : (0 : Int) < (yo : Int) := by omega
                          have hopb : (o == p) = false := by rw [beq_eq_false_iff_ne]; exact hop
                          clear hall hyz
                          go_wp2
                          go_roundw
                          case rel => exact ⟨o + 1, by omega, by go_num, trivial⟩
                          case measure => simp [intOf]; omega
                  · have hon : o = n0 := by omega
                    clear kl kd
                    go_wp2
                    go_loopw [131] (fun s wr => ∃ (k : Nat) (Z' : List (Option (Nat × List Bool))), k ≤ n0 ∧ s = .int .i64 (k : Nat) ∧ Hid (SZ wr gs n0 Z') ∧ Hid (OwnI wr w1.heap.size (.slice (some ⟨lg, 0, none⟩) s0 oc) (ints R.1)) ∧ Hid (OwnI wr w3.heap.size (.slice (some ⟨dg, 0, none⟩) n0 dc) (ints L')) ∧ Hid (Below w.heap.size w wr) ∧ Hid (∀ j, Z'.getD j none = if j < k then mkz p (Z.getD j none) else Z.getD j none) ∧ w3.heap.size ≤ wr.heap.size) (fun s _ => n0 - (intOf s).toNat)
                    case atStart => exact ⟨0, Z, by omega, rfl, SW, LW, DW, BW, Lib.hid (fun j => by rw [if_neg (Nat.not_lt_zero j)]), by have := (DW.out.lt dg rfl).2; omega⟩
                    case round =>
                      obtain ⟨k, Z', hk2, rfl, SC, LC, DC, BC, HM, hz3⟩ := hrel
                      by_cases hlk : k < n0
                      · have kz := SC.out.cell hlk
                        have hzk : Z'.getD k none = Z.getD k none := by rw [HM.out k, if_neg (Nat.lt_irrefl k)]
                        rw [hzk] at kz
                        cases hz : Z.getD k none with
                        | none =>
                          rw [hz] at kz
                          have kz2 : wr.cell? ⟨gs, k, none⟩ = some (.slice none 0 0) := kz
                          have HM2 : Hid (∀ j, Z'.getD j none = if j < k + 1 then mkz p (Z.getD j none) else Z.getD j none) := Lib.hid (fun j => by
                            rw [HM.out j]
                            by_cases e : j = k
                            · subst e; rw [if_neg (Nat.lt_irrefl j), if_pos (by omega), hz]; rfl
                            · by_cases h : j < k
                              · rw [if_pos h, if_pos (by omega)]
                              · rw [if_neg h, if_neg (by omega)])
                          clear kz hz hzk HM
                          go_wp2
                          go_roundw
                          case rel => exact ⟨k + 1, Z', by omega, by go_num, SC, LC, DC, BC, HM2, hz3⟩
                          case measure => simp [intOf]; omega
                        | some v =>
                          obtain ⟨b, r⟩ := v
                          rw [hz] at kz
                          have kz2 : wr.cell? ⟨gs, k, none⟩ = some (.slice (some ⟨b, 0, none⟩) n0 n0) := kz
                          have hzs : Z'.getD k none = some (b, r) := by rw [hzk, hz]
                          obtain ⟨hr1, hr2⟩ := SC.out.row hzs hpn
                          have hbr := (SC.out.rows k b r hzs).1
                          have S7 : Hid (SZ (wr.setCell ⟨b, p, none⟩ (.bool true)) gs n0 (Z'.set k (some (b, r.set p true)))) := Lib.hid (SC.out.mark hzs hpn)
                          have L7 : Hid (OwnI (wr.setCell ⟨b, p, none⟩ (.bool true)) w1.heap.size (.slice (some ⟨lg, 0, none⟩) s0 oc) (ints R.1)) := Lib.hid (LC.out.apart hbr (by decide))
                          have D7 : Hid (OwnI (wr.setCell ⟨b, p, none⟩ (.bool true)) w3.heap.size (.slice (some ⟨dg, 0, none⟩) n0 dc) (ints L')) := Lib.hid (DC.out.apart hbr (by decide))
                          have B7 : Hid (Below w.heap.size w (wr.setCell ⟨b, p, none⟩ (.bool true))) := Lib.hid (BC.out.setCell (p := ⟨b, p, none⟩) (by show w.heap.size ≤ b; have := HW.out k b r hz; have := B1.out.size; omega) _)
                          have hkz : k < Z'.length := by rw [SC.out.len]; exact hlk
                          have HM2 : Hid (∀ j, (Z'.set k (some (b, r.set p true))).getD j none = if j < k + 1 then mkz p (Z.getD j none) else Z.getD j none) := Lib.hid (fun j => by
                            rw [getD_set _ _ _ _ _ hkz]
                            by_cases e : j = k
                            · subst e; rw [if_pos rfl, if_pos (by omega), hz]; rfl
                            · rw [if_neg e, HM.out j]
                              by_cases h : j < k
                              · rw [if_pos h, if_pos (by omega)]
                              · rw [if_neg h, if_neg (by omega)])
                          have hz4 : w3.heap.size ≤ (wr.setCell ⟨b, p, none⟩ (.bool true)).heap.size := by simp [World.setCell]; omega
                          clear kz hz hzk HM hbr SC LC DC BC hzs hkz
                          go_wp2
                          go_roundw
                          case rel => exact ⟨k + 1, _, by omega, by go_num, S7, L7, D7, B7, HM2, hz4⟩
                          case measure => simp [intOf]; omega
                      · have hkn : k = n0 := by omega
                        have SA := SC.out.alloc (.cells (madeCells #[.bool false] n0) 4)
                        have kgp := SA.cell hpn
                        have fgp := SA.frozen p
                        have S8 : Hid (SZ ((wr.alloc (.cells (madeCells #[.bool false] n0) 4)).setCell ⟨gs, p, none⟩ (.slice (some ⟨wr.heap.size, 0, none⟩) n0 n0)) gs n0 (Z'.set p (some (wr.heap.size, List.replicate n0 false)))) := Lib.hid (SC.out.new hpn rfl)
                        have L8 : Hid (OwnI ((wr.alloc (.cells (madeCells #[.bool false] n0) 4)).setCell ⟨gs, p, none⟩ (.slice (some ⟨wr.heap.size, 0, none⟩) n0 n0)) w1.heap.size (.slice (some ⟨lg, 0, none⟩) s0 oc) (ints R.1)) := Lib.hid ((LC.out.below ((Below.refl _ _).alloc (Nat.le_refl _) _)).apart SA.blk (by decide))
                        have D8 : Hid (OwnI ((wr.alloc (.cells (madeCells #[.bool false] n0) 4)).setCell ⟨gs, p, none⟩ (.slice (some ⟨wr.heap.size, 0, none⟩) n0 n0)) w3.heap.size (.slice (some ⟨dg, 0, none⟩) n0 dc) (ints L')) := Lib.hid ((DC.out.below ((Below.refl _ _).alloc (Nat.le_refl _) _)).apart SA.blk (by decide))
                        have B8 : Hid (Below w.heap.size w ((wr.alloc (.cells (madeCells #[.bool false] n0) 4)).setCell ⟨gs, p, none⟩ (.slice (some ⟨wr.heap.size, 0, none⟩) n0 n0))) := Lib.hid ((BC.out.alloc BC.out.size _).setCell (p := ⟨gs, p, none⟩) (by show w.heap.size ≤ gs; omega) _)
                        have hpz' : p < Z'.length := by rw [SC.out.len]; exact hpn
                        have hMk : Marked p Z (Z'.set p (some (wr.heap.size, List.replicate n0 false))) := fun j b r hj => by
                          rw [getD_set _ _ _ _ _ hpz'] at hj
                          by_cases e : j = p
                          · exact .inl ⟨e, trivial⟩
                          · rw [if_neg e, HM.out j] at hj
                            right
                            by_cases hjk : j < k
                            · rw [if_pos hjk] at hj
                              cases hzj : Z.getD j none with
                              | none => rw [hzj] at hj; cases hj
                              | some v => rw [hzj] at hj; cases hj; exact ⟨v.2, rfl, rfl⟩
                            · rw [if_neg hjk] at hj
                              have := SW.out.at_lt hj
                              omega
                        have FC8 : Hid (Fairs n0 (dec L' p) (p : Nat) (Z'.set p (some (wr.heap.size, List.replicate n0 false)))) := Lib.hid (HF.out.next HL'.out HA.out hpn hMk (fun k b r hk => (SW.out.rows k b r hk).2))
                        have W8 : Hid (∀ (k b : Nat) (r : List Bool), (Z'.set p (some (wr.heap.size, List.replicate n0 false))).getD k none = some (b, r) → w3.heap.size ≤ b) := Lib.hid (fun j b r hj => by
                          rcases hMk j b r hj with ⟨e, _⟩ | ⟨r0, h0, _⟩
                          · rw [getD_set _ _ _ _ _ hpz', if_pos e] at hj; cases hj; exact hz3
                          · exact HW.out j b r0 h0)
                        have N8 : Hid (i + 1 ≤ n1 → ∀ k, (Z'.set p (some (wr.heap.size, List.replicate n0 false))).getD k none = none) := Lib.hid (fun h => by omega)
                        clear SA SC LC DC BC hMk hpz' HM hkn
                        go_wp2_with (at_make; refine wpList_make_row _ rfl _ _ 44 rfl 4 q0 (.bool false) Try.underlying44 hq hqz hq1 rfl _ _ n0 rfl rfl hbq (by omega) ?_)
                        go_meet
                        case rel => exact ⟨_, L8, D8, S8, FC8, N8, W8, B8⟩
              · have hN := HN.out (by omega)
                have FE : Hid (Fairs n0 (dec L' p) (p : Nat) Z) := Lib.hid (Fairs.empty hN)
                have HN2 := Lib.hid hN
                clear hN
                go_wp2_with fail
                go_meet
                case rel => exact ⟨Z, LW, DW, SW, FE, Lib.hid (fun _ => HN2.out), HW, BW⟩
            case rest =>
              clear LW DW SW HF HN HW BW kl kd
              obtain ⟨Z', LC, DC, SC, FC, NC, WC, BC⟩ := hcut
              have kd := own_cell DC.out (by rw [ints_len, HL'.out]) hpn
              rw [ints_at, HY.out] at kd
              have fd := own_frozen DC.out p
              have pw : wrap64 ((y : Int) - 1) = (y : Int) - 1 := by unfold wrap64; omega
              obtain ⟨dcur, hdcur⟩ := DC.out.block
              have D6 : Hid (OwnI (wc.setCell ⟨dg, p, none⟩ (.int .i64 ((y : Int) - 1))) w3.heap.size (.slice (some ⟨dg, 0, none⟩) n0 dc) (ints (dec L' p))) := Lib.hid (by rw [ints_dec (by rw [HY.out]; exact hy1), HY.out]; exact DC.out.set (by rw [ints_len, HL'.out]) hpn _)
              have L6 : Hid (OwnI (wc.setCell ⟨dg, p, none⟩ (.int .i64 ((y : Int) - 1))) w1.heap.size (.slice (some ⟨lg, 0, none⟩) s0 oc) (ints R.1)) := Lib.hid (ownsRow_setCell_other LC.out (a := ⟨dg, p, none⟩) (fun e => by have e' : lg = dg := Option.some.inj e; omega) _)
              have S6 : Hid (SZ (wc.setCell ⟨dg, p, none⟩ (.int .i64 ((y : Int) - 1))) gs n0 Z') := Lib.hid (SC.out.other hdcur (by decide) (by decide))
              have B6 : Hid (Below w.heap.size w (wc.setCell ⟨dg, p, none⟩ (.int .i64 ((y : Int) - 1)))) := Lib.hid (BC.out.setCell (p := ⟨dg, p, none⟩) (by show w.heap.size ≤ dg; have := B1.out.size; omega) _)
              clear LC DC SC BC hdcur
              go_wp2
              go_roundw
              case rel => exact ⟨i + 1, dec L' p, (p : Nat), Z', by omega, by go_num, Lib.hid HSD.out.2, Lib.hid HSD.out.1, Lib.hid (by rw [← HRP.out.2]; exact HX.out), L6, D6, S6, FC, NC, WC, B6⟩
              case measure => simp [intOf]; omega
          · go_wp2
            refine bodyPost_ret (results_tmp rfl _ _ _) rfl ?_
            exact ⟨rfl, BW.out⟩

end Go.Proofs.Ytigokfcoofbdlaa
