/- The law ScheduleEvery. -/
import Derived.Test.YtigokfcoofbdlaaE0
import Derived.Test.YtigokfcoofbdlaaF1
import Derived.Deep.OwnRows
import Derived.Deep.AppendLies
namespace Go.Proofs.Ytigokfcoofbdlaa
open Go.RowKit
set_option linter.unusedVariables false

theorem info5z : (Try.prog.info? 5).map (fun i => (i.zero, i.size, i.bytes)) = some (some (.int .u8 0), 1, 1) := by kernel_rfl
abbrev bvals (A : List Nat) : List Value := A.map fun x : Nat => Value.int .u8 (x : Int)
/-- a list of bytes of the call's own -/
def OwnS (w : World) (base : Nat) (v : Value) (A : List Nat) : Prop := w.ownsRow base 5 1 v A.length (bvals A)
theorem OwnS.sl {w : World} {base : Nat} {a : Option Addr} {U c : Nat} {A : List Nat} (h : OwnS w base (.slice a U c) A) (hl : A.length = U) : SlS w a U c A := by
  rcases id h.2 with ⟨hv, h0⟩ | ⟨g, cap, cur, hv, hg, hh, h1, h2, _⟩
  · injection hv with e1 e2 e3
    subst e1; subst e3; subst e2
    obtain rfl : A = [] := List.eq_nil_of_length_eq_zero hl
    exact SlS.nil w none 0 (by omega)
  · injection hv with e1 e2 e3
    subst e1; subst e3
    refine ⟨hl, by omega, by unfold maxLen at h2; omega, .inr ⟨g, 0, rfl, (Array.getElem?_eq_some_iff.1 hh).1, fun i hi => ?_⟩⟩
    have := World.ownsRow.cells h (g := g) rfl i (.int .u8 (A.getD i 0 : Nat)) (by simp [hl, hi])
    rw [Addr.add_mid] at this
    exact this
/-- the array of counts in block cb -/
def CntB (w : World) (cb : Nat) (c : List Nat) : Prop := w.heap[cb]? = some (.cells (ivals (ints c)).toArray 40 (0, 0))
theorem CntB.cell {w : World} {cb k : Nat} {c : List Nat} (h : CntB w cb c) (hk : k < c.length) : w.cell? ⟨cb, k, none⟩ = some (.int .i64 (c.getD k 0 : Nat)) ∧ w.frozen? ⟨cb, k, none⟩ = false := by
  refine ⟨?_, frozen_of_row w cb k _ 40 h⟩
  rw [cell_of_row w cb k _ 40 (0, 0) h, List.getElem?_toArray, iv_at (by rw [ints_len]; exact hk), ints_at]
theorem CntB.put {w : World} {cb k : Nat} {c : List Nat} (h : CntB w cb c) (x : Nat) : CntB (w.setCell ⟨cb, k, none⟩ (.int .i64 (x : Nat))) cb (c.set k x) := by
  unfold CntB
  rw [heap_setCell_same w cb k _ 40 _ h]
  congr 2
  simp [ivals, ints, List.map_set]
theorem CntB.keep {w w' : World} {cb : Nat} {c : List Nat} {r : Option Nat} (h : CntB w cb c) (hg : w.grownBy w' r) (hr : r ≠ some cb) : CntB w' cb c := by
  unfold CntB
  rw [hg.block cb (lt_of_block h) (Ne.symm hr)]; exact h
theorem CntB.all {w : World} {cb : Nat} {c : List Nat} (h : CntB w cb c) (hc : c.length = 4) : w.cell? ⟨cb, 0, none⟩ = some (.int .i64 (c.getD 0 0 : Nat)) ∧ w.cell? ⟨cb, 1, none⟩ = some (.int .i64 (c.getD 1 0 : Nat)) ∧ w.cell? ⟨cb, 2, none⟩ = some (.int .i64 (c.getD 2 0 : Nat)) ∧ w.cell? ⟨cb, 3, none⟩ = some (.int .i64 (c.getD 3 0 : Nat)) :=
  ⟨(h.cell (by omega)).1, (h.cell (by omega)).1, (h.cell (by omega)).1, (h.cell (by omega)).1⟩
theorem set_step {ws : List Nat} {k q : Nat} (hk : k < ws.length) (hq : (qsl ws).getD k 0 = q) : (ints ((qsl ws).take k ++ ws.drop k)).set k (q : Int) = ints ((qsl ws).take (k + 1) ++ ws.drop (k + 1)) := by
  have hl : ((qsl ws).take k).length = k := by simp [qsl]; omega
  have hs : ((qsl ws).take k ++ ws.drop k).set k q = (qsl ws).take (k + 1) ++ ws.drop (k + 1) := by
    rw [take_snoc_getD (by simp [qsl]; exact hk), hq, List.drop_eq_getElem_cons hk, List.append_assoc, List.set_append_right _ _ (by omega), hl, Nat.sub_self]
    rfl
  rw [← hs]
  simp [ints, List.map_set]
theorem OwnS.type {w : World} {base k : Nat} {v : Value} {A : List Nat} (h : OwnS w base v A) (hk : v.ownBlock = some k) {a : Array Value} {t : TypeId} {f : Nat × Nat} (h2 : w.heap[k]? = some (.cells a t f)) : t = 5 := (own_type h hk h2).symm
theorem OwnI.keep_s {w w' : World} {base b : Nat} {v vs : Value} {l : List Int} {A : List Nat} (h : OwnI w base v l) (hs : OwnS w b vs A) (hg : w.grownBy w' vs.ownBlock) : OwnI w' base v l :=
  h.keep hg (by
    cases hv : v.ownBlock with
    | none => exact .inl rfl
    | some k =>
      right
      intro e
      rcases h.2 with ⟨rfl, _⟩ | ⟨g, cap, cur, rfl, _, hh, _⟩
      · cases hv
      · have e1 : g = k := Option.some.inj hv
        rw [e1] at hh
        have := hs.type e.symm hh
        cases this)
theorem OwnI.type {w : World} {base k : Nat} {v : Value} {l : List Int} (h : OwnI w base v l) (hk : v.ownBlock = some k) {a : Array Value} {t : TypeId} {f : Nat × Nat} (h2 : w.heap[k]? = some (.cells a t f)) : t = 3 := (own_type h hk h2).symm
set_option maxHeartbeats 8000000 in
set_option maxRecDepth 100000 in
theorem law_every (a0 : Option Addr) (n0 c0 : Nat) (S : List Nat) (w : World) (h0 : SlS w a0 n0 c0 S) (hS : ∀ i, S.getD i 0 < 256) :
    Calls Try.prog 6 #[.slice a0 n0 c0] w fun e w' => e = .returned (.bool true) ∧ Below w.heap.size w w' := by
  obtain ⟨i0, hi, hz0, hz1, hz2⟩ := info_parts info3z
  obtain ⟨j0, hjx, hjz, hj1, hjb⟩ := info_parts info5z
  have H0 := Lib.hid h0; clear h0
  have HSB := Lib.hid hS; clear hS
  go_enter Try.func6, Try.ntmps6
  go_wp2_with fail
  refine (awake_c w).mono ?_
  rintro e w1 ⟨rfl, hb1⟩
  have B1 := Lib.hid hb1; clear hb1
  by_cases hn : 60 < n0
  · go_wp2
    refine bodyPost_ret (results_tmp rfl _ _ _) rfl ?_
    exact ⟨rfl, B1.out⟩
  · have hn60 : n0 ≤ 60 := by omega
    clear hn
    obtain ⟨ws, hws⟩ : ∃ ws, S.map (· % 4) = ws := ⟨_, rfl⟩
    have HWL : Hid (ws.length = n0) := Lib.hid (by rw [← hws, List.length_map]; exact H0.out.1)
    have HWA : Hid (∀ i, i < n0 → ws.getD i 0 = S.getD i 0 % 4) := Lib.hid (fun i hi => by
      rw [← hws]
      have : i < S.length := by have := H0.out.1; omega
      simp [this])
    have HW4 : Hid (∀ x ∈ ws, x < 4) := Lib.hid (fun x hx => by
      rw [← hws] at hx
      obtain ⟨y, _, rfl⟩ := List.mem_map.1 hx
      exact Nat.mod_lt _ (by omega))
    clear hws
    obtain ⟨cb, hcb⟩ : ∃ x, w1.heap.size = x := ⟨_, rfl⟩
    have C1 : Hid (CntB (w1.alloc (.cells #[.int .i64 0, .int .i64 0, .int .i64 0, .int .i64 0] 40)) cb (cnts (ws.take 0))) := Lib.hid (by rw [← hcb]; exact heap_alloc_new w1 _)
    have B2 : Hid (Below w.heap.size w (w1.alloc (.cells #[.int .i64 0, .int .i64 0, .int .i64 0, .int .i64 0] 40))) := Lib.hid (B1.out.alloc B1.out.size _)
    have lcb : w.heap.size ≤ cb := by rw [← hcb]; exact B1.out.size
    go_wp2
    clear hcb
    go_loopw [4, 29] (fun s4 s wr => ∃ (i : Nat) (a : Option Addr) (c : Nat), i ≤ n0 ∧ s = .int .i64 (i : Nat) ∧ s4 = .slice a i c ∧ Hid (CntB wr cb (cnts (ws.take i))) ∧ Hid (OwnI wr (cb + 1) (.slice a i c) (ints (ws.take i))) ∧ Hid (Below w.heap.size w wr) ∧ cb < wr.heap.size) (fun _ s _ => n0 - (intOf s).toNat)
    case atStart => exact ⟨0, none, 0, by omega, rfl, rfl, C1, Lib.hid ⟨rfl, .inl ⟨rfl, rfl⟩⟩, B2, lt_of_block C1.out⟩
    case round =>
      clear C1 B2
      obtain ⟨i, a, c, hi2, rfl, rfl, HC, HO, HB, lcw⟩ := hrel
      by_cases hlt : i < n0
      · obtain ⟨b0, o0, rfl, hc0⟩ : ∃ b off, a0 = some ⟨b, off, none⟩ ∧ ∀ i, i < n0 → wr.cell? ⟨b, off + i, none⟩ = some (.int .u8 (S.getD i 0 : Nat)) := by
          rcases (H0.out.below HB.out).2.2.2 with h | ⟨b, off, e, _, hc⟩
          · omega
          · exact ⟨b, off, e, hc⟩
        have k0 := hc0 i hlt
        have hwi := HWA.out i hlt
        obtain ⟨sb, hsb⟩ : ∃ y, S.getD i 0 = y := ⟨_, rfl⟩
        rw [hsb] at k0 hwi
        have hsb2 : sb < 256 := by rw [← hsb]; exact HSB.out i
        have hm4 := Nat.mod_lt sb (show 0 < 4 by omega)
        have HWI := Lib.hid hwi
        have hcl := cnts_len (ws.take i)
        obtain ⟨kc, fc⟩ := HC.out.cell (k := sb % 4) (by omega)
        rw [cnts_at hm4] at kc
        obtain ⟨y, hy⟩ : ∃ y, (ws.take i).count (sb % 4) = y := ⟨_, rfl⟩
        rw [hy] at kc
        have hy60 : y ≤ 60 := by rw [← hy]; have := List.count_le_length (a := sb % 4) (l := ws.take i); rw [List.length_take] at this; omega
        have HY := Lib.hid hy
        clear hc0 hsb hwi hy hcl
        go_upto_region 11 with fail
        obtain ⟨q, hq⟩ : ∃ q, sb % 4 = q := ⟨_, rfl⟩
        have hqI : (sb : Int) % 4 = (q : Int) := by omega
        rw [hqI, hq]
        rw [hq] at kc fc hm4
        have hWq : ws.getD i 0 = q := by rw [HWI.out, hq]
        have htk : ws.take (i + 1) = ws.take i ++ [q] := by rw [take_snoc_getD (by rw [HWL.out]; exact hlt), hWq]
        have HTK := Lib.hid htk
        have C4 : Hid (CntB (wr.setCell ⟨cb, q, none⟩ (.int .i64 ((y : Int) + 1))) cb (cnts (ws.take (i + 1)))) := Lib.hid (by
          have h1 := HC.out.put (k := q) (y + 1)
          rw [htk, cnts_snoc hm4, show (ws.take i).count q = y from by rw [← hq]; exact HY.out]
          exact h1)
        have HO4 : Hid (OwnI (wr.setCell ⟨cb, q, none⟩ (.int .i64 ((y : Int) + 1))) (cb + 1) (.slice a i c) (ints (ws.take i))) := Lib.hid (HO.out.apart HC.out (by decide))
        have B4 : Hid (Below w.heap.size w (wr.setCell ⟨cb, q, none⟩ (.int .i64 ((y : Int) + 1)))) := Lib.hid (HB.out.setCell (p := ⟨cb, q, none⟩) lcb _)
        have sz4 : cb < (wr.setCell ⟨cb, q, none⟩ (.int .i64 ((y : Int) + 1))).heap.size := by simp [World.setCell]; exact lcw
        obtain ⟨w4, hw4⟩ : ∃ x, wr.setCell ⟨cb, q, none⟩ (.int .i64 ((y : Int) + 1)) = x := ⟨_, rfl⟩
        rw [hw4] at C4 HO4 B4 sz4 ⊢
        have hq256 : (q : Int) < 256 := by omega
        clear hw4 hq kc fc k0 hWq htk HC HO HB HY HWI
        have hil : (ws.take i).length = i := by rw [List.length_take, HWL.out]; omega
        have ow : Hid (w4.ownsRow (cb + 1) 3 1 (.slice a i c) i (ivals (ints (ws.take i)))) := Lib.hid (by have := HO4.out; unfold OwnI at this; rwa [ints_len, hil] at this)
        have HIL := Lib.hid hil
        clear hil
        go_wp2_with (at_builtin; refine wpList_append_own _ rfl (.tmp 39) (.tmp 43) 22 rfl (cb + 1) 3 i0 (.int .i64 0) 1 8 Try.underlying22 hi hz0 hz1 hz2 rfl (by decide) _ _ _ rfl (ow.out.alloc _) ⟨w4.heap.size, 0, none⟩ 1 1 [.int .i64 q] rfl rfl (one_newi rfl) one_celli (by unfold maxLen; omega) (by omega) (by rw [World.size_alloc]; omega) ?_; intro v2 w5 O2 G2 _; have OH2 := Lib.hid O2; have GH2 := Lib.hid G2; clear O2 G2)
        have hown : OwnI w5 (cb + 1) v2 (ints (ws.take (i + 1))) := by rw [HTK.out, ints_append]; exact OwnI.push OH2.out (by rw [ints_len, HIL.out])
        have hlen : (ints (ws.take (i + 1))).length = i + 1 := by rw [ints_len, HTK.out, List.length_append, HIL.out]; rfl
        obtain ⟨va, vc, rfl⟩ := hown.slice
        rw [hlen] at hown
        have rb : ∀ k, (Value.slice a i c).ownBlock = some k → cb + 1 ≤ k := fun k e => (ow.out.lt k e).1
        have B5 : Hid (Below w.heap.size w w5) := Lib.hid ((B4.out.alloc (o := .cells #[.int .i64 q] 3) B4.out.size).grown GH2.out (by rw [World.size_alloc]; have := B4.out.size; omega) (by intro k hk; have := rb k hk; omega))
        have C5 : Hid (CntB w5 cb (cnts (ws.take (i + 1)))) := Lib.hid ((C4.out.keep (World.grownBy_alloc w4 (.cells #[.int .i64 q] 3) none) (by simp)).keep GH2.out (fun e => by have := rb cb e; omega))
        have O5 := Lib.hid hown
        have sz5 := lt_of_block C5.out
        clear GH2 OH2 ow rb hown C4 HO4 B4
        go_roundw
        case rel => exact ⟨i + 1, va, vc, by omega, by go_num, by rw [hlen], C5, O5, B5, sz5⟩
        case measure => simp [intOf]; omega
      · have hin : i = n0 := by omega
        subst hin
        have htk : ws.take i = ws := List.take_of_length_le (by rw [HWL.out]; exact Nat.le_refl _)
        rw [htk] at HC HO
        clear htk
        obtain ⟨ka, kb, kc, kd⟩ := HC.out.all (cnts_len ws)
        obtain ⟨x0, hx0⟩ : ∃ x, (cnts ws).getD 0 0 = x := ⟨_, rfl⟩
        obtain ⟨x1, hx1⟩ : ∃ x, (cnts ws).getD 1 0 = x := ⟨_, rfl⟩
        obtain ⟨x2, hx2⟩ : ∃ x, (cnts ws).getD 2 0 = x := ⟨_, rfl⟩
        obtain ⟨x3, hx3⟩ : ∃ x, (cnts ws).getD 3 0 = x := ⟨_, rfl⟩
        rw [hx0] at ka
        rw [hx1] at kb
        rw [hx2] at kc
        rw [hx3] at kd
        have HXS : Hid (cnts ws = [x0, x1, x2, x3]) := Lib.hid (by
          rw [← hx0, ← hx1, ← hx2, ← hx3, cnts_at (by omega), cnts_at (by omega), cnts_at (by omega), cnts_at (by omega)]
          simp [cnts, List.range_succ])
        clear hx0 hx1 hx2 hx3
        go_wp2
        have hidx : Hid (∀ j, j < 4 → ∀ w : World, (Instr.index 40 (.agg #[.int .i64 (x0 : Nat), .int .i64 (x1 : Nat), .int .i64 (x2 : Nat), .int .i64 (x3 : Nat)]) (.int .i64 (j : Nat))).run Try.prog w = .ok (.int .i64 ((cnts ws).getD j 0 : Nat)) w) := Lib.hid (by
          intro j hj w
          rw [HXS.out]
          match j, hj with
          | 0, _ => simp [Instr.index, go_sem]
          | 1, _ => simp [Instr.index, go_sem]
          | 2, _ => simp [Instr.index, go_sem]
          | 3, _ => simp [Instr.index, go_sem])
        obtain ⟨bq, hbq⟩ : ∃ x, wr.heap.size = x := ⟨_, rfl⟩
        have HWB : Hid (∀ k, (Value.slice a i c).ownBlock = some k → cb + 1 ≤ k ∧ k < bq) := Lib.hid (fun k hk => by rw [← hbq]; exact HO.out.lt k hk)
        have lbq : bq ≤ wr.heap.size := by omega
        have lcq : cb < bq := by omega
        clear ka kb kc kd hbq lcw
        go_loopw [7, 8, 47] (fun s7 s8 s wr => ∃ (j m : Nat) (an ap : Option Addr) (cn cp : Nat), j ≤ 4 ∧ s = .int .i64 (j : Nat) ∧ s7 = .slice an m cn ∧ s8 = .slice ap j cp ∧ m ≤ j ∧ Hid ((nums ((cnts ws).take j)).length = m) ∧ Hid (OwnI wr bq (.slice an m cn) (ints (nums ((cnts ws).take j)))) ∧ Hid (OwnI wr bq (.slice ap j cp) (ints ((List.range j).map (plc (cnts ws))))) ∧
            Hid (∀ k, (Value.slice an m cn).ownBlock = some k → (Value.slice ap j cp).ownBlock ≠ some k) ∧ Hid (OwnI wr (cb + 1) (.slice a i c) (ints ws)) ∧ Hid (Below w.heap.size w wr) ∧ bq ≤ wr.heap.size) (fun _ _ s _ => 4 - (intOf s).toNat)
        case atStart => exact ⟨0, 0, none, none, 0, 0, by omega, rfl, rfl, rfl, by omega, Lib.hid rfl, Lib.hid ⟨rfl, .inl ⟨rfl, rfl⟩⟩, Lib.hid ⟨rfl, .inl ⟨rfl, rfl⟩⟩, Lib.hid (fun k hk => by cases hk), HO, HB, lbq⟩
        case round =>
          clear HO HB HC lbq
          obtain ⟨j, m, an, ap, cn, cp, hj2, rfl, rfl, rfl, hmj, HM, HN, HPL, HNE, HO, HB, lbq⟩ := hrel
          by_cases hlt : j < 4
          · have hix := hidx.out j hlt
            obtain ⟨xj, hxj⟩ : ∃ x, (cnts ws).getD j 0 = x := ⟨_, rfl⟩
            rw [hxj] at hix
            have hxl : xj ≤ 60 := by rw [← hxj, cnts_at hlt]; have := List.count_le_length (a := j) (l := ws); have := HWL.out; omega
            have hns := nums_snoc (c := cnts ws) (j := j) (by rw [cnts_len]; exact hlt)
            rw [hxj] at hns
            have HNS := Lib.hid hns
            have HXJ := Lib.hid hxj
            clear hns hxj
            have hpl : ((List.range j).map (plc (cnts ws))).length = j := by simp
            have owp : Hid (wr.ownsRow bq 3 1 (.slice ap j cp) j (ivals (ints ((List.range j).map (plc (cnts ws)))))) := Lib.hid (by have := HPL.out; unfold OwnI at this; rwa [ints_len, hpl] at this)
            clear hpl
            go_upto_region 18 with (at_builtin; refine wpList_append_lies _ rfl (.tmp 50) (.tmp 53) 22 rfl bq 3 i0 (.int .i64 0) 1 8 Try.underlying22 hi hz0 hz1 hz2 rfl (by decide) (.slice ap j cp) j (ivals (ints ((List.range j).map (plc (cnts ws))))) rfl (owp.out.alloc _) ⟨wr.heap.size, 0, none⟩ 1 1 [.int .i64 m] rfl rfl (one_newi rfl) one_celli (by omega) (by unfold maxLen; omega) (by omega) (by rw [World.size_alloc]; omega) (wr.heap.size + 1) (World.size_alloc _ _) ?_; intro g2 p2 w5 O2 G2 A2 L2; have OH2 := Lib.hid O2; have GH2 := Lib.hid G2; have AH2 := Lib.hid A2; clear O2 G2 A2 L2)
            have P5 : Hid (OwnI w5 bq (.slice (some ⟨g2, 0, none⟩) (j + 1) p2) (ints ((List.range (j + 1)).map (plc (cnts ws))))) := Lib.hid (by
              have h1 := OwnI.push OH2.out (by rw [ints_len]; simp)
              have e : plc (cnts ws) j = m := HM.out
              rw [List.range_succ, List.map_append, ints_append]
              show OwnI _ _ _ (_ ++ ints [plc (cnts ws) j])
              rw [e]
              exact h1)
            have N5 : Hid (OwnI w5 bq (.slice an m cn) (ints (nums ((cnts ws).take j)))) := Lib.hid ((HN.out.below ((Below.refl _ _).alloc (Nat.le_refl _) _)).keep GH2.out (by
              cases hv : (Value.slice an m cn).ownBlock with
              | none => exact .inl rfl
              | some k => exact .inr (fun e => HNE.out k hv e.symm)))
            have NE5 : Hid (∀ k, (Value.slice an m cn).ownBlock = some k → k ≠ g2) := Lib.hid (fun k hk e => by
              rcases AH2.out with h | h
              · exact HNE.out k hk (by rw [h, e])
              · have := (HN.out.lt k hk).2; omega)
            have O5 : Hid (OwnI w5 (cb + 1) (.slice a i c) (ints ws)) := Lib.hid ((HO.out.below ((Below.refl _ _).alloc (Nat.le_refl _) _)).keep GH2.out (by
              cases hv : (Value.slice a i c).ownBlock with
              | none => exact .inl rfl
              | some k => exact .inr (fun e => by have h1 := (HWB.out k hv).2; have h2 := (owp.out.lt k e.symm).1; omega)))
            have lw5 : bq ≤ w5.heap.size := by have := GH2.out.size; rw [World.size_alloc] at this; omega
            have B5 : Hid (Below w.heap.size w w5) := Lib.hid ((HB.out.alloc (o := .cells #[.int .i64 m] 3) HB.out.size).grown GH2.out (by rw [World.size_alloc]; have := HB.out.size; omega) (by intro k hk; have := (owp.out.lt k hk).1; omega))
            have lg5 : g2 < w5.heap.size := (P5.out.lt g2 rfl).2
            have gq5 : bq ≤ g2 := (P5.out.lt g2 rfl).1
            clear OH2 GH2 AH2 owp HN HPL HNE HO HB lbq hix
            by_cases hx0 : 0 < xj
            · have HN2 : Hid (nums ((cnts ws).take (j + 1)) = nums ((cnts ws).take j) ++ [xj]) := Lib.hid (by rw [HNS.out, if_pos hx0])
              have own : Hid (w5.ownsRow bq 3 1 (.slice an m cn) m (ivals (ints (nums ((cnts ws).take j))))) := Lib.hid (by have := N5.out; unfold OwnI at this; rwa [ints_len, HM.out] at this)
              go_wp2_with (at_builtin; refine wpList_append_lies _ rfl (.tmp 57) (.tmp 59) 22 rfl bq 3 i0 (.int .i64 0) 1 8 Try.underlying22 hi hz0 hz1 hz2 rfl (by decide) (.slice an m cn) m (ivals (ints (nums ((cnts ws).take j)))) rfl (own.out.alloc _) ⟨w5.heap.size, 0, none⟩ 1 1 [.int .i64 xj] rfl rfl (one_newi rfl) one_celli (by omega) (by unfold maxLen; omega) (by omega) (by rw [World.size_alloc]; omega) (w5.heap.size + 1) (World.size_alloc _ _) ?_; intro g3 p3 w6 O2 G2 A2 L2; have OH2 := Lib.hid O2; have GH2 := Lib.hid G2; have AH2 := Lib.hid A2; clear O2 G2 A2 L2)
              have N6 : Hid (OwnI w6 bq (.slice (some ⟨g3, 0, none⟩) (m + 1) p3) (ints (nums ((cnts ws).take (j + 1))))) := Lib.hid (by
                rw [HN2.out, ints_append]
                exact OwnI.push OH2.out (by rw [ints_len, HM.out]))
              have P6 : Hid (OwnI w6 bq (.slice (some ⟨g2, 0, none⟩) (j + 1) p2) (ints ((List.range (j + 1)).map (plc (cnts ws))))) := Lib.hid ((P5.out.below ((Below.refl _ _).alloc (Nat.le_refl _) _)).keep GH2.out (by
                cases hv : (Value.slice an m cn).ownBlock with
                | none => exact .inr (fun e => by cases e)
                | some k => exact .inr (fun e => NE5.out k hv (Option.some.inj e).symm)))
              have NE6 : Hid (∀ k, (Value.slice (some ⟨g3, 0, none⟩) (m + 1) p3).ownBlock = some k → (Value.slice (some ⟨g2, 0, none⟩) (j + 1) p2).ownBlock ≠ some k) := Lib.hid (fun k hk e => by
                have e1 : g3 = k := Option.some.inj hk
                have e2 : g2 = k := Option.some.inj e
                rcases AH2.out with h | h
                · exact NE5.out g3 h (by omega)
                · omega)
              have O6 : Hid (OwnI w6 (cb + 1) (.slice a i c) (ints ws)) := Lib.hid ((O5.out.below ((Below.refl _ _).alloc (Nat.le_refl _) _)).keep GH2.out (by
                cases hv : (Value.slice a i c).ownBlock with
                | none => exact .inl rfl
                | some k => exact .inr (fun e => by have h1 := (HWB.out k hv).2; have h2 := (own.out.lt k e.symm).1; omega)))
              have B6 : Hid (Below w.heap.size w w6) := Lib.hid ((B5.out.alloc (o := .cells #[.int .i64 xj] 3) B5.out.size).grown GH2.out (by rw [World.size_alloc]; have := B5.out.size; omega) (by intro k hk; have := (own.out.lt k hk).1; omega))
              have lw6 : bq ≤ w6.heap.size := by have := GH2.out.size; rw [World.size_alloc] at this; omega
              clear OH2 GH2 AH2 own N5 P5 O5 B5 NE5
              go_roundw
              case rel => exact ⟨j + 1, m + 1, _, _, p3, p2, by omega, by go_num, rfl, rfl, by omega, Lib.hid (by rw [HN2.out, List.length_append, HM.out]; rfl), N6, P6, NE6, O6, B6, lw6⟩
              case measure => simp [intOf]; omega
            · have HN2 : Hid (nums ((cnts ws).take (j + 1)) = nums ((cnts ws).take j)) := Lib.hid (by rw [HNS.out, if_neg hx0])
              have hx1 : ¬ (0 : Int) < (xj : Int) := by omega
              have hx2 : decide ((0 : Int) < (xj : Int)) = false := decide_eq_false hx1
              have hx3 : decide (0 < xj) = false := decide_eq_false hx0
              clear hx0 hx1
              go_wp2
              go_roundw
              case rel => exact ⟨j + 1, m, an, _, cn, p2, by omega, by go_num, rfl, rfl, by omega, Lib.hid (by rw [HN2.out]; exact HM.out), Lib.hid (by rw [HN2.out]; exact N5.out), P5, Lib.hid (fun k hk e => NE5.out k hk (Option.some.inj e).symm), O5, B5, lw5⟩
              case measure => simp [intOf]; omega
          · have hj4 : j = 4 := by omega
            have ht4 : (cnts ws).take j = cnts ws := List.take_of_length_le (by rw [cnts_len]; omega)
            rw [ht4] at HM HN
            have HPL4 : Hid (OwnI wr bq (.slice ap 4 cp) (ints ((List.range 4).map (plc (cnts ws))))) := Lib.hid (by have := HPL.out; rw [hj4] at this; exact this)
            subst hj4
            clear HPL ht4
            have NZ : Hid (an = none → m = 0 ∧ cn = 0) := Lib.hid (fun e => by
              subst e
              rcases HN.out.2 with ⟨hv, _⟩ | ⟨g, cap, cur, hv, _⟩
              · injection hv with _ e1 e2; exact ⟨e1, e2⟩
              · cases hv)
            obtain ⟨bl, hbl⟩ : ∃ x, wr.heap.size = x := ⟨_, rfl⟩
            have OH : Hid ((wr.alloc (.cells #[] 3)).ownsRow bl 3 1 (.slice (some ⟨bl, 0, none⟩) 0 0) 0 []) := Lib.hid (by rw [← hbl]; exact World.ownsRow_made wr #[] 0 (Nat.le_refl _) (by unfold maxLen; omega) rfl)
            have hba : Below wr.heap.size wr (wr.alloc (.cells #[] 3)) := (Below.refl _ _).alloc (Nat.le_refl _) _
            have HBA := Lib.hid hba
            clear hba
            go_upto_region 22 with (at_builtin; refine wpList_append_il rfl (.tmp 62) (.tmp 63) rfl bl _ _ _ rfl OH.out an m cn (ints (nums (cnts ws))) rfl ((HN.out.sl (by rw [ints_len, HM.out])).below HBA.out) NZ.out (by omega) (by rw [World.size_alloc]; omega) ?_; intro v1 w4 O1 G1; rw [Nat.zero_add, List.nil_append] at O1; have OA := Lib.hid O1; have BA : Hid (Below wr.heap.size wr w4) := Lib.hid (HBA.out.grown G1 (by rw [World.size_alloc]; omega) (fun k hk => by have e' := Option.some.inj (show some bl = some k from hk); omega)); clear O1 G1)
            have ho : OwnI w4 bl v1 (ints (nums (cnts ws))) := by have := OA.out; unfold OwnI; rwa [ints_len, HM.out]
            obtain ⟨la, lc, rfl⟩ := ho.slice
            rw [ints_len, HM.out] at ho ⊢
            have N4 : Hid (OwnI w4 bq (.slice an m cn) (ints (nums (cnts ws)))) := Lib.hid (HN.out.below BA.out)
            have P4 : Hid (OwnI w4 bq (.slice ap 4 cp) (ints ((List.range 4).map (plc (cnts ws))))) := Lib.hid (HPL4.out.below BA.out)
            have W4 : Hid (OwnI w4 (cb + 1) (.slice a i c) (ints ws)) := Lib.hid (HO.out.below BA.out)
            have D4 := Lib.hid ho
            have B4 : Hid (Below w.heap.size w w4) := Lib.hid (HB.out.trans (BA.out.mono HB.out.size))
            have HNB : Hid (∀ k, (Value.slice an m cn).ownBlock = some k → bq ≤ k ∧ k < bl) := Lib.hid (fun k hk => by have := HN.out.lt k hk; rw [hbl] at this; exact this)
            have HPB : Hid (∀ k, (Value.slice ap 4 cp).ownBlock = some k → bq ≤ k ∧ k < bl) := Lib.hid (fun k hk => by have := HPL4.out.lt k hk; rw [hbl] at this; exact this)
            have lb4 : bl ≤ w4.heap.size := by rw [← hbl]; exact BA.out.size
            have lqb : bq ≤ bl := by omega
            have lwc : w.heap.size ≤ cb := lcb
            clear ho OA OH HBA BA HN HPL4 HO HB hbl lbq HNE NZ
            go_wp2
            go_loopw [12, 67] (fun s12 s wr => ∃ (k : Nat) (sa : Option Addr) (sc : Nat), k ≤ i ∧ s = .int .i64 (k : Nat) ∧ s12 = .slice sa k sc ∧ Hid (OwnS wr w.heap.size (.slice sa k sc) ((List.range k).map (atk ws))) ∧ Hid (OwnI wr (cb + 1) (.slice a i c) (ints ((qsl ws).take k ++ ws.drop k))) ∧ Hid (OwnI wr bl (.slice la m lc) (ints (seqL ws k))) ∧
                Hid (OwnI wr bq (.slice an m cn) (ints (nums (cnts ws)))) ∧ Hid (OwnI wr bq (.slice ap 4 cp) (ints ((List.range 4).map (plc (cnts ws))))) ∧ Hid (Below w.heap.size w wr) ∧ bl ≤ wr.heap.size) (fun _ s _ => i - (intOf s).toNat)
            case atStart => exact ⟨0, none, 0, by omega, rfl, rfl, Lib.hid ⟨rfl, .inl ⟨rfl, rfl⟩⟩, W4, D4, N4, P4, B4, lb4⟩
            case round =>
              clear N4 P4 W4 D4 B4 lb4
              obtain ⟨k, sa, sc, hk2, rfl, rfl, HS, HW, HD, HN, HP, HB, lbw⟩ := hrel
              by_cases hlt : k < i
              · have hwk : Hid (k < ws.length) := Lib.hid (by rw [HWL.out]; exact hlt)
                obtain ⟨x, hx⟩ : ∃ x, ws.getD k 0 = x := ⟨_, rfl⟩
                have hx4 : x < 4 := by rw [← hx]; exact HW4.out _ (by rw [List.getD_eq_getElem?_getD, List.getElem?_eq_getElem hwk.out]; exact List.getElem_mem hwk.out)
                have hqx : Hid ((qsl ws).getD k 0 = plc (cnts ws) x) := Lib.hid (by rw [qsl_at hwk.out, hx])
                have hmem := seq_mem ws HW4.out hwk.out
                obtain ⟨q, hq⟩ : ∃ q, (qsl ws).getD k 0 = q := ⟨_, rfl⟩
                rw [hq] at hmem
                have hinv := (seq_inv ws HW4.out k (Nat.le_of_lt hwk.out)).1
                rw [HM.out] at hinv
                have hqm : q < m := by have := (mem_unf.1 hmem).1; omega
                obtain ⟨y, hy⟩ : ∃ y, (seqL ws k).getD q 0 = y := ⟨_, rfl⟩
                have hy0 : 0 < y := by rw [← hy]; exact (mem_unf.1 hmem).2
                have hy60 : y ≤ 60 := by rw [← hy]; have := getD_le_sum (seqL ws k) q; have := (seq_inv ws HW4.out k (Nat.le_of_lt hwk.out)).2.1; have := HWL.out; omega
                have HMEM := Lib.hid hmem; have HQ := Lib.hid hq; have HY := Lib.hid hy; have HINV := Lib.hid hinv; have HX := Lib.hid hx
                clear hmem hq hy hinv hx
                obtain ⟨wg, rfl⟩ := own_some HW.out (by omega)
                obtain ⟨pg, rfl⟩ := own_some HP.out (by omega)
                obtain ⟨dg, rfl⟩ := own_some HD.out (by omega)
                have hlw : ((qsl ws).take k ++ ws.drop k).length = i := by have := HWL.out; have := hwk.out; simp [qsl]; omega
                have kw := own_cell HW.out (by rw [ints_len, hlw]) hlt
                have e1 : ((qsl ws).take k ++ ws.drop k).getD k 0 = x := by
                  rw [List.getD_eq_getElem?_getD, List.getElem?_append_right (by simp [qsl]; omega), show k - ((qsl ws).take k).length = 0 from by have := hwk.out; simp [qsl]; omega]
                  rw [← HX.out]; simp
                rw [ints_at, e1] at kw
                have fw := own_frozen HW.out k
                have kp := own_cell HP.out (by simp [ints]) hx4
                have e2 : ((List.range 4).map (plc (cnts ws))).getD x 0 = q := by rw [← HQ.out, hqx.out]; simp [hx4]
                rw [ints_at, e2] at kp
                have HLW := Lib.hid hlw
                clear e1 e2 hlw
                go_upto_region 28 with fail
                have hwgb := HWB.out wg rfl
                have hpgb := HPB.out pg rfl
                have hdgb : bl ≤ dg := (HD.out.lt dg rfl).1
                obtain ⟨wcur, hwcur⟩ := HW.out.block
                have W5 : Hid (OwnI (wr.setCell ⟨wg, k, none⟩ (.int .i64 (q : Nat))) (cb + 1) (.slice (some ⟨wg, 0, none⟩) i c) (ints ((qsl ws).take (k + 1) ++ ws.drop (k + 1)))) := Lib.hid (by rw [← set_step hwk.out HQ.out]; exact HW.out.set (by rw [ints_len]; exact HLW.out) hlt _)
                have D5 : Hid (OwnI (wr.setCell ⟨wg, k, none⟩ (.int .i64 (q : Nat))) bl (.slice (some ⟨dg, 0, none⟩) m lc) (ints (seqL ws k))) := Lib.hid (HD.out.other (by omega) _)
                have N5 : Hid (OwnI (wr.setCell ⟨wg, k, none⟩ (.int .i64 (q : Nat))) bq (.slice an m cn) (ints (nums (cnts ws)))) := Lib.hid (HN.out.other (by omega) _)
                have P5 : Hid (OwnI (wr.setCell ⟨wg, k, none⟩ (.int .i64 (q : Nat))) bq (.slice (some ⟨pg, 0, none⟩) 4 cp) (ints ((List.range 4).map (plc (cnts ws))))) := Lib.hid (HP.out.other (by omega) _)
                have S5 : Hid (OwnS (wr.setCell ⟨wg, k, none⟩ (.int .i64 (q : Nat))) w.heap.size (.slice sa k sc) ((List.range k).map (atk ws))) := Lib.hid (ownsRow_setCell_other HS.out (a := ⟨wg, k, none⟩) (fun e => by have := HS.out.type e hwcur; cases this) _)
                have B5 : Hid (Below w.heap.size w (wr.setCell ⟨wg, k, none⟩ (.int .i64 (q : Nat)))) := Lib.hid (HB.out.setCell (p := ⟨wg, k, none⟩) (by show w.heap.size ≤ wg; omega) _)
                have lb5 : bl ≤ (wr.setCell ⟨wg, k, none⟩ (.int .i64 (q : Nat))).heap.size := by simp [World.setCell]; exact lbw
                obtain ⟨w5, hw5⟩ : ∃ x, wr.setCell ⟨wg, k, none⟩ (.int .i64 (q : Nat)) = x := ⟨_, rfl⟩
                rw [hw5] at W5 D5 N5 P5 S5 B5 lb5 ⊢
                clear hw5 kw fw kp hwcur HS HW HD HN HP HB lbw
                go_wp2_with fail
                refine (unfinished_c (some ⟨dg, 0, none⟩) m lc (ints (seqL ws k)) w5 (D5.out.sl (by rw [ints_len, HINV.out])) (by omega)).mono ?_
                rintro e w6 ⟨v, rfl, hv6, hb6⟩
                have eU : unfp (ints (seqL ws k)) m = ints (unf (seqL ws k)) := by rw [← HINV.out]; exact unfp_unf _
                rw [eU] at hv6
                have huu := unf_len (seqL ws k)
                obtain ⟨U, hU⟩ : ∃ U, unf (seqL ws k) = U := ⟨_, rfl⟩
                rw [hU] at hv6 huu
                have HU := Lib.hid hU
                obtain ⟨uu, huul⟩ : ∃ u, U.length = u := ⟨_, rfl⟩
                rw [huul, HINV.out] at huu
                have HUL := Lib.hid huul
                obtain ⟨ua, uc, rfl⟩ := hv6.slice
                rw [ints_len, huul] at hv6 ⊢
                have W6 := Lib.hid (W5.out.below hb6); have D6 := Lib.hid (D5.out.below hb6); have N6 := Lib.hid (N5.out.below hb6); have P6 := Lib.hid (P5.out.below hb6)
                have B6 := Lib.hid (B5.out.trans (hb6.mono B5.out.size))
                have S6 : Hid (OwnS w6 w.heap.size (.slice sa k sc) ((List.range k).map (atk ws))) := Lib.hid (own_of S5.out (fun g hg => hb6.block g (S5.out.lt g hg).2))
                have V6 := Lib.hid hv6
                have lb6 : bl ≤ w6.heap.size := Nat.le_trans lb5 hb6.size
                clear eU hU huul hv6 hb6 W5 D5 N5 P5 B5 S5 lb5
                have kp := own_cell P6.out (by simp [ints]) hx4
                have e2 : ((List.range 4).map (plc (cnts ws))).getD x 0 = q := by rw [← HQ.out, hqx.out]; simp [hx4]
                rw [ints_at, e2] at kp
                clear e2
                go_wp2
                go_loopw [15, 82] (fun s15 s wr => ∃ (t b : Nat), t ≤ uu ∧ s = .int .i64 (t : Nat) ∧ s15 = .int .i64 (b : Nat) ∧ b ≤ t ∧ Hid (bel (U.take t) q = b) ∧ w6 = wr) (fun _ s _ => uu - (intOf s).toNat)
                case atStart => exact ⟨0, 0, by omega, rfl, rfl, by omega, Lib.hid rfl, rfl⟩
                case round =>
                  obtain ⟨t, b, ht2, rfl, rfl, hbt, HBE, rfl⟩ := hrel
                  by_cases hltu : t < uu
                  · obtain ⟨ug, rfl⟩ := own_some V6.out (by omega)
                    have ku := own_cell V6.out (by rw [ints_len, HUL.out]) hltu
                    rw [ints_at] at ku
                    have hbs := bel_snoc (U := U) (q := q) (t := t) (by rw [HUL.out]; exact hltu)
                    rw [HBE.out] at hbs
                    obtain ⟨z, hz⟩ : ∃ z, U.getD t 0 = z := ⟨_, rfl⟩
                    rw [hz] at ku hbs
                    have HBS := Lib.hid hbs
                    clear hz hbs
                    by_cases hzq : z < q
                    · have hzi : (z : Int) < (q : Int) := by omega
                      go_wp2
                      go_roundw
                      case rel => exact ⟨t + 1, b + 1, by omega, by go_num, by go_num, by omega, Lib.hid (by rw [HBS.out, if_pos hzq]), trivial⟩
                      case measure => simp [intOf]; omega
                    · have hzi : ¬ (z : Int) < (q : Int) := by omega
                      go_wp2
                      go_roundw
                      case rel => exact ⟨t + 1, b, by omega, by go_num, rfl, by omega, Lib.hid (by rw [HBS.out, if_neg hzq, Nat.add_zero]), trivial⟩
                      case measure => simp [intOf]; omega
                  · have htu : t = uu := by omega
                    have HAT : Hid (atk ws k = b) := Lib.hid (by
                      have := HBE.out
                      rw [htu, List.take_of_length_le (by rw [HUL.out]; exact Nat.le_refl _)] at this
                      unfold atk
                      rw [HU.out, HQ.out]; exact this)
                    have hb4 : b < 4 := by rw [← HAT.out]; exact atk_lt ws HW4.out hwk.out
                    clear HBE htu
                    go_upto_region 34 with fail
                    have hal : ((List.range k).map (atk ws)).length = k := by simp
                    have ow : Hid (w6.ownsRow w.heap.size 5 1 (.slice sa k sc) k (bvals ((List.range k).map (atk ws)))) := Lib.hid (by have := S6.out; unfold OwnS at this; rwa [hal] at this)
                    have pwu : IntKind.u8.wrap (b : Int) = (b : Int) := by
                      match b, hb4 with
                      | 0, _ | 1, _ | 2, _ | 3, _ => rfl
                    have one := wone_new (w := w6) (v := .int .u8 (b : Nat)) (g := w6.heap.size) rfl rfl 5
                    have HONE := Lib.hid one
                    have h1c : Hid (∀ u ∈ [Value.int .u8 (b : Nat)], u.oneCell' = true) := Lib.hid (by intro u h; simp at h; subst h; rfl)
                    have hlw6 : w.heap.size ≤ w6.heap.size := B6.out.size
                    clear hal one
                    go_upto_region 35 with (at_builtin; refine wpList_append_own _ rfl (.tmp 95) (.tmp 98) 23 rfl w.heap.size 5 j0 (.int .u8 0) 1 1 Try.underlying23 hjx hjz hj1 hjb rfl (by decide) (.slice sa k sc) k (bvals ((List.range k).map (atk ws))) rfl (ow.out.alloc _) ⟨w6.heap.size, 0, none⟩ 1 1 [.int .u8 (b : Nat)] rfl rfl HONE.out h1c.out (by unfold maxLen; omega) (by omega) (by rw [World.size_alloc]; omega) ?_; intro v2 w7 O2 G2 _; have OH2 := Lib.hid O2; have GH2 := Lib.hid G2; clear O2 G2)
                    have hba : Below w6.heap.size w6 (w6.alloc (.cells #[.int .u8 (b : Nat)] 5)) := (Below.refl _ _).alloc (Nat.le_refl _) _
                    have SA : OwnS (w6.alloc (.cells #[.int .u8 (b : Nat)] 5)) w.heap.size (.slice sa k sc) ((List.range k).map (atk ws)) := own_of S6.out (fun g hg => hba.block g (S6.out.lt g hg).2)
                    have S7 : OwnS w7 w.heap.size v2 ((List.range (k + 1)).map (atk ws)) := by
                      unfold OwnS
                      have h1 := OH2.out
                      have e1 : bvals ((List.range k).map (atk ws)) ++ [Value.int .u8 (b : Nat)] = bvals ((List.range (k + 1)).map (atk ws)) := by rw [List.range_succ, List.map_append, ← HAT.out]; simp [bvals]
                      rw [e1] at h1
                      simpa using h1
                    have sf : ∃ va vc, v2 = .slice va (k + 1) vc := by
                      rcases S7.2 with ⟨hv, h0⟩ | ⟨g, cp, cur, hv, _⟩
                      · simp at h0
                      · exact ⟨some ⟨g, 0, none⟩, cp, by rw [hv]; simp⟩
                    obtain ⟨va, vc, rfl⟩ := sf
                    have W7 : Hid (OwnI w7 (cb + 1) (.slice (some ⟨wg, 0, none⟩) i c) (ints ((qsl ws).take (k + 1) ++ ws.drop (k + 1)))) := Lib.hid ((W6.out.below hba).keep_s SA GH2.out)
                    have D7 : Hid (OwnI w7 bl (.slice (some ⟨dg, 0, none⟩) m lc) (ints (seqL ws k))) := Lib.hid ((D6.out.below hba).keep_s SA GH2.out)
                    have N7 : Hid (OwnI w7 bq (.slice an m cn) (ints (nums (cnts ws)))) := Lib.hid ((N6.out.below hba).keep_s SA GH2.out)
                    have P7 : Hid (OwnI w7 bq (.slice (some ⟨pg, 0, none⟩) 4 cp) (ints ((List.range 4).map (plc (cnts ws))))) := Lib.hid ((P6.out.below hba).keep_s SA GH2.out)
                    have B7 : Hid (Below w.heap.size w w7) := Lib.hid ((B6.out.alloc (o := .cells #[.int .u8 (b : Nat)] 5) B6.out.size).grown GH2.out (by rw [World.size_alloc]; omega) (by intro k' hk'; exact (ow.out.lt k' hk').1))
                    have lb7 : bl ≤ w7.heap.size := by have := GH2.out.size; rw [World.size_alloc] at this; omega
                    have HS7 := Lib.hid S7
                    clear hba SA S7 OH2 GH2 ow HONE h1c W6 D6 N6 P6 B6 S6 V6 lb6 kp pwu
                    have kp := own_cell P7.out (by simp [ints]) hx4
                    have e2 : ((List.range 4).map (plc (cnts ws))).getD x 0 = q := by rw [← HQ.out, hqx.out]; simp [hx4]
                    rw [ints_at, e2] at kp
                    have kd := own_cell D7.out (by rw [ints_len, HINV.out]) hqm
                    rw [ints_at, HY.out] at kd
                    have fd := own_frozen D7.out q
                    have pw : wrap64 ((y : Int) - 1) = (y : Int) - 1 := by unfold wrap64; omega
                    obtain ⟨dcur, hdcur⟩ := D7.out.block
                    have D8 : Hid (OwnI (w7.setCell ⟨dg, q, none⟩ (.int .i64 ((y : Int) - 1))) bl (.slice (some ⟨dg, 0, none⟩) m lc) (ints (seqL ws (k + 1)))) := Lib.hid (by
                      have h1 := D7.out.set (i := q) (by rw [ints_len, HINV.out]) hqm ((y : Int) - 1)
                      have e3 : seqL ws (k + 1) = dec (seqL ws k) q := by rw [← HQ.out]; rfl
                      rw [e3, ints_dec (by rw [HY.out]; exact hy0), HY.out]
                      exact h1)
                    have W8 : Hid (OwnI (w7.setCell ⟨dg, q, none⟩ (.int .i64 ((y : Int) - 1))) (cb + 1) (.slice (some ⟨wg, 0, none⟩) i c) (ints ((qsl ws).take (k + 1) ++ ws.drop (k + 1)))) := Lib.hid (ownsRow_setCell_other W7.out (a := ⟨dg, q, none⟩) (fun e => by have e' : wg = dg := Option.some.inj e; omega) _)
                    have N8 : Hid (OwnI (w7.setCell ⟨dg, q, none⟩ (.int .i64 ((y : Int) - 1))) bq (.slice an m cn) (ints (nums (cnts ws)))) := Lib.hid (ownsRow_setCell_other N7.out (a := ⟨dg, q, none⟩) (fun e => by have := (HNB.out dg e).2; omega) _)
                    have P8 : Hid (OwnI (w7.setCell ⟨dg, q, none⟩ (.int .i64 ((y : Int) - 1))) bq (.slice (some ⟨pg, 0, none⟩) 4 cp) (ints ((List.range 4).map (plc (cnts ws))))) := Lib.hid (ownsRow_setCell_other P7.out (a := ⟨dg, q, none⟩) (fun e => by have e' : pg = dg := Option.some.inj e; omega) _)
                    have S8 : Hid (OwnS (w7.setCell ⟨dg, q, none⟩ (.int .i64 ((y : Int) - 1))) w.heap.size (.slice va (k + 1) vc) ((List.range (k + 1)).map (atk ws))) := Lib.hid (ownsRow_setCell_other HS7.out (a := ⟨dg, q, none⟩) (fun e => by have := HS7.out.type e hdcur; cases this) _)
                    have B8 : Hid (Below w.heap.size w (w7.setCell ⟨dg, q, none⟩ (.int .i64 ((y : Int) - 1)))) := Lib.hid (B7.out.setCell (p := ⟨dg, q, none⟩) (by show w.heap.size ≤ dg; omega) _)
                    have lb8 : bl ≤ (w7.setCell ⟨dg, q, none⟩ (.int .i64 ((y : Int) - 1))).heap.size := by simp [World.setCell]; exact lb7
                    clear e2 hdcur W7 D7 N7 P7 B7 HS7 lb7
                    go_wp2
                    go_roundw
                    case rel => exact ⟨k + 1, va, vc, by omega, by go_num, rfl, S8, W8, D8, N8, P8, B8, lb8⟩
                    case measure => simp [intOf]; omega
              · have hki : k = i := by omega
                have hqlen : (qsl ws).length = i := by rw [← HWL.out]; simp [qsl]
                have W9 : Hid (OwnI wr (cb + 1) (.slice a i c) (ints (qsl ws))) := Lib.hid (by
                  have h1 := HW.out
                  rw [hki, List.take_of_length_le (by omega), List.drop_of_length_le (by rw [HWL.out]; exact Nat.le_refl _), List.append_nil] at h1
                  exact h1)
                have S9 : Hid (SlS wr sa i sc ((List.range i).map (atk ws))) := Lib.hid (by
                  have h1 := HS.out
                  rw [hki] at h1
                  exact h1.sl (by simp))
                subst hki
                have hE := every_ord ws HW4.out ws.length 0 (by omega) (-1)
                rw [HWL.out] at hE
                have hsum : (nums (cnts ws)).sum = k := by rw [nums_sum, cnts_sum ws HW4.out, HWL.out]
                have HE : Hid (ord ((List.range k).map (atk ws)) (k : Nat) (nums (cnts ws)).sum (nums (cnts ws)) (-1) [] = (qsl ws, 0)) := Lib.hid (by rw [hsum]; exact hE)
                have HSM := Lib.hid hsum
                have HQL := Lib.hid hqlen
                have HA4 : Hid (∀ t, ((List.range k).map (atk ws)).getD t 0 < 256) := Lib.hid (fun t => by
                  by_cases h : t < k
                  · have : ((List.range k).map (atk ws)).getD t 0 = atk ws t := by simp [h]
                    rw [this]
                    have := atk_lt ws HW4.out (k := t) (by rw [HWL.out]; exact h)
                    omega
                  · rw [List.getD_eq_getElem?_getD, List.getElem?_eq_none (by simp; omega)]; simp)
                have HPO : Hid (∀ t, t < m → 0 < (nums (cnts ws)).getD t 0) := Lib.hid (fun t ht => nums_pos (by rw [HM.out]; exact ht))
                clear HS HW HD HP hE hsum hqlen
                go_wp2_with fail
                refine (crew_c an m cn (ints (nums (cnts ws))) wr (HN.out.sl (by rw [ints_len, HM.out])) (by omega)).mono ?_
                rintro e w2 ⟨C, la2, lc2, rfl, hC, hP, hO⟩
                have CP := Lib.hid hP; have CO := Lib.hid hO; have HC2 := Lib.hid hC
                clear hP hO hC
                go_wp2_with fail
                refine (crun_c wr (wr.heap.size + 1) C la2 m lc2 (nums (cnts ws)) sa k sc ((List.range k).map (atk ws)) (k : Nat) w2 rfl CP.out CO.out HC2.out HM.out HPO.out (by omega) (by have := HSM.out; omega) S9.out HA4.out (by omega)).mono ?_
                rintro e w3 ⟨bw, u, L', rfl, hI⟩
                rw [HE.out] at hI ⊢
                obtain ⟨hbel, _, ⟨vo, hvo, hown, _⟩, _⟩ := hI
                have B9 := Lib.hid (HB.out.trans (hbel.mono HB.out.size))
                obtain ⟨oa, oc, rfl⟩ := hown.slice
                have hql : (ints (qsl ws, (0 : Int)).1).length = k := by rw [ints_len]; exact HQL.out
                rw [hql] at hvo hown
                have kv := cell_of_one hvo
                have LG : Hid (SlI w3 oa k oc (ints (qsl ws))) := Lib.hid (hown.sl hql)
                have WG : Hid (SlI w3 a k c (ints (qsl ws))) := Lib.hid ((W9.out.sl (by rw [ints_len]; exact HQL.out)).below hbel)
                have hq3 : ((qsl ws, (0 : Int)).1.length : Int) = (k : Int) := by rw [show (qsl ws, (0 : Int)).1 = qsl ws from rfl, HQL.out]
                rw [hq3]
                clear hbel hvo hown hql hq3 CP CO W9 S9
                go_wp2_with fail
                refine (same_c oa k oc (ints (qsl ws)) a k c (ints (qsl ws)) w3 LG.out WG.out).mono ?_
                rintro e w4' ⟨rfl, hb4⟩
                rw [decide_eq_true rfl]
                have B10 := Lib.hid (B9.out.trans (hb4.mono B9.out.size))
                clear hb4
                go_wp2
                refine bodyPost_ret (results_tmp rfl _ _ _) rfl ?_
                exact ⟨rfl, B10.out⟩

end Go.Proofs.Ytigokfcoofbdlaa
