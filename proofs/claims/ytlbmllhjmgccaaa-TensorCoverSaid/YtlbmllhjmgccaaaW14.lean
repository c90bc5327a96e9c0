/- Walks of layer 11: small, few; the statement TensorWindows. -/
import Derived.Test.YtlbmllhjmgccaaaW11
import Derived.Test.YtlbmllhjmgccaaaW13
import Derived.Laws.AppendOwnNone
import Derived.Deep.DeepMust
namespace Go.Proofs.Ytlbmllhjmgccaaa
open Go.RowKit
set_option linter.unusedVariables false
/-- a kernel in memory -/
structure KerCells (w : World) (B : Nat) (v : Value) (kh kw st pad : Int) : Prop where
  c0 : w.cell? ⟨B, 0, none⟩ = some v
  c1 : w.cell? ⟨B, 1, none⟩ = some (.int .i64 kh)
  c2 : w.cell? ⟨B, 2, none⟩ = some (.int .i64 kw)
  c3 : w.cell? ⟨B, 3, none⟩ = some (.int .i64 st)
  c4 : w.cell? ⟨B, 4, none⟩ = some (.int .i64 pad)
theorem KerCells.below {w w' : World} {B B' : Nat} {v : Value} {kh kw st pad : Int} (h : KerCells w B v kh kw st pad) (hb : Below B' w w') (hB : B < B') : KerCells w' B v kh kw st pad :=
  ⟨(hb.cell hB).trans h.c0, (hb.cell hB).trans h.c1, (hb.cell hB).trans h.c2, (hb.cell hB).trans h.c3, (hb.cell hB).trans h.c4⟩
theorem KerCells.new (w : World) (v : Value) (kh kw st pad : Int) (T : TypeId) : KerCells (w.alloc (.cells #[v, .int .i64 kh, .int .i64 kw, .int .i64 st, .int .i64 pad] T)) w.heap.size v kh kw st pad := by
  constructor <;> simp [World.cell?_alloc_new]
def smallB (l : List Int) (kh kw : Int) : Bool := decide (szv l ≤ 100 ∧ kh ≤ 70 ∧ kw ≤ 70)

set_option maxHeartbeats 400000 in
theorem small_c (a : Option Addr) (len cap : Nat) (l : List Int) (kh kw st pad : Int) (w : World) (h : Sl w a len l) :
    Calls Try.prog 22 #[.agg #[.slice a len cap, .int .i64 kh, .int .i64 kw, .int .i64 st, .int .i64 pad]] w fun e w' => e = .returned (.bool (smallB l kh kw)) ∧
      w.alloc (.cells #[.slice a len cap, .int .i64 kh, .int .i64 kw, .int .i64 st, .int .i64 pad] 38) = w' := by
  have H := Lib.hid (h.alloc (.cells #[.slice a len cap, .int .i64 kh, .int .i64 kw, .int .i64 st, .int .i64 pad] 38))
  clear h
  by_cases h1 : szv l ≤ 100
  · by_cases h2 : kh ≤ 70
    · by_cases h3 : kw ≤ 70
      · have hz : Hid (smallB l kh kw = true) := Lib.hid (by simp [smallB]; omega)
        go_enter Try.func22, Try.ntmps22
        go_wp2_with (go_at_call 15; refine (rsize_c _ _ _ l _ H.out).mono ?_; rintro e w' ⟨rfl, rfl⟩)
        go_ret
        exact ⟨ret_bool hz.out.symm, rfl⟩
      · have hz : Hid (smallB l kh kw = false) := Lib.hid (by simp [smallB]; omega)
        have hd : decide (kw ≤ 70) = false := by simpa using h3
        go_enter Try.func22, Try.ntmps22
        go_wp2_with (go_at_call 15; refine (rsize_c _ _ _ l _ H.out).mono ?_; rintro e w' ⟨rfl, rfl⟩)
        go_ret
        exact ⟨ret_bool hz.out.symm, rfl⟩
    · have hz : Hid (smallB l kh kw = false) := Lib.hid (by simp [smallB]; omega)
      have hd : decide (kh ≤ 70) = false := by simpa using h2
      go_enter Try.func22, Try.ntmps22
      go_wp2_with (go_at_call 15; refine (rsize_c _ _ _ l _ H.out).mono ?_; rintro e w' ⟨rfl, rfl⟩)
      go_ret
      exact ⟨ret_bool hz.out.symm, rfl⟩
  · have hz : Hid (smallB l kh kw = false) := Lib.hid (by simp [smallB]; omega)
    have hd : decide (szv l ≤ 100) = false := by simpa using h1
    go_enter Try.func22, Try.ntmps22
    go_wp2_with (go_at_call 15; refine (rsize_c _ _ _ l _ H.out).mono ?_; rintro e w' ⟨rfl, rfl⟩)
    go_ret
    exact ⟨ret_bool hz.out.symm, rfl⟩

/-- a slice of ints that came in, nil ones too -/
def RowIn (w : World) (a : Option Addr) (len cap : Nat) (zs : List Int) : Prop := (a = none ∧ len = 0 ∧ cap = 0 ∧ zs = []) ∨
    ∃ x, a = some x ∧ len ≤ cap ∧ cap ≤ maxLen ∧ zs.length = cap ∧ (∀ i, i < zs.length → w.cell? (x.add i) = some (.int .i64 (zs.getD i 0))) ∧ ∀ n ∈ zs, (Lit.int .i64 n).wf = true
theorem block_add (x : Addr) (i : Nat) : (x.add i).block = x.block := by unfold Addr.add; split <;> rfl
theorem RowIn.below {w w' : World} {a : Option Addr} {len cap : Nat} {zs : List Int} (h : RowIn w a len cap zs) (hb : Below w.heap.size w w') : RowIn w' a len cap zs := by
  rcases h with h | ⟨x, h1, h2, h3, h4, h5, h6⟩
  · exact .inl h
  · exact .inr ⟨x, h1, h2, h3, h4, fun i hi => (hb.cell (World.block_lt_of_cell? w _ (h5 i hi))).trans (h5 i hi), h6⟩
/-- 'append([]int{}, xs...)': a copy of the call's own -/
theorem wpList_copy_row {w : World} {ops : Array Oper} {rest : List Oper} {o : Oper} {a : Act} {Q : Exit → Act → World → Prop} (hgd : o.guard = none) (s x : Operand)
    (ho : o.op = .call { callee := .builtin .append, args := #[s, x], argTypes := #[22, 22] }) (base g : Nat) (hs : a.eval s = .slice (some ⟨g, 0, none⟩) 0 0)
    (hown : w.ownsRow base 3 1 (.slice (some ⟨g, 0, none⟩) 0 0) 0 []) (ad : Option Addr) (len cap : Nat) (zs : List Int) (hx : a.eval x = .slice ad len cap) (hr : RowIn w ad len cap zs) (hreach : len * 8 ≤ 140737488351232) (hbase : base ≤ w.heap.size)
    (h : ∀ v' w', w'.ownsRow base 3 1 v' len ((zs.take len).map (Value.int .i64)) → w.grownBy w' (some g) → wpList Try.prog ops Q rest (a.put o.dst v') w') : wpList Try.prog ops Q (o :: rest) a w := by
  obtain ⟨j0, hj, hy0, hy1, hy2⟩ := info_parts Try.info3
  rcases hr with ⟨rfl, rfl, rfl, rfl⟩ | ⟨y, rfl, h2, h3, h4, h5, h6⟩
  · exact wpList_append_own_none hgd s x 22 ho base 3 j0 1 Try.underlying22 hj _ 0 [] hs hown hx (h _ _ (by simpa using hown) (World.grownBy.refl _ _))
  · refine wpList_append_own _ hgd s x 22 ho base 3 j0 (.int .i64 0) 1 8 Try.underlying22 hj hy0 hy1 hy2 rfl (by decide) _ 0 [] hs hown y len cap ((zs.take len).map (Value.int .i64)) hx ?_ ?_ ?_ ?_ ?_ hbase ?_
    · simp; omega
    · intro j u hu
      simp only [List.getElem?_map, Option.map_eq_some_iff] at hu
      obtain ⟨n, hn, rfl⟩ := hu
      rw [List.getElem?_take] at hn
      split at hn
      · have hjz : j < zs.length := (List.getElem?_eq_some_iff.1 hn).1
        rw [h5 j hjz]; simp [List.getD_eq_getElem?_getD, hn]
      · simp at hn
    · intro u hu; rw [List.mem_map] at hu; obtain ⟨n, _, rfl⟩ := hu; rfl
    · unfold maxLen at h3 ⊢; omega
    · omega
    · intro v' w' h7 h8 _
      exact h v' w' (by simpa using h7) h8

/-- the same world but for draws -/
def Dr (w w' : World) : Prop := ∃ n, w' = w.drewN n
theorem Dr.cell {w w' : World} (h : Dr w w') (a : Addr) : w'.cell? a = w.cell? a := by obtain ⟨n, rfl⟩ := h; rfl
theorem Dr.sl {w w' : World} (h : Dr w w') {a : Option Addr} {len : Nat} {l : List Int} (s : Sl w a len l) : Sl w' a len l := by obtain ⟨n, rfl⟩ := h; exact s.drewN n
theorem Dr.more {w w' : World} (h : Dr w w') (n : Nat) : Dr w (w'.drewN n) := by obtain ⟨m, rfl⟩ := h; exact ⟨m + n, by simp⟩
theorem Dr.below {w w' : World} (h : Dr w w') {B : Nat} {w0 : World} (hb : Below B w0 w) : Below B w0 w' := by obtain ⟨n, rfl⟩ := h; exact below_dN hb n
theorem own_len {w : World} {base : Nat} {e : TypeId} {v : Value} {n : Nat} {xs : List Value} (h : w.ownsRow base e 1 v n xs) : n ≤ 9223372036854775807 := by
  rcases h.2 with ⟨_, rfl⟩ | ⟨g, cap, cur, _, _, _, h1, h2, _⟩
  · omega
  · unfold maxLen at h2; omega
theorem vals_at {w : World} {base base' : Nat} {va : Option Addr} {vc m k : Nat} {vs : List Value} {ws : List (List Int)} {x : List Int} (ho : w.ownsRow base 22 1 (.slice va m vc) m vs) (hv : Vals w base' vs ws) (hm : vs.length = m) (hk : k < m) (hx : ws[k]? = some x)
    (hl : x.length ≤ 67108864) (hb : ∀ n ∈ x, -9223372036854775808 ≤ n ∧ n ≤ 9223372036854775807) :
    ∃ g ka kc, va = some ⟨g, 0, none⟩ ∧ w.cell? ⟨g, k, none⟩ = some (.slice ka x.length kc) ∧ Sl w ka x.length x := by
  obtain ⟨g, rfl⟩ : ∃ g, va = some ⟨g, 0, none⟩ := by
    rcases ho.2 with ⟨_, h0⟩ | ⟨g, cap, cur, h0, _⟩
    · omega
    · simp at h0; exact ⟨g, h0.1⟩
  have hvk : vs[k]? = some (vs[k]'(by omega)) := List.getElem?_eq_getElem (by omega)
  obtain ⟨ka, kc, e, s⟩ := Sl.ofOwns (hv.2 k _ _ hvk hx) (by omega) hb
  refine ⟨g, ka, kc, rfl, ?_, s⟩
  rw [ho.cellAt k (by omega), hvk, e]

set_option maxHeartbeats 1600000 in
set_option maxRecDepth 100000 in
theorem law_windows (a : Option Addr) (len cap : Nat) (zs : List Int) (kh kw st pad : Int) (w : World) (h : RowIn w a len cap zs) (hreach : len * 8 ≤ 140737488351232) :
    Calls Try.prog 8 #[.agg #[.slice a len cap, .int .i64 kh, .int .i64 kw, .int .i64 st, .int .i64 pad]] w fun e w' => e = .returned (.bool true) ∧ Below w.heap.size w w' := by
  have HSL := Lib.hid (isRow_sl h)
  have HR := Lib.hid h; clear h
  obtain ⟨l, hl⟩ : ∃ l, l = zs.take len := ⟨_, rfl⟩
  rw [← hl] at HSL
  have HLL := Lib.hid hl; clear hl
  have hk := KerCells.new w (.slice a len cap) kh kw st pad 38
  have hbA : Below w.heap.size w (w.alloc (.cells #[.slice a len cap, .int .i64 kh, .int .i64 kw, .int .i64 st, .int .i64 pad] 38)) := (Below.refl _ _).alloc (Nat.le_refl _) _
  have hsA : (w.alloc (.cells #[.slice a len cap, .int .i64 kh, .int .i64 kw, .int .i64 st, .int .i64 pad] 38)).heap.size = w.heap.size + 1 := by simp
  go_enter Try.func8, Try.ntmps8
  go_wp2_with fail
  obtain ⟨wa, hwa⟩ : ∃ wa, wa = w.alloc (.cells #[.slice a len cap, .int .i64 kh, .int .i64 kw, .int .i64 st, .int .i64 pad] 38) := ⟨_, rfl⟩
  rw [← hwa] at hk hbA hsA ⊢
  clear hwa
  refine (awake_c _).mono ?_
  rintro e w1 ⟨rfl, hb⟩
  have hb1 : Below (w.heap.size + 1) wa w1 := hb.mono (by omega)
  have hk1 := hk.below hb1 (by omega)
  have hbw := hbA.trans (hb1.mono (by omega))
  have hsz1 : w.heap.size + 1 ≤ w1.heap.size := by have := hb1.size; omega
  clear hb hk hbA hb1 hsA
  have H1 := Lib.hid (HSL.out.below hbw)
  obtain ⟨q0, q1, q2, q3, q4⟩ := hk1
  go_wp2_with fail
  refine (small_c _ _ _ l _ _ _ _ _ H1.out).mono ?_
  rintro e w2 ⟨rfl, hw2⟩
  have hk2 : KerCells w2 w.heap.size (.slice a len cap) kh kw st pad := hw2 ▸ KerCells.below ⟨q0, q1, q2, q3, q4⟩ ((Below.refl _ _).alloc (by omega) _) (by omega)
  have hbw2 : Below w.heap.size w w2 := hw2 ▸ hbw.alloc hbw.size _
  have hsz2 : w.heap.size + 1 ≤ w2.heap.size := by rw [← hw2]; simp; omega
  clear hw2 q0 q1 q2 q3 q4 hbw H1 hsz1
  by_cases hsm : smallB l kh kw = false
  · go_wp2_with fail
    refine (awake_c _).mono ?_
    rintro e w3 ⟨rfl, hb⟩
    go_wp2_with fail
    go_ret
    exact ⟨rfl, hbw2.trans (hb.mono hbw2.size)⟩
  · have hsm : smallB l kh kw = true := by simpa using hsm
    obtain ⟨q0, q1, q2, q3, q4⟩ := hk2
    have hbC : Below w.heap.size w (w2.alloc (.cells #[] 3)) := hbw2.alloc hbw2.size _
    have HR2 := Lib.hid (HR.out.below hbC)
    have HO := Lib.hid (World.ownsRow_lit (base := w.heap.size + 1) (e := 3) (size := 1) w2 #[] 0 hsz2 (by decide) (by simp))
    obtain ⟨z0, _, _, _, _⟩ := KerCells.below ⟨q0, q1, q2, q3, q4⟩ ((Below.refl (w.heap.size + 1) w2).alloc hsz2 (.cells #[] 3)) (by omega)
    go_wp2_with (at_builtin; (refine wpList_copy_row rfl _ _ rfl (w.heap.size + 1) w2.heap.size rfl HO.out _ _ _ zs rfl HR2.out hreach (by simp; omega) ?_))
    intro v3 w3 hown0 hgrow
    have hown : w3.ownsRow (w.heap.size + 1) 3 1 v3 len (l.map (Value.int .i64)) := by rw [HLL.out]; simpa using hown0
    clear hown0
    have hbel : Below (w.heap.size + 1) w2 w3 := ((Below.refl _ _).alloc hsz2 _).grown hgrow (by simp; omega) (fun k hk => by simp at hk; omega)
    have hk3 := KerCells.below ⟨q0, q1, q2, q3, q4⟩ hbel (by omega)
    have hbw3 := hbw2.trans (hbel.mono (by omega))
    have hsz3 : w.heap.size + 1 ≤ w3.heap.size := by have := hbel.size; omega
    have hll : l.length = len := HSL.out.1
    rw [← hll] at hown
    obtain ⟨va, vc, rfl, hs3⟩ := Sl.ofOwns hown (by omega) HSL.out.2.2.1
    rw [hll] at hs3 ⊢
    clear hll
    clear z0 q0 q1 q2 q3 q4 hgrow hown HO HR2 hbC hbel hbw2 hsz2
    obtain ⟨q0, q1, q2, q3, q4⟩ := hk3
    have HS3 := Lib.hid hs3; clear hs3
    go_wp2_with fail
    refine (windows_c _ _ _ _ _ _ _ _ _ HS3.out).mono ?_
    rintro e w4 ⟨v, vs, rfl, hown, hvs, hb⟩
    have hk4 := KerCells.below ⟨q0, q1, q2, q3, q4⟩ hb (by omega)
    have hbw4 := hbw3.trans (hb.mono (by omega))
    have hsz4 : w.heap.size + 1 ≤ w4.heap.size := by have := hb.size; omega
    have HS4 := Lib.hid (HS3.out.below hb)
    have HL4 := Lib.hid (HSL.out.below hbw4)
    clear q0 q1 q2 q3 q4 HS3 hbw3 hb
    obtain ⟨q0, q1, q2, q3, q4⟩ := hk4
    go_wp2_with fail
    refine (rwindows_c _ _ _ _ _ _ _ _ _ HL4.out).mono ?_
    rintro e w5 ⟨v', vs', rfl, hown', hvs', hb⟩
    have hk5 := KerCells.below ⟨q0, q1, q2, q3, q4⟩ hb (by omega)
    have hbw5 := hbw4.trans (hb.mono (by omega))
    have HS5 := Lib.hid (HS4.out.below hb)
    have HL5 := Lib.hid (HL4.out.below hb)
    have hown5 := own_below hown hb
    have hvs5 := hvs.below hb
    clear q0 q1 q2 q3 q4 HS4 HL4 hbw4 hb hown hvs
    obtain ⟨q0, q1, q2, q3, q4⟩ := hk5
    obtain ⟨m, hm⟩ : ∃ m, vs.length = m := ⟨_, rfl⟩
    have hm' : vs'.length = m := by rw [hvs'.1, ← hvs5.1, hm]
    obtain ⟨xa, xc, rfl⟩ := own_slice hown5
    obtain ⟨ya, yc, rfl⟩ := own_slice hown'
    rw [hm] at hown5
    rw [hm'] at hown'
    rw [hm, hm']
    have hml : m ≤ 9223372036854775807 := own_len hown5
    have HM := Lib.hid hm
    have HM' := Lib.hid hm'
    clear hm hm'
    have he : eqB l l = true := by simp [eqB]
    go_wp2_with (go_at_call 20; refine (ints_c _ _ _ _ _ _ _ _ _ HS5.out HL5.out).mono ?_; rintro e w6 ⟨rfl, n6, rfl⟩)
    clear q0 q1 q2 q3 q4 he
    go_loopw [12] (fun s wr => ∃ (k : Nat), k ≤ m ∧ s = .int .i64 k ∧ Dr w5 wr) (fun s _ => m - (intOf s).toNat)
    case atStart => exact ⟨0, by omega, rfl, _, rfl⟩
    case round =>
      obtain ⟨k, hk, rfl, hdr⟩ := hrel
      by_cases hlt : k < m
      · obtain ⟨x, hx⟩ : ∃ x, (winRes l kh kw st pad).1[k]? = some x := ⟨_, List.getElem?_eq_getElem (by rw [← hvs5.1, HM.out]; exact hlt)⟩
        obtain ⟨g1, ka, kc, rfl, hc1, s1⟩ := vals_at hown5 hvs5 HM.out hlt hx (wins_bd (List.mem_of_getElem? hx)).1 (wins_bd (List.mem_of_getElem? hx)).2
        obtain ⟨g2, la, lc, rfl, hc2, s2⟩ := vals_at hown' hvs' HM'.out hlt hx (wins_bd (List.mem_of_getElem? hx)).1 (wins_bd (List.mem_of_getElem? hx)).2
        have hxx : eqB x x = true := by simp [eqB]
        have S1 := Lib.hid (hdr.sl s1)
        have S2 := Lib.hid (hdr.sl s2)
        rw [← hdr.cell] at hc1 hc2
        clear s1 s2 hown5 hown' hvs5 hvs' hx
        go_wp2_with fail
        go_quiet ((go_at_call 20; exact Calls.quiet_of (ints_c _ _ _ _ _ _ x x _ (S1.out.drewN _) (S2.out.drewN _))))
        go_wp2
        go_roundw
        case rel => exact ⟨k + 1, by omega, by go_num, hdr.more _⟩
        case measure => simp [intOf]; omega
      · have hkm : k = m := by omega
        subst hkm
        go_wp2
        go_ret
        exact ⟨ret_bool rfl, hdr.below hbw5⟩
end Go.Proofs.Ytlbmllhjmgccaaa
