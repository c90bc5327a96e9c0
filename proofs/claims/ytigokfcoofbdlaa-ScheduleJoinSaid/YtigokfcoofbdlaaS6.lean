/- The reference in terms of the order of steps. -/
import Derived.Test.YtigokfcoofbdlaaS5
namespace Go.Proofs.Ytigokfcoofbdlaa
open Go.RowKit
set_option linter.unusedVariables false

/-- a slice of bytes that reads as S -/
def SlS (w : World) (ad : Option Addr) (n cap : Nat) (S : List Nat) : Prop :=
  S.length = n ∧ n ≤ cap ∧ cap ≤ 9223372036854775807 ∧ (n = 0 ∨ ∃ b off, ad = some ⟨b, off, none⟩ ∧ b < w.heap.size ∧ ∀ i, i < n → w.cell? ⟨b, off + i, none⟩ = some (.int .u8 (S.getD i 0 : Nat)))
theorem SlS.below {w w' : World} {ad : Option Addr} {n cap : Nat} {S : List Nat} (h : SlS w ad n cap S) (hb : Below w.heap.size w w') : SlS w' ad n cap S := by
  obtain ⟨h1, h2, h3, h4⟩ := h
  refine ⟨h1, h2, h3, ?_⟩
  rcases h4 with h4 | ⟨b, off, e, hlt, hc⟩
  · exact .inl h4
  · exact .inr ⟨b, off, e, Nat.lt_of_lt_of_le hlt hb.size, fun i hi => (hb.cell (p := ⟨b, off + i, none⟩) hlt).trans (hc i hi)⟩
theorem SlI.src {w : World} {x : Addr} {n cap : Nat} {l : List Int} (h : SlI w (some x) n cap l) : ∀ j u, (ivals l)[j]? = some u → w.cell? (x.add j) = some u := by
  intro j u hu
  have hj : j < l.length := by
    rcases Nat.lt_or_ge j l.length with h | h
    · exact h
    · rw [List.getElem?_eq_none (by simpa using h)] at hu; cases hu
  obtain ⟨h1, _, _, h4⟩ := h
  rcases h4 with h4 | ⟨b, off, e, _, hc⟩
  · omega
  · cases e
    rw [iv_at hj] at hu
    cases hu
    rw [Addr.add_mid]
    exact hc j (by omega)
theorem wpList_append_il {w : World} {ops : Array Oper} {rest : List Oper} {o : Oper} {a : Act} {Q : Exit → Act → World → Prop} (hgd : o.guard = none) (s x : Operand)
    (ho : o.op = .call { callee := .builtin .append, args := #[s, x], argTypes := #[22, 22] }) (base : Nat) (v : Value) (nn : Nat) (xs : List Value) (hs : a.eval s = v) (hown : w.ownsRow base 3 1 v nn xs)
    (ad : Option Addr) (n cap : Nat) (l : List Int) (hx : a.eval x = .slice ad n cap) (hsl : SlI w ad n cap l) (hz : ad = none → n = 0 ∧ cap = 0) (hb : nn + n ≤ 8796093022208) (hbase : base ≤ w.heap.size)
    (h : ∀ v' w', w'.ownsRow base 3 1 v' (nn + n) (xs ++ ivals l) → w.grownBy w' v.ownBlock → wpList Try.prog ops Q rest (a.put o.dst v') w') : wpList Try.prog ops Q (o :: rest) a w := by
  obtain ⟨i0, hi, hz0, hz1, hz2⟩ := info_parts info3z
  cases ad with
  | none =>
    obtain ⟨rfl, rfl⟩ := hz rfl
    obtain rfl : l = [] := List.eq_nil_of_length_eq_zero hsl.1
    refine wpList_append_own_none hgd s x 22 ho base 3 i0 1 Try.underlying22 hi v nn xs hs hown hx ?_
    refine h v w ?_ ⟨rfl, rfl, rfl, Nat.le_refl _, fun _ _ _ => rfl⟩
    simpa using hown
  | some y =>
    exact wpList_append_own w hgd s x 22 ho base 3 i0 (.int .i64 0) 1 8 Try.underlying22 hi hz0 hz1 hz2 rfl (by decide) v nn xs hs hown y n cap (ivals l) hx (by simp [hsl.1]) hsl.src iv_one (by unfold maxLen; omega) (by omega) hbase (fun v' w' h1 h2 _ => h v' w' h1 h2)
theorem OwnI.le {w : World} {base base' : Nat} {v : Value} {l : List Int} (h : OwnI w base v l) (hb : base' ≤ base) : OwnI w base' v l :=
  ⟨h.1, h.2.elim Or.inl (fun ⟨g, cap, cur, hv, hg, r⟩ => Or.inr ⟨g, cap, cur, hv, Nat.le_trans hb hg, r⟩)⟩
theorem getD_le_sum : ∀ (L : List Nat) (i : Nat), L.getD i 0 ≤ L.sum
  | [], i => by simp
  | x :: L, 0 => by simp
  | x :: L, i + 1 => by have := getD_le_sum L i; simp at this ⊢; omega
theorem own_some {w : World} {base n c : Nat} {a : Option Addr} {l : List Int} (h : OwnI w base (.slice a n c) l) (hn : 0 < n) : ∃ g, a = some ⟨g, 0, none⟩ := by
  rcases h.2 with ⟨hv, _⟩ | ⟨g, cap, cur, hv, _⟩
  · injection hv with e1 e2 e3; omega
  · injection hv with e1; exact ⟨g, e1⟩
theorem own_cell {w : World} {base g n c i : Nat} {l : List Int} (h : OwnI w base (.slice (some ⟨g, 0, none⟩) n c) l) (hl : l.length = n) (hi : i < n) : w.cell? ⟨g, i, none⟩ = some (.int .i64 (l.getD i 0)) := by
  have := World.ownsRow.cells h (g := g) rfl i _ (iv_at (by omega))
  rw [Addr.add_mid, Nat.zero_add] at this
  exact this
theorem own_frozen {w : World} {base g n c : Nat} {l : List Int} (h : OwnI w base (.slice (some ⟨g, 0, none⟩) n c) l) (i : Nat) : w.frozen? ⟨g, i, none⟩ = false := by
  rcases h.2 with ⟨hv, _⟩ | ⟨g', cap, cur, hv, _, hh, _⟩
  · cases hv
  · injection hv with e1; cases e1
    exact frozen_of_row w g i cur 3 hh
set_option maxHeartbeats 2000000 in
set_option maxRecDepth 100000 in
theorem refOrder_c (a0 : Option Addr) (n c0 : Nat) (L : List Nat) (a1 : Option Addr) (n1 c1 : Nat) (S : List Nat) (most : Int) (w : World) (h0 : SlI w a0 n c0 (ints L)) (z0 : a0 = none → n = 0 ∧ c0 = 0) (hL : L.length = n)
    (hpos : ∀ i, i < n → 0 < L.getD i 0) (hn : n ≤ 12) (hsum : L.sum ≤ 600) (h1 : SlS w a1 n1 c1 S) (hS : ∀ i, S.getD i 0 < 256) (hm : 0 ≤ most) :
    Calls Try.prog 12 #[.slice a0 n c0, .slice a1 n1 c1, .int .i64 most] w fun e w' => ∃ v, e = .returned (.tuple #[v, .int .i64 (ord S most L.sum L (-1) []).2]) ∧ OwnI w' w.heap.size v (ints (ord S most L.sum L (-1) []).1) ∧ Below w.heap.size w w' := by
  obtain ⟨i0, hi, hz0, hz1, hz2⟩ := info_parts info3z
  have H0 := Lib.hid h0; clear h0
  have H1 := Lib.hid h1; clear h1
  have HP := Lib.hid hpos; clear hpos
  have HSB := Lib.hid hS; clear hS
  have HL := Lib.hid hL; clear hL
  have HZ := Lib.hid z0; clear z0
  obtain ⟨R, hR⟩ : ∃ R, ord S most L.sum L (-1) [] = R := ⟨_, rfl⟩
  rw [hR]
  have HR := Lib.hid hR; clear hR
  have HSm := Lib.hid hsum; clear hsum
  go_enter Try.func12, Try.ntmps12
  go_wp2
  go_loopw [8] (fun s wr => ∃ i : Nat, i ≤ n ∧ s = .int .i64 i ∧ w = wr) (fun s _ => n - (intOf s).toNat)
  case atStart => exact ⟨0, by omega, rfl, rfl⟩
  case round =>
    obtain ⟨i, hi2, rfl, rfl⟩ := hrel
    by_cases hlt : i < n
    · obtain ⟨p0, o0, rfl, hc0⟩ := H0.out.at (by omega)
      have k0 := hc0 i hlt
      clear hc0
      rw [ints_at] at k0
      have hp := HP.out i hlt
      obtain ⟨x, hx⟩ : ∃ y, L.getD i 0 = y := ⟨_, rfl⟩
      rw [hx] at k0 hp
      clear hx
      go_wp2
      go_roundw
      case rel => exact ⟨i + 1, by omega, by go_num, trivial⟩
      case measure => simp [intOf]; omega
    · have OH : Hid ((w.alloc (.cells #[] 3)).ownsRow w.heap.size 3 1 (.slice (some ⟨w.heap.size, 0, none⟩) 0 0) 0 []) := Lib.hid (World.ownsRow_made w #[] 0 (Nat.le_refl _) (by unfold maxLen; omega) rfl)
      go_wp2_with (at_builtin; refine wpList_append_il rfl (.tmp 27) (.tmp 28) rfl w.heap.size _ _ _ rfl OH.out a0 n c0 (ints L) rfl (H0.out.below ((Below.refl _ _).alloc (Nat.le_refl _) _)) HZ.out (by omega) (by rw [World.size_alloc]; omega) ?_; intro v1 w2 O1 G1; rw [Nat.zero_add, List.nil_append] at O1; have OA := Lib.hid O1; have BA : Hid (Below w.heap.size w w2) := Lib.hid (((Below.refl w.heap.size w).alloc (o := .cells #[] 3) (Nat.le_refl _)).grown G1 (by rw [World.size_alloc]; omega) (fun k hk => by have e' := Option.some.inj (show some w.heap.size = some k from hk); omega)); clear O1 G1)
      have ho : OwnI w2 w.heap.size v1 (ints L) := by have := OA.out; unfold OwnI; rwa [ints_len, HL.out]
      obtain ⟨la, lc, rfl⟩ := ho.slice
      rw [ints_len, HL.out] at ho ⊢
      have LBK := Lib.hid ho.lt
      have HO := Lib.hid ho
      clear ho OA OH
      have HR0 := Lib.hid HR.out
      obtain ⟨base, hbase⟩ : ∃ x, w2.heap.size = x := ⟨_, rfl⟩
      have HB := Lib.hid hbase
      rw [hbase] at LBK
      clear hbase
      have hwb : Hid (w.heap.size ≤ base) := Lib.hid (by rw [← HB.out]; exact BA.out.size)
      go_loopw [10, 11] (fun s10 s11 wr => ∃ (L' out : List Nat) (x : Int) (oa : Option Addr) (oc : Nat), s10 = .slice oa out.length oc ∧ s11 = .int .i64 x ∧ Hid (L'.length = n) ∧ Hid (L'.sum + out.length = L.sum) ∧ Hid (ord S most L'.sum L' x out = R) ∧ OwnI wr base (.slice oa out.length oc) (ints out) ∧ OwnI wr w.heap.size (.slice la n lc) (ints L') ∧ Below w.heap.size w wr ∧ base ≤ wr.heap.size) (fun s _ _ => 1000 - (match s with | .slice _ m _ => m | _ => 0))
      case atStart => exact ⟨L, [], -1, none, 0, rfl, rfl, Lib.hid HL.out, Lib.hid rfl, Lib.hid HR.out, ⟨rfl, .inl ⟨rfl, rfl⟩⟩, HO.out, BA.out, by rw [HB.out]; exact Nat.le_refl _⟩
      case round =>
        clear HO BA HR HR0
        obtain ⟨L', out, x, oa, oc, rfl, rfl, HL', HS', HRR, ho, hl, hb, hsz⟩ := hrel
        have OO := Lib.hid ho; clear ho
        have LL := Lib.hid hl; clear hl
        have BB := Lib.hid hb; clear hb
        have SL : Hid (SlI wr la n lc (ints L')) := Lib.hid (LL.out.sl (by rw [ints_len, HL'.out]))
        have hU : Hid (unfp (ints L') n = ints (unf L')) := Lib.hid (by rw [← HL'.out]; exact unfp_unf L')
        have hUn : Hid ((unf L').length ≤ n) := Lib.hid (by have := unf_len L'; rw [HL'.out] at this; exact this)
        go_wp2_with fail
        refine (unfinished_c la n lc (ints L') wr SL.out (by omega)).mono ?_
        rintro e w3 ⟨v, rfl, ho3, hb3⟩
        rw [hU.out] at ho3
        have B3 := Lib.hid hb3
        clear hb3
        obtain ⟨ua, uc, rfl⟩ := ho3.slice
        rw [ints_len] at ho3 ⊢
        clear ho3
        by_cases hu : unf L' = []
        · have hRe := HRR.out
          rw [ord_done hu] at hRe
          have hu0 : (unf L').length = 0 := by rw [hu]; rfl
          have OX := Lib.hid (OO.out.below B3.out)
          have BX := Lib.hid (BB.out.trans (B3.out.mono BB.out.size))
          rw [hu0]
          have HE := Lib.hid hRe
          clear hRe hu hu0
          go_wp2
          refine bodyPost_ret (results_tmp2 rfl _ _ _) rfl ?_
          refine ⟨_, by rw [← HE.out]; rfl, ?_, BX.out⟩
          rw [← HE.out]
          exact OX.out.le hwb.out
        · have hup : 0 < (unf L').length := List.length_pos_iff.2 hu
          by_cases hlim : (out.length : Int) = most
          · have hRe := HRR.out
            obtain ⟨f, hf⟩ : ∃ f, L'.sum = f + 1 := ⟨L'.sum - 1, by have := sum_pos hu; omega⟩
            rw [hf, ord_limit hu hlim] at hRe
            have OX := Lib.hid (OO.out.below B3.out)
            have BX := Lib.hid (BB.out.trans (B3.out.mono BB.out.size))
            have HE := Lib.hid hRe
            clear hRe hf
            go_wp2
            refine bodyPost_ret (results_tmp2 rfl _ _ _) rfl ?_
            refine ⟨_, by rw [← HE.out]; rfl, ?_, BX.out⟩
            rw [← HE.out]
            exact OX.out.le hwb.out
          · have L3 := Lib.hid (LL.out.below B3.out)
            have O3 := Lib.hid (OO.out.below B3.out)
            have S3 : Hid (SlI w3 la n lc (ints L')) := Lib.hid (L3.out.sl (by rw [ints_len, HL'.out]))
            have C3 := Lib.hid (BB.out.trans (B3.out.mono BB.out.size))
            have sz3 : Hid (base ≤ w3.heap.size) := Lib.hid (Nat.le_trans hsz B3.out.size)
            clear LL OO SL BB B3
            go_wp2_with fail
            refine (unfinished_c la n lc (ints L') w3 S3.out (by omega)).mono ?_
            rintro e w4 ⟨v, rfl, ho4, hb4⟩
            rw [hU.out] at ho4
            obtain ⟨va, vc, rfl⟩ := ho4.slice
            rw [ints_len] at ho4 ⊢
            have L4 := Lib.hid (L3.out.below hb4)
            have O4 := Lib.hid (O3.out.below hb4)
            have C4 := Lib.hid (C3.out.trans (hb4.mono C3.out.size))
            have sz4 : Hid (base ≤ w4.heap.size) := Lib.hid (Nat.le_trans sz3.out hb4.size)
            have U4 : Hid (SlI w4 va (unf L').length vc (ints (unf L'))) := Lib.hid (ho4.sl (by rw [ints_len]))
            clear ho4 hb4 L3 O3 S3 C3
            go_wp2_with fail
            refine (after_c va (unf L').length vc (ints (unf L')) x w4 U4.out hup).mono ?_
            rintro e w5 ⟨rfl, rfl⟩
            rw [aftI_ints]
            have hpm := pick_mem (S := S) (x := x) (out := out) hu
            obtain ⟨g, rfl⟩ : ∃ g, la = some ⟨g, 0, none⟩ := own_some L4.out (by have := hUn.out; omega)
            obtain ⟨p, hpk⟩ : ∃ p, pick S L' x out = p := ⟨_, rfl⟩
            have HPK := Lib.hid hpk
            rw [hpk] at hpm
            clear hpk
            have hpn : p < n := by have := (mem_unf.1 hpm).1; rw [HL'.out] at this; exact this
            have hpp : Hid (0 < L'.getD p 0) := Lib.hid (mem_unf.1 hpm).2
            have HPM := Lib.hid hpm
            clear hpm
            obtain ⟨y, hy⟩ : ∃ y, L'.getD p 0 = y := ⟨_, rfl⟩
            have hyl : y ≤ 600 := by have := getD_le_sum L' p; have := HS'.out; have := HSm.out; omega
            have HYY := Lib.hid hy
            clear hy
            have pw : wrap64 ((y : Int) - 1) = (y : Int) - 1 := by unfold wrap64; omega
            by_cases hsc : out.length < n1
            · obtain ⟨b1, o1, rfl, hc1⟩ : ∃ b off, a1 = some ⟨b, off, none⟩ ∧ ∀ i, i < n1 → w4.cell? ⟨b, off + i, none⟩ = some (.int .u8 (S.getD i 0 : Nat)) := by
                rcases (H1.out.below C4.out).2.2.2 with h | ⟨b, off, e, _, hc⟩
                · omega
                · exact ⟨b, off, e, hc⟩
              have ks := hc1 _ hsc
              obtain ⟨vb, vo, rfl, hcv⟩ := U4.out.at hup
              have hpe : p = (unf L').getD (S.getD out.length 0 % (unf L').length) 0 := by rw [← HPK.out]; unfold pick; rw [if_pos (by rw [H1.out.1]; exact hsc)]
              have kv := hcv _ (Nat.mod_lt (S.getD out.length 0) hup)
              rw [ints_at, ← hpe] at kv
              obtain ⟨sb, hsb⟩ : ∃ y, S.getD out.length 0 = y := ⟨_, rfl⟩
              rw [hsb] at ks kv
              have hsb2 : sb < 256 := by rw [← hsb]; exact HSB.out _
              have hkl := Nat.mod_lt sb hup
              clear hc1 hcv hpe hsb
              have ow : Hid (w4.ownsRow base 3 1 (.slice oa out.length oc) out.length (ivals (ints out))) := Lib.hid (by have := O4.out; unfold OwnI at this; rwa [ints_len] at this)
              go_wp2_with (at_builtin; refine wpList_append_own _ rfl (.tmp 61) (.tmp 63) 22 rfl base 3 i0 (.int .i64 0) 1 8 Try.underlying22 hi hz0 hz1 hz2 rfl (by decide) _ _ _ rfl (ow.out.alloc _) ⟨w4.heap.size, 0, none⟩ 1 1 [.int .i64 p] rfl rfl (one_newi rfl) one_celli (by have := HS'.out; have := HSm.out; unfold maxLen; omega) (by have := HS'.out; have := HSm.out; omega) (by rw [World.size_alloc]; have := sz4.out; omega) ?_; intro v2 w6 O2 G2 _; have OH2 := Lib.hid O2; have GH2 := Lib.hid G2; clear O2 G2; have L6 : Hid (OwnI w6 w.heap.size (.slice (some ⟨g, 0, none⟩) n lc) (ints L')) := Lib.hid ((L4.out.below ((Below.refl _ _).alloc (Nat.le_refl _) _)).grown GH2.out (fun k hk e => by have h1 := (ow.out.lt k hk).1; have h2 := (LBK.out k e).2; omega)); have kl := own_cell L6.out (by rw [ints_len, HL'.out]) hpn; rw [ints_at, HYY.out] at kl; have fl := own_frozen L6.out p)
              have C6 := Lib.hid ((C4.out.alloc (o := .cells #[.int .i64 p] 3) C4.out.size).grown GH2.out (by rw [World.size_alloc]; have := C4.out.size; omega) (by intro k hk; have := (ow.out.lt k hk).1; have := hwb.out; omega))
              have gb : Hid (w.heap.size ≤ g ∧ g < base) := Lib.hid (LBK.out g rfl)
              have hown : OwnI w6 base v2 (ints (out ++ [p])) := by rw [ints_append]; exact OwnI.push OH2.out (ints_len out)
              have hlen : (ints (out ++ [p])).length = out.length + 1 := by rw [ints_len, List.length_append]; rfl
              obtain ⟨ra, rc, rfl⟩ := hown.slice
              rw [hlen] at hown
              have hsd := sum_dec (show p < L'.length by rw [HL'.out]; exact hpn) hpp.out
              go_roundw
              case rel =>
                refine ⟨dec L' p, out ++ [p], p, ra, rc, by rw [hlen, List.length_append]; rfl, rfl, Lib.hid (by rw [dec_len]; exact HL'.out), Lib.hid (by rw [List.length_append]; have := HS'.out; simp; omega), Lib.hid ?_, ?_, ?_, ?_, ?_⟩
                · have hRe := HRR.out
                  rw [← hsd, ord_step hu hlim, HPK.out] at hRe
                  exact hRe
                · rw [List.length_append]; exact hown.other gb.out.2 _
                · rw [ints_dec hpp.out, HYY.out]; exact L6.out.set (by rw [ints_len, HL'.out]) hpn _
                · exact C6.out.setCell (p := ⟨g, p, none⟩) gb.out.1 _
                · have := GH2.out.size; rw [World.size_alloc] at this; have := sz4.out; simp; omega
              case measure => have := HS'.out; have := HSm.out; simp; omega
            · have hpe : p = aft (unf L') x := by rw [← HPK.out]; unfold pick; rw [if_neg (by rw [H1.out.1]; exact hsc)]
              rw [← hpe]
              clear hpe
              have ow : Hid (w4.ownsRow base 3 1 (.slice oa out.length oc) out.length (ivals (ints out))) := Lib.hid (by have := O4.out; unfold OwnI at this; rwa [ints_len] at this)
              go_wp2_with (at_builtin; refine wpList_append_own _ rfl (.tmp 61) (.tmp 63) 22 rfl base 3 i0 (.int .i64 0) 1 8 Try.underlying22 hi hz0 hz1 hz2 rfl (by decide) _ _ _ rfl (ow.out.alloc _) ⟨w4.heap.size, 0, none⟩ 1 1 [.int .i64 p] rfl rfl (one_newi rfl) one_celli (by have := HS'.out; have := HSm.out; unfold maxLen; omega) (by have := HS'.out; have := HSm.out; omega) (by rw [World.size_alloc]; have := sz4.out; omega) ?_; intro v2 w6 O2 G2 _; have OH2 := Lib.hid O2; have GH2 := Lib.hid G2; clear O2 G2; have L6 : Hid (OwnI w6 w.heap.size (.slice (some ⟨g, 0, none⟩) n lc) (ints L')) := Lib.hid ((L4.out.below ((Below.refl _ _).alloc (Nat.le_refl _) _)).grown GH2.out (fun k hk e => by have h1 := (ow.out.lt k hk).1; have h2 := (LBK.out k e).2; omega)); have kl := own_cell L6.out (by rw [ints_len, HL'.out]) hpn; rw [ints_at, HYY.out] at kl; have fl := own_frozen L6.out p)
              have C6 := Lib.hid ((C4.out.alloc (o := .cells #[.int .i64 p] 3) C4.out.size).grown GH2.out (by rw [World.size_alloc]; have := C4.out.size; omega) (by intro k hk; have := (ow.out.lt k hk).1; have := hwb.out; omega))
              have gb : Hid (w.heap.size ≤ g ∧ g < base) := Lib.hid (LBK.out g rfl)
              have hown : OwnI w6 base v2 (ints (out ++ [p])) := by rw [ints_append]; exact OwnI.push OH2.out (ints_len out)
              have hlen : (ints (out ++ [p])).length = out.length + 1 := by rw [ints_len, List.length_append]; rfl
              obtain ⟨ra, rc, rfl⟩ := hown.slice
              rw [hlen] at hown
              have hsd := sum_dec (show p < L'.length by rw [HL'.out]; exact hpn) hpp.out
              go_roundw
              case rel =>
                refine ⟨dec L' p, out ++ [p], p, ra, rc, by rw [hlen, List.length_append]; rfl, rfl, Lib.hid (by rw [dec_len]; exact HL'.out), Lib.hid (by rw [List.length_append]; have := HS'.out; simp; omega), Lib.hid ?_, ?_, ?_, ?_, ?_⟩
                · have hRe := HRR.out
                  rw [← hsd, ord_step hu hlim, HPK.out] at hRe
                  exact hRe
                · rw [List.length_append]; exact hown.other gb.out.2 _
                · rw [ints_dec hpp.out, HYY.out]; exact L6.out.set (by rw [ints_len, HL'.out]) hpn _
                · exact C6.out.setCell (p := ⟨g, p, none⟩) gb.out.1 _
                · have := GH2.out.size; rw [World.size_alloc] at this; have := sz4.out; simp; omega
              case measure => have := HS'.out; have := HSm.out; simp; omega

end Go.Proofs.Ytigokfcoofbdlaa
