/- Lists of clauses of one's own. -/
import Derived.Test.YtljgcjmelmpgoaaDoorQ33
import Derived.Test.YtljgcjmelmpgoaaDoorQ25
import Derived.Test.YtljgcjmelmpgoaaDoorQ16
namespace Go.Proofs.YtljgcjmelmpgoaaDoor
open Go.RowKit
set_option linter.unusedVariables false

theorem info24z : (Tryd.prog.info? 24).map (fun i => (i.zero, i.size, i.bytes)) = some (some (.slice none 0 0), 1, 24) := by kernel_rfl
/-- a list of clauses of one's own -/
def OwnC (w : World) (base : Nat) (v : Value) (K : List Cl) : Prop := w.ownsRow base 24 1 v K.length (K.map Cl.val)
theorem OwnC.slice {w : World} {base : Nat} {v : Value} {K : List Cl} (h : OwnC w base v K) : ∃ a c, v = .slice a K.length c := by
  rcases h.2 with ⟨rfl, h0⟩ | ⟨g, cap, cur, rfl, _⟩
  · exact ⟨_, 0, by rw [h0]⟩
  · exact ⟨_, _, rfl⟩
theorem OwnC.below {w w' : World} {base : Nat} {v : Value} {K : List Cl} (h : OwnC w base v K) (hb : Below w.heap.size w w') : OwnC w' base v K := by
  obtain ⟨h1, h2⟩ := h
  refine ⟨h1, ?_⟩
  rcases h2 with h2 | ⟨g, cap, cur, hv, hg, hh, r⟩
  · exact .inl h2
  · refine .inr ⟨g, cap, cur, hv, hg, ?_, r⟩
    rw [hb.block g (Array.getElem?_eq_some_iff.1 hh).1]; exact hh
theorem OwnC.le {w : World} {base base' : Nat} {v : Value} {K : List Cl} (h : OwnC w base v K) (hb : base' ≤ base) : OwnC w base' v K :=
  ⟨h.1, h.2.elim Or.inl (fun ⟨g, cap, cur, hv, hg, r⟩ => Or.inr ⟨g, cap, cur, hv, Nat.le_trans hb hg, r⟩)⟩
theorem OwnC.nil (w : World) (base : Nat) : OwnC w base (.slice none 0 0) [] := ⟨rfl, .inl ⟨rfl, rfl⟩⟩
theorem OwnC.cell {w : World} {base g n cap : Nat} {X : List Cl} (h : OwnC w base (.slice (some ⟨g, 0, none⟩) n cap) X) (hX : X.length = n) {off : Nat} (ho : off = 0) {i : Nat} (hi : i < n) :
    w.cell? ⟨g, off + i, none⟩ = some (X.getD i c0).val ∧ w.frozen? ⟨g, off + i, none⟩ = false := by
  subst ho
  unfold OwnC at h
  rw [hX] at h
  have c := World.ownsRow.cellAt h
  have f := World.ownsRow.frozenAt h
  rw [Nat.zero_add]
  refine ⟨?_, f _⟩
  rw [c _ (by omega), List.getElem?_map, List.getElem?_eq_getElem (by omega), List.getD_eq_getElem?_getD, List.getElem?_eq_getElem (by omega)]
  rfl
theorem OwnC.base {w : World} {base g n cap : Nat} {X : List Cl} (h : OwnC w base (.slice (some ⟨g, 0, none⟩) n cap) X) : base ≤ g ∧ n ≤ cap ∧ cap ≤ 9223372036854775807 ∧ g < w.heap.size := by
  rcases h.2 with ⟨hv, _⟩ | ⟨g', cap', cur, hv, hg, hh, h1, h2, _⟩
  · cases hv
  · injection hv with e1 e2 e3
    injection e1 with e1
    injection e1 with e1
    subst e1; subst e3
    exact ⟨hg, by omega, by unfold maxLen at h2; omega, (Array.getElem?_eq_some_iff.1 hh).1⟩
theorem OwnC.sl {w : World} {base : Nat} {a : Option Addr} {n c : Nat} {K : List Cl} (h : OwnC w base (.slice a n c) K) (hl : K.length = n) (hk : ∀ x ∈ K, x.ok w) : SlC w a n c K := by
  refine ⟨?_, hk⟩
  rcases id h.2 with ⟨hv, h0⟩ | ⟨g, cap, cur, hv, hg, hh, h1, h2, _⟩
  · injection hv with e1 e2 e3
    subst e1; subst e3; subst e2
    exact ⟨hl, Nat.le_refl _, by omega, .inl rfl⟩
  · injection hv with e1 e2 e3
    subst e1; subst e3
    exact ⟨hl, by omega, by unfold maxLen at h2; omega, .inr ⟨g, 0, rfl, (Array.getElem?_eq_some_iff.1 hh).1, fun i hi => (h.cell hl rfl hi).1⟩⟩
theorem vals_one (K : List Cl) : ∀ v ∈ K.map Cl.val, v.oneCell' = true := by
  intro v hv
  obtain ⟨x, _, rfl⟩ := List.mem_map.1 hv
  rfl
theorem SlC.asSrc {w : World} {ad : Option Addr} {n c : Nat} {M : List Cl} {tx : TypeId} (hk : Tryd.prog.underlying tx = some (.slice 24)) (h : SlC w ad n c M) : Src Tryd.prog 1 tx (.slice ad n c) n (M.map Cl.val) w := by
  cases ad with
  | none =>
    have hn0 : n = 0 := by
      rcases h.1.2.2.2 with h | ⟨b, off, e, _⟩
      · exact h
      · cases e
    subst hn0
    obtain rfl : M = [] := List.eq_nil_of_length_eq_zero h.1.1
    exact Src.ofNil w hk c
  | some y =>
    refine Src.ofSlice w hk y n c _ (by rw [List.length_map, h.1.1, Nat.mul_one]) (fun j u hu => ?_) (vals_one M)
    have hj := (List.getElem?_eq_some_iff.1 hu).1
    rw [List.length_map, h.1.1] at hj
    obtain ⟨b, off, e, hb, hc⟩ := h.at (by omega)
    obtain rfl := Option.some.inj e
    rw [Addr.add_mid, hc j hj]
    rw [List.getElem?_map, List.getElem?_eq_getElem (by rw [h.1.1]; exact hj)] at hu
    rw [List.getD_eq_getElem?_getD, List.getElem?_eq_getElem (by rw [h.1.1]; exact hj)]
    exact hu
/-- appending clauses to a list of one's own -/
theorem wpList_append_cls {w : World} {ops : Array Oper} {rest : List Oper} {o : Oper} {a : Act} {Q : Exit → Act → World → Prop} (hgd : o.guard = none) (s x : Operand) (t tx : TypeId)
    (ho : o.op = .call { callee := .builtin .append, args := #[s, x], argTypes := #[t, tx] }) (ht : Tryd.prog.underlying t = some (.slice 24)) (htx : Tryd.prog.underlying tx = some (.slice 24))
    (base : Nat) (v : Value) (L : List Cl) (hs : a.eval s = v) (hown : OwnC w base v L) (ad : Option Addr) (n c : Nat) (M : List Cl) (hx : a.eval x = .slice ad n c) (hM : SlC w ad n c M)
    (hl : L.length + n ≤ 100000) (hbase : base ≤ w.heap.size)
    (h : ∀ v' w', OwnC w' base v' (L ++ M) → Below base w w' → wpList Tryd.prog ops Q rest (a.put o.dst v') w') : wpList Tryd.prog ops Q (o :: rest) a w := by
  obtain ⟨i0, hi0, hz0, hz1, hz2⟩ := info_parts info24z
  refine wpList_append_src w hgd s x t tx ho base 24 i0 (.slice none 0 0) 1 24 ht hi0 hz0 hz1 hz2 rfl (by decide) v L.length (L.map Cl.val) hs hown _ n (M.map Cl.val) hx (hM.asSrc htx) (by unfold maxLen; omega) (by omega) hbase ?_
  intro v' w' ho' hg'
  refine h v' w' ?_ ((Below.refl base w).grown hg' hbase (fun j hj => (World.ownsRow.lt hown j hj).1))
  unfold OwnC
  rw [List.length_append, hM.1.1, List.map_append]
  exact ho'
/-- what slices.Clone answers -/
def CCloneSays (w : World) (K : List Cl) (e : Ending) (w' : World) : Prop := ∃ v, e = .returned v ∧ OwnC w' w.heap.size v K ∧ Below w.heap.size w w'
set_option maxHeartbeats 2000000 in
set_option maxRecDepth 100000 in
theorem cclone_c (a : Option Addr) (n c : Nat) (K : List Cl) (w : World) (hs : SlC w a n c K) (hn : n ≤ 1000) :
    Calls Tryd.prog 46 #[.slice a n c] w fun e w' => CCloneSays w K e w' := by
  have HS := Lib.hid hs
  clear hs
  have qT : ∀ (w : World) (a : Option Addr) (n c n' c' : Nat), (binOp .eql 43 (.slice a n c) (.slice none n' c')).run Tryd.prog w = .ok (.bool a.isNone) w := fun w a n c n' c' => Lib.run_eql_slice_nil w _ _ a n c n' c' Tryd.underlying43
  cases a with
  | none =>
    have hn0 : n = 0 := by
      rcases HS.out.1.2.2.2 with h | ⟨b, off, e, _⟩
      · exact h
      · cases e
    subst hn0
    obtain rfl : K = [] := List.eq_nil_of_length_eq_zero HS.out.1.1
    go_enter Tryd.func46, Tryd.ntmps46
    go_wp2
    refine bodyPost_ret (results_tmp rfl _ _ _) rfl ?_
    exact ⟨_, rfl, OwnC.nil _ _, Below.refl _ _⟩
  | some y =>
    have BA := Lib.hid ((Below.refl w.heap.size w).alloc (o := .cells #[] 24) (Nat.le_refl _))
    have OE : Hid (OwnC (w.alloc (.cells #[] 24)) w.heap.size (.slice (some ⟨w.heap.size, 0, none⟩) 0 0) []) := Lib.hid (World.ownsRow_made w #[] 0 (Nat.le_refl _) (by unfold maxLen; omega) rfl)
    go_enter Tryd.func46, Tryd.ntmps46
    go_wp2_with (at_builtin; refine wpList_append_cls rfl (.tmp 5) (.tmp 6) 43 43 rfl Tryd.underlying43 Tryd.underlying43 w.heap.size _ [] rfl OE.out _ _ _ K rfl (HS.out.below BA.out) (by simp; omega) BA.out.size ?_; intro v1 w2 hO hB; rw [List.nil_append] at hO; have O1 := Lib.hid hO; have B1 := Lib.hid (BA.out.trans hB); clear hO hB)
    refine bodyPost_ret (results_tmp rfl _ _ _) rfl ?_
    exact ⟨_, rfl, O1.out, B1.out⟩
set_option maxHeartbeats 2000000 in
set_option maxRecDepth 100000 in
theorem clo47_c (a : Option Addr) (n c : Nat) (L : List Lt) (w : World) (hs : SlL w a n c L) :
    Calls Tryd.prog 47 #[.slice a n c] w fun e w' => e = .returned (.bool (!vld L)) ∧ Below w.heap.size w w' := by
  have HS := Lib.hid hs
  clear hs
  obtain ⟨v, hv⟩ : ∃ v, vld L = v := ⟨_, rfl⟩
  have HV := Lib.hid hv
  rw [hv]
  clear hv
  go_enter Tryd.func47, Tryd.ntmps47
  go_wp2_with fail
  refine Calls.mono (valid_c a n c L w HS.out) ?_
  rintro e w1 ⟨rfl, hb1⟩
  have B1 := Lib.hid hb1
  clear hb1
  rw [HV.out]
  cases v <;>
    (go_wp2
     refine bodyPost_ret (results_tmp rfl _ _ _) rfl ?_
     exact ⟨rfl, B1.out⟩)
/-- what IndexFunc answers -/
def CIdxSays (K : List Cl) (e : Ending) : Prop :=
  (e = .returned (.int .i64 (-1)) ∧ ∀ k, k < K.length → vld (K.getD k c0).2 = true) ∨ ∃ j : Nat, e = .returned (.int .i64 (j : Nat)) ∧ j < K.length ∧ vld (K.getD j c0).2 = false ∧ ∀ k, k < j → vld (K.getD k c0).2 = true
set_option maxHeartbeats 2000000 in
set_option maxRecDepth 100000 in
theorem cindex_c (ad : Option Addr) (n cap : Nat) (K : List Cl) (w : World) (hs : SlC w ad n cap K) (hn : n ≤ 100000) :
    Calls Tryd.prog 58 #[.slice ad n cap, .func (.func 47) #[] #[]] w fun e w' => CIdxSays K e ∧ Below w.heap.size w w' := by
  have HS := Lib.hid hs
  clear hs
  go_enter Tryd.func58, Tryd.ntmps58
  go_wp2
  go_loopw [5, 8] (fun s5 s wr => ∃ i : Nat, i ≤ n ∧ s = .int .i64 (i : Nat) ∧ Hid (∀ k, k < i → vld (K.getD k c0).2 = true) ∧ Hid (Below w.heap.size w wr)) (fun _ s _ => n - (RowKit.intOf s).toNat)
  case atStart => exact ⟨0, by omega, rfl, Lib.hid (fun k hk => absurd hk (Nat.not_lt_zero k)), Lib.hid (Below.refl _ _)⟩
  case round =>
    obtain ⟨i, hi, rfl, hno, HB⟩ := hrel
    by_cases hlt : i < n
    · obtain ⟨b, off, rfl, hb, hc⟩ := (HS.out.below HB.out).at (by omega)
      have k0 := hc i hlt
      clear hc
      have HX := Lib.hid ((HS.out.below HB.out).entry hlt)
      obtain ⟨x, hx⟩ : ∃ x, K.getD i c0 = x := ⟨_, rfl⟩
      rw [hx] at k0 HX
      have HXE := Lib.hid hx
      clear hx
      obtain ⟨⟨xa, xn, xc⟩, X⟩ := x
      replace k0 : wr.cell? ⟨b, off + i, none⟩ = some (.slice xa xn xc) := k0
      have HX' : Hid (SlL wr xa xn xc X) := HX
      clear HX
      have hi0 : (0 : Int) ≤ (i : Int) := by omega
      have hi1 : (i : Int) < (n : Int) := by omega
      go_wp2_with fail
      refine Calls.mono (clo47_c xa xn xc X wr HX'.out) ?_
      rintro e w2 ⟨rfl, hb2⟩
      have B2 := Lib.hid (HB.out.trans (hb2.mono HB.out.size))
      clear hb2 k0 hb
      cases hv : vld X with
      | false =>
        have IS : Hid (CIdxSays K (.returned (.int .i64 (i : Nat)))) := Lib.hid (.inr ⟨i, rfl, by rw [HS.out.1.1]; exact hlt, by rw [HXE.out]; exact hv, hno.out⟩)
        clear hv
        go_wp2
        refine bodyPost_ret (results_tmp rfl _ _ _) rfl ?_
        exact ⟨IS.out, B2.out⟩
      | true =>
        have HN : Hid (∀ k, k < i + 1 → vld (K.getD k c0).2 = true) := Lib.hid (fun k hk => by
          by_cases hki : k = i
          · rw [hki, HXE.out]; exact hv
          · exact hno.out k (by omega))
        clear hv
        go_wp2
        go_roundw
        case rel => exact ⟨i + 1, by omega, by go_num, HN, B2⟩
        case measure => simp [RowKit.intOf]; omega
    · have IS : Hid (CIdxSays K (.returned (.int .i64 (-1)))) := Lib.hid (.inl ⟨rfl, fun k hk => hno.out k (by rw [HS.out.1.1] at hk; omega)⟩)
      have hne : ¬ (i : Int) < (n : Int) := by omega
      go_wp2
      refine bodyPost_ret (results_tmp rfl _ _ _) rfl ?_
      exact ⟨IS.out, HB.out⟩

end Go.Proofs.YtljgcjmelmpgoaaDoor
