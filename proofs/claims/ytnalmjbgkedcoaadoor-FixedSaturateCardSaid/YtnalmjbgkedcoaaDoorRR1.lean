/- Carried over from another seat by program (portn.py). -/
import Derived.Test.YtnalmjbgkedcoaaDoorNh
import Derived.Test.YtnalmjbgkedcoaaDoorIC
import Derived.Test.YtnalmjbgkedcoaaDoorRd
namespace Go.Proofs.YtnalmjbgkedcoaaDoor
open Go.RowKit
set_option linter.unusedVariables false
set_option maxHeartbeats 400000 in
theorem rmake_f (a : Option Addr) (len cap : Nat) (l : List Nat) (w : World) (h : Rd w a len cap l) (hb : len ≤ 1048576) :
    Calls Tryd.prog 73 #[.slice a len cap] w (CPost (dig (nv l)) w) := by
  have H := Lib.hid h
  have HO := Lib.hid (World.ownsRow_lit (base := w.heap.size) (e := 56) (size := 1) w #[] 0 (Nat.le_refl _) (by decide) (by simp))
  obtain ⟨hl, hlc, hcm, hlim, hnc, hc⟩ := h
  clear hnc
  have HL := Lib.hid hl; clear hl
  have HLIM := Lib.hid hlim; clear hlim
  rcases hc with rfl | ⟨b, off, rfl, hc⟩
  · have h0 := List.length_eq_zero_iff.1 HL.out
    subst h0
    have HR := Lib.hid (H.out.alloc (.cells #[] 56))
    have hz : Hid (dig (nv []) = []) := Lib.hid (by rw [nv, dig_zero])
    go_enter Tryd.func73, Tryd.ntmps73
    go_wp2
    refine wp_loop_rounds 1 ?_; rw [rounds_succ]
    go_wp2_with (at_builtin; refine wpList_append_rd rfl _ _ 23 22 rfl Tryd.underlying23 Tryd.underlying22 w.heap.size _ 0 [] rfl HO.out _ _ _ _ rfl HR.out (by omega) (by simp) ?_)
    intro v w1 hown hgrow
    have hbel : Below w.heap.size w w1 := ((Below.refl _ _).alloc (Nat.le_refl _) _).grown hgrow (by simp) (fun k hk => by simp [Value.ownBlock] at hk; omega)
    clear hgrow
    go_wp2
    go_ret
    exact ⟨_, rfl, by rw [hz.out]; simpa using hown, by rw [hz.out]; exact Lim.nil, hbel⟩
  · have HC := Lib.hid hc; clear hc
    go_enter Tryd.func73, Tryd.ntmps73
    go_wp2
    go_loop [3] (fun s => ∃ (k : Nat), k ≤ len ∧ s = .int .i64 k ∧ Hid (nv (l.take k) = nv l)) (fun s => (intOf s).toNat)
    case atStart => exact ⟨len, by omega, rfl, Lib.hid (by rw [List.take_of_length_le (by rw [HL.out]; omega)])⟩
    case round =>
      obtain ⟨k, hk, rfl, hinv⟩ := hrel
      have tail : (k = 0 ∨ l.getD (k - 1) 0 ≠ 0) → Hid (l.take k = dig (nv l)) := fun hz => Lib.hid (dig_take HLIM.out (by rw [HL.out]; exact hk) hinv.out hz)
      have HT := Lib.hid tail
      clear tail
      have HR := Lib.hid ((H.out.take hk).alloc (.cells #[] 56))
      by_cases hk0 : k = 0
      · subst hk0
        have hz := HT.out (.inl rfl)
        go_wp2_with (at_builtin; refine wpList_append_rd rfl _ _ 23 22 rfl Tryd.underlying23 Tryd.underlying22 w.heap.size _ 0 [] rfl HO.out _ _ _ _ rfl HR.out (by omega) (by simp) ?_)
        intro v w1 hown hgrow
        have hbel : Below w.heap.size w w1 := ((Below.refl _ _).alloc (Nat.le_refl _) _).grown hgrow (by simp) (fun k hk => by simp [Value.ownBlock] at hk; omega)
        clear hgrow
        go_wp2
        go_ret
        refine ⟨_, rfl, ?_, by rw [← hz.out]; exact HLIM.out.take _, hbel⟩
        rw [← hz.out]; simpa using hown
      · obtain ⟨j, rfl⟩ : ∃ j, k = j + 1 := ⟨k - 1, by omega⟩
        obtain ⟨x, hx⟩ : ∃ x, l.getD j 0 = x := ⟨_, rfl⟩
        have hcell := HC.out j (by omega)
        rw [hx] at hcell
        by_cases hx0 : x = 0
        · have hinv2 : Hid (nv (l.take j) = nv l) := Lib.hid (by rw [← nv_take_zero (by rw [HL.out]; omega) (by rw [hx, hx0])]; exact hinv.out)
          subst hx0
          clear hx HR
          go_wp2
          go_round
          case rel => exact ⟨j, by omega, by go_num, hinv2⟩
          case measure => simp [intOf]
        · have hne : ((x : Int) == 0) = false := by simp; omega
          have hz := HT.out (.inr (by rw [Nat.add_sub_cancel, hx]; exact hx0))
          clear hx hx0
          go_wp2_with (at_builtin; refine wpList_append_rd rfl _ _ 23 22 rfl Tryd.underlying23 Tryd.underlying22 w.heap.size _ 0 [] rfl HO.out _ _ _ _ rfl HR.out (by omega) (by simp) ?_)
          intro v w1 hown hgrow
          have hbel : Below w.heap.size w w1 := ((Below.refl _ _).alloc (Nat.le_refl _) _).grown hgrow (by simp) (fun k hk => by simp [Value.ownBlock] at hk; omega)
          clear hgrow
          go_wp2
          go_ret
          refine ⟨_, rfl, ?_, by rw [← hz.out]; exact HLIM.out.take _, hbel⟩
          rw [← hz.out, List.length_take, HL.out, Nat.min_eq_left hk]; simpa using hown

theorem own_far {w : World} {base T n m c : Nat} {a : Option Addr} {xs : List Value} (h : w.ownsRow base T 1 (.slice a n c) m xs) {g : Nat} (hg : g < base) : Far a n g := by
  rcases h.2 with ⟨e, h0⟩ | ⟨g', cap, cur, e, hb, _⟩
  · injection e with e1 e2 e3
    exact .inl e2
  · injection e with e1 e2 e3
    refine .inr fun y hy => ?_
    rw [e1] at hy
    injection hy with hy
    rw [← hy]
    show g' ≠ g
    omega
/-- a difference in a new block -/
def RFPost (n : Nat) (w : World) (e : Ending) (w' : World) : Prop := ∃ a cap, e = Ending.returned (.tuple #[.slice a (dig n).length cap, .int .i64 0]) ∧ Rd w' a (dig n).length cap (dig n) ∧ Below w.heap.size w w' ∧ ∀ g, g < w.heap.size → Far a (dig n).length g
set_option maxHeartbeats 1600000 in
theorem rsub_f (a a' : Option Addr) (len cap len' cap' : Nat) (l t : List Nat) (w : World) (h : Rd w a len cap l) (h' : Rd w a' len' cap' t) (hb : len ≤ 1048575) (hb' : len' ≤ 1048575) (hge0 : nv t ≤ nv l) :
    Calls Tryd.prog 75 #[.slice a len cap, .slice a' len' cap'] w (RFPost (nv l - nv t) w) := by
  have H := Lib.hid h
  have H' := Lib.hid h'
  have HC := Lib.hid (rcmp_c _ _ _ _ _ _ _ _ w h h')
  by_cases hlt : nv l < nv t
  · exact absurd hlt (by omega)
  · have e2 : Hid (subE (nv l) (nv t) = 0) := Lib.hid (if_neg hlt)
    have HGE : Hid (nv t ≤ nv l) := Lib.hid (by omega)
    obtain ⟨z, hz⟩ : ∃ z, cmpv (nv l) (nv t) = z := ⟨_, rfl⟩
    have hz0 : ¬ z < 0 := by rw [← hz]; intro h; exact hlt (cmpv_neg' h)
    rw [hz] at HC
    have HLL := Lib.hid h.len_eq
    clear h h' hz hlt
    go_enter Tryd.func75, Tryd.ntmps75
    go_wp2_with fail
    refine HC.out.mono ?_
    rintro e w1 ⟨rfl, rfl⟩
    go_wp2_with fail
    go_loopw [6, 7, 8] (fun o s i wr => ∃ (k c : Nat) (L : List Nat), k ≤ len ∧ i = .int .i64 k ∧ s = .int .u64 c ∧ c < 2 ∧ Hid (RSub l t L k c) ∧ Hid (wr.ownsRow w.heap.size 56 1 o k (lv L)) ∧ Hid (Below w.heap.size w wr)) (fun _ _ i _ => len - (intOf i).toNat)
    case atStart => exact ⟨0, 0, [], by omega, rfl, rfl, by omega, Lib.hid (RSub.start l t), Lib.hid (World.ownsRow_nil _ _ _ _), Lib.hid (Below.refl _ _)⟩
    case round =>
      obtain ⟨k, c, L, hk, rfl, rfl, hc, hinv, hown, hbel⟩ := hrel
      obtain ⟨va, vc, rfl⟩ := own_slice hown.out
      have H1 := Lib.hid (H.out.below hbel.out)
      have H1' := Lib.hid (H'.out.below hbel.out)
      have OG := Lib.hid (fun j => @own_ge wr w.heap.size 56 1 (.slice va k vc) k (lv L) hown.out j)
      by_cases hk2 : k < len
      · obtain ⟨x, hx⟩ : ∃ x, l.getD k 0 = x := ⟨_, rfl⟩
        obtain ⟨y, hy⟩ : ∃ y, t.getD k 0 = y := ⟨_, rfl⟩
        have hX : x < BB := by rw [← hx]; exact H.out.lim.at k
        have hY : y < BB := by rw [← hy]; exact H'.out.lim.at k
        have LX := Lib.hid (limb_c _ _ _ _ k wr H1.out)
        have LY := Lib.hid (limb_c _ _ _ _ k wr H1'.out)
        rw [hx] at LX
        rw [hy] at LY
        have hst0 := hinv.out.step hx hy hX hY
        have hDl := sbD_lt x y c
        rw [BB_eq] at hX hY
        obtain ⟨D, hD⟩ : ∃ D, sbD x y c = D := ⟨_, rfl⟩
        rw [hD] at hst0 hDl
        by_cases hxy : x < y + c
        · obtain ⟨q1, q2⟩ := sb_lo hxy hX hY hc
          rw [q2] at hst0
          rw [hD] at q1
          have hst := Lib.hid hst0
          have HO := Lib.hid (own_below hown.out ((Below.refl wr.heap.size wr).alloc (Nat.le_refl _) (.cells #[.int .u32 (↑x + 4294967296 - (↑y + ↑c))] 56)))
          have HR := Lib.hid (Rd.one' wr D (↑x + 4294967296 - (↑y + ↑c)) q1 hDl 56)
          have hba := hbel.out.alloc hbel.out.size (.cells #[.int .u32 (↑x + 4294967296 - (↑y + ↑c))] 56)
          have hsz : w.heap.size ≤ (wr.alloc (.cells #[.int .u32 (↑x + 4294967296 - (↑y + ↑c))] 56)).heap.size := hba.size
          have HBA := Lib.hid hba
          have HSZ := Lib.hid hsz
          clear hx hy hba hsz q1 q2 hst0 hDl hD
          go_wp2_with fail
          refine LX.out.mono ?_
          rintro e w' ⟨rfl, rfl⟩
          go_wp2_with fail
          refine LY.out.mono ?_
          rintro e w' ⟨rfl, rfl⟩
          go_wp2_with (at_builtin; refine wpList_append_rd rfl _ _ 22 22 rfl Tryd.underlying22 Tryd.underlying22 w.heap.size _ k _ rfl HO.out _ _ _ _ rfl HR.out (by omega) HSZ.out ?_)
          intro v w1 hown2 hgrow
          have hbel2 : Below w.heap.size w w1 := HBA.out.grown hgrow HSZ.out (fun j hj => OG.out j hj)
          rw [lv_snoc] at hown2
          clear hgrow
          go_wp2
          go_roundw
          case rel => exact ⟨k + 1, 1, _, by omega, by go_num, by go_num, by omega, hst, Lib.hid hown2, Lib.hid hbel2⟩
          case measure => simp [intOf]; omega
        · obtain ⟨q1, q2⟩ := sb_hi hxy hX hY hc
          rw [q2] at hst0
          rw [hD] at q1
          have hst := Lib.hid hst0
          have HO := Lib.hid (own_below hown.out ((Below.refl wr.heap.size wr).alloc (Nat.le_refl _) (.cells #[.int .u32 (↑x - (↑y + ↑c))] 56)))
          have HR := Lib.hid (Rd.one' wr D (↑x - (↑y + ↑c)) q1 hDl 56)
          have hba := hbel.out.alloc hbel.out.size (.cells #[.int .u32 (↑x - (↑y + ↑c))] 56)
          have hsz : w.heap.size ≤ (wr.alloc (.cells #[.int .u32 (↑x - (↑y + ↑c))] 56)).heap.size := hba.size
          have HBA := Lib.hid hba
          have HSZ := Lib.hid hsz
          clear hx hy hba hsz q1 q2 hst0 hDl hD
          go_wp2_with fail
          refine LX.out.mono ?_
          rintro e w' ⟨rfl, rfl⟩
          go_wp2_with fail
          refine LY.out.mono ?_
          rintro e w' ⟨rfl, rfl⟩
          go_wp2_with (at_builtin; refine wpList_append_rd rfl _ _ 22 22 rfl Tryd.underlying22 Tryd.underlying22 w.heap.size _ k _ rfl HO.out _ _ _ _ rfl HR.out (by omega) HSZ.out ?_)
          intro v w1 hown2 hgrow
          have hbel2 : Below w.heap.size w w1 := HBA.out.grown hgrow HSZ.out (fun j hj => OG.out j hj)
          rw [lv_snoc] at hown2
          clear hgrow
          go_wp2
          go_roundw
          case rel => exact ⟨k + 1, 0, _, by omega, by go_num, by go_num, by omega, hst, Lib.hid hown2, Lib.hid hbel2⟩
          case measure => simp [intOf]; omega
      · have hkl : k = len := by omega
        have hfin := Lib.hid (hinv.out.done H.out.lim (by rw [HLL.out, hkl]) HGE.out)
        have hlen : Hid (L.length = k) := Lib.hid hinv.out.len
        have hown1 := hown.out
        rw [← hlen.out] at hown1
        obtain ⟨va2, vc2, hv, hr2⟩ := Rd.owns hown1 hinv.out.lim
        injection hv with hv1 hv2 hv3
        subst hv1
        subst hv3
        rw [hlen.out] at hr2
        have HR2 := Lib.hid hr2
        clear hown1 hr2 hv2 hkl
        go_wp2_with fail
        refine (rmake_f _ _ _ _ _ HR2.out (by omega)).mono ?_
        rw [hfin.out]
        rintro e w2 ⟨v2, rfl, ho3, hl3, hb3⟩
        obtain ⟨a2, c2, rfl, hr3⟩ := Rd.owns ho3 hl3
        have hb4 := hbel.out.trans (hb3.mono hbel.out.size)
        have HF3 := Lib.hid (fun g (hg : g < w.heap.size) => own_far ho3 (Nat.lt_of_lt_of_le hg hbel.out.size))
        clear ho3
        go_wp2_with fail
        go_ret2
        exact ⟨a2, c2, rfl, hr3, hb4, HF3.out⟩
end Go.Proofs.YtnalmjbgkedcoaaDoor
