/- Walks of layer 1: the reference's Add. -/
import Derived.Test.YtgoiechhhnhgaaaDoorB4
namespace Go.Proofs.YtgoiechhhnhgaaaDoor
open Go.RowKit
set_option linter.unusedVariables false
/-- the lowest k limbs of the sum -/
structure RAdd (l t L : List Nat) (k c : Nat) : Prop where
  carry : c < 2
  len : L.length = k
  lim : Lim L
  sum : nv L + BB ^ k * c = nv (l.take k) + nv (t.take k)
theorem RAdd.start (l t : List Nat) : RAdd l t [] 0 0 := ⟨by omega, rfl, Lim.nil, by simp [nv]⟩
theorem RAdd.step {l t L : List Nat} {k c x y : Nat} (h : RAdd l t L k c) (hx : l.getD k 0 = x) (hy : t.getD k 0 = y) (hX : x < BB) (hY : y < BB) :
    RAdd l t (L ++ [(c + (x + y)) % BB]) (k + 1) ((c + (x + y)) / BB) := by
  have hc := h.carry
  refine ⟨?_, by simp [h.len], h.lim.append (Lim.cons (Nat.mod_lt _ BB_pos) Lim.nil), ?_⟩
  · rw [Nat.div_lt_iff_lt_mul BB_pos]; omega
  · rw [nv_append, h.len, nv_take_succ l, nv_take_succ t, hx, hy, Nat.pow_succ]
    have h1 := mod_div_sum (BB ^ k) (c + (x + y))
    have h2 := h.sum
    simp only [nv, Nat.mul_zero, Nat.add_zero]
    rw [Nat.mul_add, Nat.mul_add] at h1
    omega
theorem RAdd.done {l t L : List Nat} {k c : Nat} (h : RAdd l t L k c) (h1 : l.length ≤ k) (h2 : t.length ≤ k) : nv (L ++ [c]) = nv l + nv t := by
  have := h.sum
  rw [List.take_of_length_le h1, List.take_of_length_le h2] at this
  rw [nv_append, h.len]
  simpa [nv] using this
theorem lv_snoc (L : List Nat) (x : Nat) : lv L ++ lv [x] = lv (L ++ [x]) := by simp [lv]
theorem own_ge {w : World} {base : Nat} {e : TypeId} {size : Nat} {v : Value} {n : Nat} {xs : List Value} (h : w.ownsRow base e size v n xs) {j : Nat} (hj : v.ownBlock = some j) : base ≤ j := by
  rcases h.2 with ⟨rfl, _⟩ | ⟨g, cap, cur, rfl, hg, _⟩
  · simp [Value.ownBlock] at hj
  · simp [Value.ownBlock] at hj; omega
set_option maxHeartbeats 1600000 in
theorem radd_c (a a' : Option Addr) (len cap len' cap' : Nat) (l t : List Nat) (w : World) (h : Rd w a len cap l) (h' : Rd w a' len' cap' t) (hb : len ≤ 1048575) (hb' : len' ≤ 1048575) :
    Calls Tryd.prog 29 #[.slice a len cap, .slice a' len' cap'] w (NPost (nv l + nv t) w) := by
  have H := Lib.hid h
  have H' := Lib.hid h'
  have HL := Lib.hid h.len_eq
  have HL' := Lib.hid h'.len_eq
  clear h h'
  go_enter Tryd.func29, Tryd.ntmps29
  go_wp2
  go_loopw [5, 6, 7] (fun o s i wr => ∃ (k c : Nat) (L : List Nat), k ≤ 1048575 ∧ i = .int .i64 k ∧ s = .int .u64 c ∧ c < 2 ∧ Hid (RAdd l t L k c) ∧ Hid (wr.ownsRow w.heap.size 42 1 o k (lv L)) ∧ Hid (Below w.heap.size w wr)) (fun _ _ i _ => len + len' - (intOf i).toNat)
  case atStart => exact ⟨0, 0, [], by omega, rfl, rfl, by omega, Lib.hid (RAdd.start l t), Lib.hid (World.ownsRow_nil _ _ _ _), Lib.hid (Below.refl _ _)⟩
  case round =>
    obtain ⟨k, c, L, hk, rfl, rfl, hc, hinv, hown, hbel⟩ := hrel
    obtain ⟨va, vc, rfl⟩ := own_slice hown.out
    have H1 := Lib.hid (H.out.below hbel.out)
    have H1' := Lib.hid (H'.out.below hbel.out)
    by_cases hlt : k < len ∨ k < len'
    · obtain ⟨x, hx⟩ : ∃ x, l.getD k 0 = x := ⟨_, rfl⟩
      obtain ⟨y, hy⟩ : ∃ y, t.getD k 0 = y := ⟨_, rfl⟩
      have hX : x < BB := by rw [← hx]; exact H.out.lim.at k
      have hY : y < BB := by rw [← hy]; exact H'.out.lim.at k
      have LX := Lib.hid (limb_c _ _ _ _ k wr H1.out)
      have LY := Lib.hid (limb_c _ _ _ _ k wr H1'.out)
      rw [hx] at LX
      rw [hy] at LY
      have hst := Lib.hid (hinv.out.step hx hy hX hY)
      have HO := Lib.hid (own_below hown.out ((Below.refl wr.heap.size wr).alloc (Nat.le_refl _) (.cells #[.int .u32 ((↑c + (↑x + ↑y)) % 4294967296)] 42)))
      have HR := Lib.hid (Rd.one' wr ((c + (x + y)) % BB) ((↑c + (↑x + ↑y)) % 4294967296) (by simp [BB_eq]) (Nat.mod_lt _ BB_pos) 42)
      have hba := hbel.out.alloc hbel.out.size (.cells #[.int .u32 ((↑c + (↑x + ↑y)) % 4294967296)] 42)
      have hsz : w.heap.size ≤ (wr.alloc (.cells #[.int .u32 ((↑c + (↑x + ↑y)) % 4294967296)] 42)).heap.size := hba.size
      rw [BB_eq] at hX hY
      have hdiv : ((c + (x + y)) / BB : Nat) = (c + (x + y)) / 4294967296 := by rw [BB_eq]
      rw [hdiv] at hst
      have HBA := Lib.hid hba
      have HSZ := Lib.hid hsz
      clear hx hy hdiv hba hsz
      have OG := Lib.hid (fun j => @own_ge wr w.heap.size 42 1 (.slice va k vc) k (lv L) hown.out j)
      by_cases h1 : k < len
      all_goals
        go_wp2_with fail
        refine LX.out.mono ?_
        rintro e w' ⟨rfl, rfl⟩
        go_wp2_with fail
        refine LY.out.mono ?_
        rintro e w' ⟨rfl, rfl⟩
        go_wp2_with (at_builtin; refine wpList_append_rd rfl _ _ 22 22 rfl Tryd.underlying22 Tryd.underlying22 w.heap.size _ k _ rfl HO.out _ _ _ _ rfl HR.out (by omega) HSZ.out ?_)
        intro v w1 hown2 hgrow
        have hbel2 : Below w.heap.size w w1 := HBA.out.grown hgrow HSZ.out (fun j hj => OG.out j hj)
        rw [lv_snoc] at hown2
        clear hgrow
        go_wp2
        go_roundw
        case rel => exact ⟨k + 1, (c + (x + y)) / 4294967296, _, by omega, by go_num, by go_num, by omega, hst, Lib.hid hown2, Lib.hid hbel2⟩
        case measure => simp [intOf]; omega
    · have HO := Lib.hid (own_below hown.out ((Below.refl wr.heap.size wr).alloc (Nat.le_refl _) (.cells #[.int .u32 ↑c] 42)))
      have HR := Lib.hid (Rd.one' wr c ↑c rfl (by rw [BB_eq]; omega) 42)
      have hba := hbel.out.alloc hbel.out.size (.cells #[.int .u32 ↑c] 42)
      have hsz : w.heap.size ≤ (wr.alloc (.cells #[.int .u32 ↑c] 42)).heap.size := hba.size
      have HBA := Lib.hid hba
      have HSZ := Lib.hid hsz
      have OG := Lib.hid (fun j => @own_ge wr w.heap.size 42 1 (.slice va k vc) k (lv L) hown.out j)
      have hfin := Lib.hid (hinv.out.done (by rw [HL.out]; omega) (by rw [HL'.out]; omega))
      have hlim := Lib.hid (hinv.out.lim.append (Lim.cons (show c < BB by rw [BB_eq]; omega) Lim.nil))
      have hlen : Hid ((L ++ [c]).length = k + 1) := Lib.hid (by simp [hinv.out.len])
      clear hba hsz
      go_wp2_with (at_builtin; refine wpList_append_rd rfl _ _ 22 22 rfl Tryd.underlying22 Tryd.underlying22 w.heap.size _ k _ rfl HO.out _ _ _ _ rfl HR.out (by omega) HSZ.out ?_)
      intro v w1 hown2 hgrow
      have hbel2 : Below w.heap.size w w1 := HBA.out.grown hgrow HSZ.out (fun j hj => OG.out j hj)
      rw [lv_snoc, ← hlen.out] at hown2
      obtain ⟨va2, vc2, rfl, hr2⟩ := Rd.owns hown2 hlim.out
      rw [hlen.out] at hr2 ⊢
      have HR2 := Lib.hid hr2
      clear hgrow hown2 hr2
      go_wp2_with fail
      refine (rmake_c _ _ _ _ _ HR2.out (by omega)).mono ?_
      rw [hfin.out]
      rintro e w2 ⟨a2, c2, rfl, hr3, hb3⟩
      have hb4 := hbel2.trans (hb3.mono hbel2.size)
      go_wp2_with fail
      go_ret
      exact ⟨a2, c2, rfl, hr3, hb4⟩
end Go.Proofs.YtgoiechhhnhgaaaDoor
