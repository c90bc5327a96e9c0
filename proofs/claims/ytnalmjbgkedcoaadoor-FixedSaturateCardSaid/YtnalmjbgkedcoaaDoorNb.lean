/- Carried over from another seat by program (portn.py). -/
import Derived.Test.YtnalmjbgkedcoaaDoorNz
import Derived.Laws.IdiomCopy
namespace Go.Proofs.YtnalmjbgkedcoaaDoor
open Go.RowKit
set_option linter.unusedVariables false
/-- limbs in a block, which may be written -/
structure Win (w : World) (b off n : Nat) (L : List Nat) : Prop where
  len_eq : L.length = n
  lim : Lim L
  cell : ∀ i, i < n → w.cell? ⟨b, off + i, none⟩ = some (.int .u32 ((L.getD i 0 : Nat) : Int))
  free : ∀ i, i < n → w.frozen? ⟨b, off + i, none⟩ = false
/-- only cells lo .. hi of block b differ -/
structure Only (b lo up : Nat) (w w' : World) : Prop where
  os : w'.os = w.os
  tape : w'.tape = w.tape
  output : w'.output = w.output
  size : w'.heap.size = w.heap.size
  block : ∀ k, k ≠ b → w'.heap[k]? = w.heap[k]?
  cell : ∀ i, (i < lo ∨ up ≤ i) → w'.cell? ⟨b, i, none⟩ = w.cell? ⟨b, i, none⟩
  froz : ∀ i, w'.frozen? ⟨b, i, none⟩ = w.frozen? ⟨b, i, none⟩
theorem Only.refl (b lo up : Nat) (w : World) : Only b lo up w w := ⟨rfl, rfl, rfl, rfl, fun _ _ => rfl, fun _ _ => rfl, fun _ => rfl⟩
theorem Only.trans {b lo up : Nat} {w w' w'' : World} (h : Only b lo up w w') (k : Only b lo up w' w'') : Only b lo up w w'' :=
  ⟨k.1.trans h.1, k.2.trans h.2, k.3.trans h.3, k.4.trans h.4, fun i hi => (k.5 i hi).trans (h.5 i hi), fun i hi => (k.6 i hi).trans (h.6 i hi), fun i => (k.7 i).trans (h.7 i)⟩
theorem Only.widen {b lo up lo' up' : Nat} {w w' : World} (h : Only b lo up w w') (h1 : lo' ≤ lo) (h2 : up ≤ up') : Only b lo' up' w w' :=
  ⟨h.1, h.2, h.3, h.4, h.5, fun i hi => h.6 i (by omega), h.7⟩
theorem Only.drewN {b lo up : Nat} {w w' : World} (h : Only b lo up w w') (n : Nat) : Only b lo up w (w'.drewN n) := ⟨h.1, h.2, h.3, h.4, h.5, h.6, h.7⟩
theorem Only.dr {b lo up : Nat} {w w' w'' : World} (h : Only b lo up w w') (d : Dr w' w'') : Only b lo up w w'' := by obtain ⟨n, rfl⟩ := d; exact h.drewN n
theorem Only.set {b lo up : Nat} {w w' : World} (h : Only b lo up w w') {j : Nat} (h1 : lo ≤ j) (h2 : j < up) (v : Value) : Only b lo up w (w'.setCell ⟨b, j, none⟩ v) := by
  refine ⟨h.1, h.2, h.3, by simp [h.4], fun k hk => ?_, fun i hi => ?_, fun i => ?_⟩
  · rw [Below.heap_setCell _ _ _ _ (by exact hk)]; exact h.5 k hk
  · rw [World.cell?_setCell_other _ _ _ _ (by intro e; injection e; omega)]; exact h.6 i hi
  · rw [World.frozen?_setCell]; exact h.7 i
theorem Only.below {b lo up : Nat} {w w' : World} (h : Only b lo up w w') {B : Nat} (hB : B ≤ b) : Below B w w' :=
  ⟨h.1, h.2, h.3, by rw [h.4]; omega, fun k hk => h.5 k (by omega)⟩
/-- a slice that lies in another block, or is empty -/
def Far (a : Option Addr) (len b : Nat) : Prop := len = 0 ∨ ∀ y, a = some y → y.block ≠ b
theorem Rd.only {b lo up : Nat} {w w' : World} {a : Option Addr} {len cap : Nat} {l : List Nat} (h : Rd w a len cap l) (ho : Only b lo up w w') (hf : Far a len b) : Rd w' a len cap l := by
  obtain ⟨h1, h2, h3, h4, h6, h5⟩ := h
  refine ⟨h1, h2, h3, h4, h6, ?_⟩
  rcases h5 with h5 | ⟨b', off, e, h5⟩
  · exact .inl h5
  rcases hf with hf | hf
  · exact .inl hf
  · exact .inr ⟨b', off, e, fun i hi => (World.cell?_of_block (w := w) (a := ⟨b', off + i, none⟩) (ho.block _ (show b' ≠ b from hf _ e))).trans (h5 i hi)⟩
theorem Rd.far {w : World} {a : Option Addr} {len cap : Nat} {l : List Nat} (h : Rd w a len cap l) {b : Nat} (hb : w.heap.size ≤ b) : Far a len b := by
  rcases h.cells with h5 | ⟨b', off, e, h5⟩
  · exact .inl h5
  · by_cases h0 : len = 0
    · exact .inl h0
    · right
      rintro y e2
      have := World.block_lt_of_cell? w _ (h5 0 (by omega))
      rw [e] at e2
      injection e2 with e2
      subst e2
      simp at this ⊢
      omega
theorem Win.set {w : World} {b off n : Nat} {L : List Nat} (h : Win w b off n L) {i : Nat} (hi : i < n) {x : Nat} (hx : x < BB) : Win (w.setCell ⟨b, off + i, none⟩ (.int .u32 (x : Int))) b off n (L.set i x) := by
  refine ⟨by simp [h.len_eq], ?_, fun j hj => ?_, fun j hj => by rw [World.frozen?_setCell]; exact h.free j hj⟩
  · intro y hy
    rcases List.mem_or_eq_of_mem_set hy with h1 | h1
    · exact h.lim y h1
    · rw [h1]; exact hx
  · by_cases hij : i = j
    · subst hij
      rw [World.cell?_setCell_same _ _ _ (h.cell i hi)]
      simp [List.getD_eq_getElem?_getD, h.len_eq, hi]
    · rw [World.cell?_setCell_other _ _ _ _ (by intro e; injection e; omega), h.cell j hj]
      simp [List.getD_eq_getElem?_getD, hij]
theorem Win.dr {w w' : World} {b off n : Nat} {L : List Nat} (h : Win w b off n L) (d : Dr w w') : Win w' b off n L := by obtain ⟨m, rfl⟩ := d; exact ⟨h.1, h.2, h.3, h.4⟩
theorem Win.rd {w : World} {b off n : Nat} {L : List Nat} (h : Win w b off n L) {cap : Nat} (h1 : n ≤ cap) (h2 : cap ≤ 9223372036854775807) : Rd w (some ⟨b, off, none⟩) n cap L :=
  ⟨h.len_eq, h1, h2, h.lim, (fun h => by cases h), .inr ⟨b, off, rfl, h.cell⟩⟩
theorem Win.sub {w : World} {b off n : Nat} {L : List Nat} (h : Win w b off n L) {k m : Nat} (hk : k + m ≤ n) : Win w b (off + k) m ((L.drop k).take m) := by
  refine ⟨by simp [h.len_eq]; omega, (h.lim.drop k).take m, fun i hi => ?_, fun i hi => by rw [Nat.add_assoc]; exact h.free _ (by omega)⟩
  rw [Nat.add_assoc, h.cell _ (by omega)]
  simp [List.getD_eq_getElem?_getD, hi]
theorem getD_put {L M : List Nat} {k m i : Nat} (hk : k + m ≤ L.length) (hm : M.length = m) :
    (L.take k ++ M ++ L.drop (k + m)).getD i 0 = if i < k then L.getD i 0 else if i < k + m then M.getD (i - k) 0 else L.getD i 0 := by
  have h0 : (L.take k).length = k := by simp; omega
  have h3 : (L.take k ++ M).length = k + m := by simp; omega
  simp only [List.getD_eq_getElem?_getD]
  by_cases h1 : i < k
  · rw [if_pos h1, List.getElem?_append_left (by omega), List.getElem?_append_left (by omega), List.getElem?_take_of_lt h1]
  · rw [if_neg h1]
    by_cases h2 : i < k + m
    · rw [if_pos h2, List.getElem?_append_left (by omega), List.getElem?_append_right (by omega), h0]
    · rw [if_neg h2, List.getElem?_append_right (by omega), h3, List.getElem?_drop, show k + m + (i - (k + m)) = i from by omega]
theorem Win.put {w w' : World} {b off n : Nat} {L M : List Nat} (h : Win w b off n L) {k m : Nat} (hk : k + m ≤ n) (ho : Only b (off + k) (off + k + m) w w') (hm : Win w' b (off + k) m M) :
    Win w' b off n (L.take k ++ M ++ L.drop (k + m)) := by
  have hl := h.len_eq
  have hml := hm.len_eq
  refine ⟨by simp; omega, (h.lim.take k |>.append hm.lim).append (h.lim.drop _), fun i hi => ?_, fun i hi => by rw [ho.froz]; exact h.free i hi⟩
  rw [getD_put (by omega) hml]
  by_cases h1 : i < k
  · rw [ho.cell _ (by omega), h.cell i hi, if_pos h1]
  · rw [if_neg h1]
    by_cases h2 : i < k + m
    · have := hm.cell (i - k) (by omega)
      rw [show off + k + (i - k) = off + i from by omega] at this
      rw [this, if_pos h2]
    · rw [ho.cell _ (by omega), h.cell i hi, if_neg h2]
theorem Win.owns {w : World} {base : Nat} {a : Option Addr} {c : Nat} {l : List Nat} (h : w.ownsRow base 56 1 (.slice a l.length c) l.length (lv l)) (hl : Lim l) (h0 : l ≠ []) :
    ∃ g, a = some ⟨g, 0, none⟩ ∧ base ≤ g ∧ g < w.heap.size ∧ l.length ≤ c ∧ c ≤ 9223372036854775807 ∧ Win w g 0 l.length l := by
  rcases h.2 with ⟨e, h1⟩ | ⟨g, cap, cur, e, hg, hh, hlc, hcm, _⟩
  · exact absurd (List.length_eq_zero_iff.1 h1) h0
  · injection e with e1 e2 e3
    subst e1
    subst e3
    refine ⟨g, rfl, hg, (Array.getElem?_eq_some_iff.1 hh).1, hlc, by unfold maxLen at hcm; omega, rfl, hl, fun i hi => ?_, fun i hi => ?_⟩
    · rw [Nat.zero_add, h.cellAt i (by omega)]
      simp [lv, List.getD_eq_getElem?_getD, hi]
    · rw [Nat.zero_add]; exact h.frozenAt i

theorem nv_take_succ (l : List Nat) (i : Nat) : nv (l.take (i + 1)) = nv (l.take i) + BB ^ i * l.getD i 0 := by
  by_cases h : i < l.length
  · have h1 : (l.take (i + 1)).length = i + 1 := by simp; omega
    have h2 := nv_top h1
    rw [List.take_take, Nat.min_eq_left (by omega)] at h2
    rw [h2]
    simp [List.getD_eq_getElem?_getD]
  · rw [List.take_of_length_le (by omega), List.take_of_length_le (by omega), getD_over (by omega)]; simp
theorem nv_take_drop (l : List Nat) {i : Nat} (h : i ≤ l.length) : nv l = nv (l.take i) + BB ^ i * nv (l.drop i) := by
  conv => lhs; rw [← List.take_append_drop i l]
  rw [nv_append, List.length_take, Nat.min_eq_left h]
theorem nv_drop_ext {a b : List Nat} {i : Nat} (h : ∀ j, i ≤ j → a.getD j 0 = b.getD j 0) : nv (a.drop i) = nv (b.drop i) := by
  apply nv_ext
  intro j
  have := h (i + j) (by omega)
  simpa [List.getD_eq_getElem?_getD] using this
theorem take_set (L : List Nat) (i x : Nat) : (L.set i x).take i = L.take i := by
  rw [List.take_set]; apply List.set_eq_of_length_le; simp; omega
theorem getD_set_same {L : List Nat} {i x : Nat} (h : i < L.length) : (L.set i x).getD i 0 = x := by
  simp [List.getD_eq_getElem?_getD, h]
theorem getD_set_ne {L : List Nat} {i j x : Nat} (h : i ≠ j) : (L.set i x).getD j 0 = L.getD j 0 := by
  simp [List.getD_eq_getElem?_getD, h]
/-- the lowest i limbs are added -/
structure AddInv (S T L : List Nat) (i c : Nat) : Prop where
  carry : c < 2
  rest : ∀ j, i ≤ j → L.getD j 0 = S.getD j 0
  sum : nv (L.take i) + BB ^ i * c = nv (S.take i) + nv (T.take i)
theorem AddInv.start (S T : List Nat) : AddInv S T S 0 0 := ⟨by omega, fun _ _ => rfl, by simp [nv]⟩
theorem mod_div_sum (p v : Nat) : p * (v % BB) + p * BB * (v / BB) = p * v := by
  rw [Nat.mul_assoc, ← Nat.mul_add, Nat.mod_add_div]
theorem AddInv.step {S T L : List Nat} {i c s t : Nat} (h : AddInv S T L i c) (hi : i < L.length) (hs : S.getD i 0 = s) (ht : T.getD i 0 = t) (hS : s < BB) (hT : t < BB) :
    AddInv S T (L.set i ((c + (s + t)) % BB)) (i + 1) ((c + (s + t)) / BB) := by
  have hc := h.carry
  refine ⟨?_, fun j hj => ?_, ?_⟩
  · rw [Nat.div_lt_iff_lt_mul BB_pos]; omega
  · rw [getD_set_ne (by omega)]; exact h.rest j (by omega)
  · rw [nv_take_succ, take_set, getD_set_same hi, nv_take_succ S, nv_take_succ T, hs, ht, Nat.pow_succ]
    have h1 := mod_div_sum (BB ^ i) (c + (s + t))
    have h2 := h.sum
    rw [Nat.mul_add, Nat.mul_add] at h1
    omega
theorem AddInv.done {S T L : List Nat} {i c n : Nat} (h : AddInv S T L i c) (hL : L.length = n) (hS : S.length = n) (hl : Lim L) (hT : T.length ≤ i) (hi : i ≤ n) (hz : c = 0 ∨ i = n) :
    nv L = (nv S + nv T) % BB ^ n := by
  have h2 := h.sum
  rw [List.take_of_length_le hT] at h2
  have hlt := nv_lt hl
  rw [hL] at hlt
  have key : nv L + BB ^ n * c = nv S + nv T := by
    rcases hz with rfl | rfl
    · rw [nv_take_drop L (i := i) (by omega), nv_take_drop S (i := i) (by omega), nv_drop_ext h.rest]; omega
    · rw [List.take_of_length_le (by omega), List.take_of_length_le (by omega)] at h2; exact h2
  rw [← key, Nat.add_mul_mod_self_left, Nat.mod_eq_of_lt hlt]
theorem Win.set' {w : World} {b off n : Nat} {L : List Nat} (h : Win w b off n L) {i : Nat} (hi : i < n) {x : Nat} (hx : x < BB) {X : Int} (hX : X = x) : Win (w.setCell ⟨b, off + i, none⟩ (.int .u32 X)) b off n (L.set i x) := by
  subst hX; exact h.set hi hx
/-- what adding or subtracting in place leaves -/
def IPost (b off n N : Nat) (w : World) (e : Ending) (w' : World) : Prop := e = Ending.returned (.tuple #[]) ∧ ∃ L, Win w' b off n L ∧ nv L = N ∧ Only b off (off + n) w w'
set_option maxHeartbeats 800000 in
theorem addInto_c (b off n cap : Nat) (S : List Nat) (a' : Option Addr) (len' cap' : Nat) (T : List Nat) (w : World) (h : Win w b off n S) (hcap : n ≤ cap) (hcm : cap ≤ 9223372036854775807)
    (h' : Rd w a' len' cap' T) (hf : Far a' len' b) (hle : len' ≤ n) :
    Calls Tryd.prog 88 #[.slice (some ⟨b, off, none⟩) n cap, .slice a' len' cap'] w (IPost b off n ((nv S + nv T) % BB ^ n) w) := by
  have HW := Lib.hid h
  have HF := Lib.hid hf
  have HR := Lib.hid h'
  have HS := Lib.hid h.len_eq
  have HT := Lib.hid h'.len_eq
  have hlc' := h'.le_cap
  have hcm' := h'.cap_le
  clear h h' hf
  go_enter Tryd.func88, Tryd.ntmps88
  go_wp2
  go_loopw [10, 4] (fun i s wr => ∃ (k c : Nat) (L : List Nat), k ≤ len' ∧ i = .int .i64 k ∧ s = .int .u64 c ∧ c < 2 ∧ Hid (AddInv S T L k c) ∧ Hid (Win wr b off n L) ∧ Hid (Only b off (off + n) w wr)) (fun i _ _ => len' - (intOf i).toNat)
  case atStart => exact ⟨0, 0, S, by omega, rfl, rfl, by omega, Lib.hid (AddInv.start S T), HW, Lib.hid (Only.refl _ _ _ _)⟩
  case round =>
    obtain ⟨k, c, L, hk, rfl, rfl, hc, hinv, hwin, honly⟩ := hrel
    by_cases hlt : k < len'
    · obtain ⟨s, hs⟩ : ∃ s, S.getD k 0 = s := ⟨_, rfl⟩
      obtain ⟨t, ht⟩ : ∃ t, T.getD k 0 = t := ⟨_, rfl⟩
      have hsl : s < BB := by rw [← hs]; exact HW.out.lim.at k
      have htl : t < BB := by rw [← ht]; exact HR.out.lim.at k
      have hst := Lib.hid (hinv.out.step (by rw [hwin.out.len_eq]; omega) hs ht hsl htl)
      have c1 := hwin.out.cell k (by omega)
      rw [hinv.out.rest k (Nat.le_refl _), hs] at c1
      have f1 := hwin.out.free k (by omega)
      have hr2 := HR.out.only honly.out HF.out
      rcases hr2.cells with h0 | ⟨b', off', e, h0⟩
      · omega
      have c2 := h0 k hlt
      rw [ht] at c2
      have hwin2 := Lib.hid (hwin.out.set' (i := k) (by omega) (x := (c + (s + t)) % BB) (Nat.mod_lt _ BB_pos) (X := (↑c + (↑s + ↑t)) % 4294967296) (by simp [BB_eq]))
      have honly2 := Lib.hid (honly.out.set (j := off + k) (by omega) (by omega) (.int .u32 ((↑c + (↑s + ↑t)) % 4294967296)))
      rw [BB_eq] at hsl htl
      have hdiv : ((c + (s + t)) / BB : Nat) = (c + (s + t)) / 4294967296 := by rw [BB_eq]
      rw [hdiv] at hst
      clear hs ht hr2 h0 hdiv
      subst e
      go_wp2
      go_roundw
      case rel => exact ⟨k + 1, (c + (s + t)) / 4294967296, _, by omega, by go_num, by go_num, by omega, hst, hwin2, honly2⟩
      case measure => simp [intOf]; omega
    · have hkl : k = len' := by omega
      subst hkl
      go_wp2
      obtain ⟨wo, rfl⟩ : ∃ wo : World, wo = wr := ⟨_, rfl⟩
      go_loopw [7, 4] (fun i s wr => ∃ (j d : Nat) (M : List Nat), j ≤ n ∧ k ≤ j ∧ i = .int .i64 j ∧ s = .int .u64 d ∧ d < 2 ∧ Hid (AddInv S T M j d) ∧ Hid (Win wr b off n M) ∧ Hid (Only b off (off + n) w wr)) (fun i _ _ => n - (intOf i).toNat)
      case atStart => exact ⟨k, c, L, by omega, by omega, rfl, rfl, hc, hinv, hwin, honly⟩
      case round =>
        obtain ⟨j, d, M, hj, hkj, rfl, rfl, hd, hinv, hwin, honly⟩ := hrel
        by_cases hd0 : d = 0
        · subst hd0
          have hfin := Lib.hid (hinv.out.done hwin.out.len_eq HS.out hwin.out.lim (by rw [HT.out]; exact hkj) hj (.inl rfl))
          go_wp2
          refine bodyPost_ret (results_none rfl _ _ _) rfl ?_
          exact ⟨rfl, M, hwin.out, hfin.out, honly.out⟩
        · have hne : ((d : Int) != 0) = true := by rw [bne_iff_ne]; omega
          by_cases hjn : j < n
          · obtain ⟨s, hs⟩ : ∃ s, S.getD j 0 = s := ⟨_, rfl⟩
            have hsl : s < BB := by rw [← hs]; exact HW.out.lim.at j
            have hst := Lib.hid (hinv.out.step (by rw [hwin.out.len_eq]; omega) hs (getD_over (by rw [HT.out]; omega)) hsl BB_pos)
            have c1 := hwin.out.cell j (by omega)
            rw [hinv.out.rest j (Nat.le_refl _), hs] at c1
            have f1 := hwin.out.free j (by omega)
            have hwin2 := Lib.hid (hwin.out.set' (i := j) (by omega) (x := (d + (s + 0)) % BB) (Nat.mod_lt _ BB_pos) (X := (↑d + ↑s) % 4294967296) (by simp [BB_eq]))
            have honly2 := Lib.hid (honly.out.set (j := off + j) (by omega) (by omega) (.int .u32 ((↑d + ↑s) % 4294967296)))
            rw [BB_eq] at hsl
            have hdiv : ((d + (s + 0)) / BB : Nat) = (d + s) / 4294967296 := by rw [BB_eq, Nat.add_zero]
            rw [hdiv] at hst
            clear hs hdiv
            go_wp2
            go_roundw
            case rel => exact ⟨j + 1, (d + s) / 4294967296, _, by omega, by omega, by go_num, by go_num, by omega, hst, hwin2, honly2⟩
            case measure => simp [intOf]; omega
          · have hjn : j = n := by omega
            have hfin := Lib.hid (hinv.out.done hwin.out.len_eq HS.out hwin.out.lim (by rw [HT.out]; exact hkj) hj (.inr hjn))
            subst hjn
            go_wp2
            refine bodyPost_ret (results_none rfl _ _ _) rfl ?_
            exact ⟨rfl, M, hwin.out, hfin.out, honly.out⟩

theorem Tryd.sizeU : (Tryd.prog.info? 56).map (·.size) = some 1 := by kernel_rfl
theorem Only.setCells (b lo up : Nat) : ∀ (vs : List Value) (o : Nat) (w : World), lo ≤ o → o + vs.length ≤ up → Only b lo up w (w.setCells b o vs)
  | [], _, w, _, _ => Only.refl _ _ _ _
  | v :: r, o, w, h1, h2 => by
    simp only [List.length_cons] at h2
    exact ((Only.refl b lo up w).set (j := o) h1 (by omega) v).trans (Only.setCells b lo up r (o + 1) _ (by omega) (by omega))
/-- limbs 0 -/
def zer (n : Nat) : List Nat := List.replicate n 0
theorem zer_length (n : Nat) : (zer n).length = n := by simp [zer]
theorem zer_getD (n j : Nat) : (zer n).getD j 0 = 0 := by
  simp [zer, List.getD_eq_getElem?_getD, List.getElem?_replicate]; split <;> rfl
theorem nv_zer (n : Nat) : nv (zer n) = 0 := by
  have := nv_ext (zer n) [] (fun j => by rw [zer_getD]; simp)
  rw [this]; rfl
theorem zer_lim (n : Nat) : Lim (zer n) := by
  intro x hx
  have := List.eq_of_mem_replicate hx
  rw [this]; exact BB_pos
theorem wpList_make_win (w : World) {ops : Array Oper} {rest : List Oper} {o : Oper} {a : Act} {Q : Exit → Act → World → Prop}
    (hg : o.guard = none) (l c : Operand) (t : TypeId) (hop : o.op = Op.makeSlice t l c) (ht : Tryd.prog.underlying t = some (.slice 56))
    (X : Int) (n : Nat) (hl : a.eval l = .int .i64 X) (hc : a.eval c = .int .i64 X) (hX : X = n) (hb : n ≤ 1073741824)
    (hK : ∀ w', Hid (Win w' w.heap.size 0 n (zer n)) → Below w.heap.size w w' → w'.heap.size = w.heap.size + 1 → wpList Tryd.prog ops Q rest (a.put o.dst (.slice (some ⟨w.heap.size, 0, none⟩) n n)) w') :
    wpList Tryd.prog ops Q (o :: rest) a w := by
  subst hX
  refine wpList_plain hg fun K hK' => ?_
  have hrun := run_make_row' (P := Tryd.prog) t 56 (.int .u32 0) 4 ht Tryd.infoU rfl .i64 .i64 n (by omega) (by omega) w
  have hr := World.rowIs_made w (.int .u32 0) n 56
  unfold Oper.wp
  simp [execOp, hop, hl, hc, hrun, Result.andThen]
  refine hK' _ _ (hK _ (Lib.hid ⟨zer_length n, zer_lim n, fun i hi => ?_, fun i hi => ?_⟩) ((Below.refl _ _).alloc (Nat.le_refl _) _) (by simp))
  · rw [Nat.zero_add, hr.cell hi, zer_getD]; rfl
  · rw [Nat.zero_add]; exact hr.frozen i
theorem wpList_copy_win {w : World} {ops : Array Oper} {rest : List Oper} {o : Oper} {a : Act} {Q : Exit → Act → World → Prop} (hgd : o.guard = none) (d s : Operand) (dT sT : TypeId)
    (ho : o.op = .call { callee := .builtin .copy, args := #[d, s], argTypes := #[dT, sT] }) (hu : Tryd.prog.underlying dT = some (.slice 56))
    (b off n cap : Nat) (L : List Nat) (ad : Option Addr) (len sc : Nat) (l : List Nat) (hd : a.eval d = .slice (some ⟨b, off, none⟩) n cap) (hs : a.eval s = .slice ad len sc)
    (hw : Win w b off n L) (hr : Rd w ad len sc l) (hle : len ≤ n)
    (h : ∀ w', Hid (Win w' b off n (l ++ L.drop len)) → Hid (Only b off (off + n) w w') → wpList Tryd.prog ops Q rest (a.put o.dst (goInt len)) w') :
    wpList Tryd.prog ops Q (o :: rest) a w := by
  refine wpList_plain hgd fun K hK => ?_
  have key : ∃ w', (Builtin.copy_ #[dT, sT] o.type #[.slice (some ⟨b, off, none⟩) n cap, .slice ad len sc]).run Tryd.prog w = .ok (goInt len) w' ∧ Win w' b off n (l ++ L.drop len) ∧ Only b off (off + n) w w' := by
    by_cases h0 : len = 0
    · subst h0
      have hnil : l = [] := List.length_eq_zero_iff.1 hr.len_eq
      subst hnil
      exact ⟨w, run_copy_none (P := Tryd.prog) w dT sT o.type 56 _ _ _ _ _ _ hu Tryd.sizeU (by simp), by simpa using hw, Only.refl _ _ _ _⟩
    · rcases hr.cells with h1 | ⟨b', off', rfl, h1⟩
      · exact absurd h1 h0
      have hle2 := hr.len_eq
      refine ⟨w.setCells b off (lv l), ?_, ?_, Only.setCells _ _ _ _ _ _ (Nat.le_refl _) (by rw [lv_length]; omega)⟩
      · have := run_copy_cells (P := Tryd.prog) w dT sT o.type 56 b off n cap ⟨b', off', none⟩ len sc (lv l) hu Tryd.sizeU (by rw [lv_length, hle2]; exact (Nat.min_eq_left hle).symm)
          (by
            intro j v hv
            simp only [lv, List.getElem?_map, Option.map_eq_some_iff] at hv
            obtain ⟨m, hm, rfl⟩ := hv
            have hjl : j < l.length := (List.getElem?_eq_some_iff.1 hm).1
            rw [show (⟨b', off', none⟩ : Addr).add j = ⟨b', off' + j, none⟩ from by unfold Addr.add; split <;> simp_all]
            rw [h1 j (by omega)]; simp [List.getD_eq_getElem?_getD, hm])
          (fun j hj => by rw [lv_length] at hj; rw [hw.cell j (by omega)]; rfl) (fun j hj => by rw [lv_length] at hj; exact hw.free j (by omega))
          (by intro u hu; simp only [lv, List.mem_map] at hu; obtain ⟨m, _, rfl⟩ := hu; rfl)
        rw [lv_length, hle2] at this
        exact this
      · have hl2 := hw.len_eq
        refine ⟨by simp; omega, hr.lim.append (hw.lim.drop _), fun i hi => ?_, fun i hi => by rw [World.frozen?_setCells]; exact hw.free i hi⟩
        by_cases hi2 : i < len
        · rw [World.cell?_setCells_in b (lv l) off w (fun j hj => by rw [lv_length] at hj; rw [hw.cell j (by omega)]; rfl) i (by rw [lv_length]; omega)]
          simp [lv, List.getD_eq_getElem?_getD, List.getElem?_append, hle2, hi2]
        · rw [World.cell?_setCells_out b (lv l) off w _ (fun _ _ => .inr (by rw [lv_length]; simp; omega)), hw.cell i hi]
          simp [List.getD_eq_getElem?_getD, List.getElem?_append, hle2, hi2, show len + (i - len) = i by omega]
  obtain ⟨w', h1, h2, h3⟩ := key
  unfold Oper.wp
  simp [execOp, ho, resolve, invoke, builtin, hd, hs, h1, Result.andThen]
  exact hK _ _ (h w' (Lib.hid h2) (Lib.hid h3))

theorem nv_pad (l : List Nat) (k : Nat) : nv (l ++ zer k) = nv l := by rw [nv_append, nv_zer]; simp
theorem zer_drop (n k : Nat) : (zer n).drop k = zer (n - k) := by simp [zer]
theorem add_lt {l t : List Nat} {n m : Nat} (hl : Lim l) (ht : Lim t) (hln : l.length = n) (htm : t.length = m) (h : m ≤ n) : nv l + nv t < BB ^ (n + 1) := by
  have a := nv_lt hl
  have b := nv_lt ht
  have c : BB ^ m ≤ BB ^ n := Nat.pow_le_pow_right BB_pos h
  rw [hln] at a
  rw [htm] at b
  rw [Nat.pow_succ, Nat.mul_comm]
  have : 2 * BB ^ n ≤ BB * BB ^ n := Nat.mul_le_mul_right _ (by decide)
  omega
theorem Rd.npost {w0 w : World} {b cap n N : Nat} {L : List Nat} (h : Win w b 0 n L) (h1 : n ≤ cap) (h2 : cap ≤ 9223372036854775807) (hN : nv L = N) (hb : Below w0.heap.size w0 w) :
    NPost N w0 (.returned (.slice (some ⟨b, 0, none⟩) (dig (nv L)).length cap)) w := by
  subst hN
  exact ⟨_, _, rfl, (h.rd h1 h2).trimmed, hb⟩

set_option maxHeartbeats 800000 in
theorem add_ge (a a' : Option Addr) (len cap len' cap' : Nat) (l t : List Nat) (w : World) (h : Rd w a len cap l) (h' : Rd w a' len' cap' t) (hb : len ≤ 1048576) (hb' : len' ≤ 1048576)
    (hord : ¬ (dig (nv l)).length < (dig (nv t)).length) :
    Calls Tryd.prog 69 #[.slice a len cap, .slice a' len' cap'] w (NPost (nv l + nv t) w) := by
  have H := Lib.hid h
  have H' := Lib.hid h'
  have HT := h.trimmed
  have HT' := h'.trimmed
  have hle := dig_length_le h.lim
  have hle' := dig_length_le h'.lim
  rw [h.len_eq] at hle
  rw [h'.len_eq] at hle'
  obtain ⟨x, hx⟩ : ∃ x, dig (nv l) = x := ⟨_, rfl⟩
  obtain ⟨y, hy⟩ : ∃ y, dig (nv t) = y := ⟨_, rfl⟩
  have hX : Hid (nv x = nv l) := Lib.hid (by rw [← hx, nv_dig])
  have hY : Hid (nv y = nv t) := Lib.hid (by rw [← hy, nv_dig])
  obtain ⟨n, hn⟩ : ∃ n, x.length = n := ⟨_, rfl⟩
  obtain ⟨m, hm⟩ : ∃ m, y.length = m := ⟨_, rfl⟩
  have HX : Hid ((dig (nv l)).length = n) := Lib.hid (by rw [hx, hn])
  have HY : Hid ((dig (nv t)).length = m) := Lib.hid (by rw [hy, hm])
  rw [hx, hn] at HT hle hord
  rw [hy, hm] at HT' hle' hord
  have HRX := Lib.hid HT
  have HRY := Lib.hid HT'
  have hsum : Hid (nv l + nv t < BB ^ (n + 1)) := Lib.hid (by rw [← hX.out, ← hY.out]; exact add_lt HT.lim HT'.lim hn hm (by omega))
  clear h h' hx hy hn hm HT HT'
  go_enter Tryd.func69, Tryd.ntmps69
  go_wp2_with fail
  refine (trim_c _ _ _ l _ H.out).mono ?_
  rw [HX.out]
  rintro e w' ⟨rfl, rfl⟩
  go_wp2_with fail
  refine (trim_c _ _ _ t _ H'.out).mono ?_
  rw [HY.out]
  rintro e w' ⟨rfl, rfl⟩
  go_wp2_with (at_make; refine wpList_make_win _ rfl _ _ 23 rfl Tryd.underlying23 _ (n + 1) rfl rfl (by push_cast; rfl) (by omega) ?_)
  intro w1 hwin1 hb1 hs1
  have HA := Lib.hid (HRX.out.below hb1)
  have HB := Lib.hid (HRY.out.below hb1)
  have HFA := Lib.hid (HRX.out.far (Nat.le_refl _))
  have HFB := Lib.hid (HRY.out.far (Nat.le_refl _))
  go_wp2_with (refine wpList_copy_win (o := ⟨some 23, _, _, _, _, _⟩) rfl _ _ 23 23 rfl Tryd.underlying23 _ _ _ _ _ _ _ _ _ rfl rfl hwin1.out HA.out (by omega) ?_)
  intro w2 hwin2 ho2
  have HC := Lib.hid (HB.out.only ho2.out HFB.out)
  have hb2 := ho2.out.below (Nat.le_refl _)
  go_wp2_with fail
  refine (addInto_c _ _ _ _ _ _ _ _ _ _ hwin2.out (Nat.le_refl _) (by omega) HC.out HFB.out (by omega)).mono ?_
  rintro e w3 ⟨rfl, L, hwin3, hL, ho3⟩
  have hNV : Hid (nv L = nv l + nv t) := Lib.hid (by
    rw [hL, zer_drop, nv_pad, hX.out, hY.out, Nat.mod_eq_of_lt hsum.out])
  have HW3 := Lib.hid hwin3
  have hb3 := hb1.trans (hb2.trans (ho3.below (Nat.le_refl _)))
  clear hL hwin3 ho3 hb1 hb2 hs1
  go_wp2_with fail
  refine (trim_c _ _ _ _ _ (HW3.out.rd (Nat.le_refl _) (by omega))).mono ?_
  rintro e w4 ⟨rfl, rfl⟩
  go_wp2_with fail
  go_ret
  exact Rd.npost HW3.out (Nat.le_refl _) (by omega) hNV.out hb3

set_option maxHeartbeats 800000 in
theorem add_lt_c (a a' : Option Addr) (len cap len' cap' : Nat) (l t : List Nat) (w : World) (h : Rd w a len cap l) (h' : Rd w a' len' cap' t) (hb : len ≤ 1048576) (hb' : len' ≤ 1048576)
    (hord : (dig (nv l)).length < (dig (nv t)).length) :
    Calls Tryd.prog 69 #[.slice a len cap, .slice a' len' cap'] w (NPost (nv l + nv t) w) := by
  have H := Lib.hid h
  have H' := Lib.hid h'
  have HT := h.trimmed
  have HT' := h'.trimmed
  have hle := dig_length_le h.lim
  have hle' := dig_length_le h'.lim
  rw [h.len_eq] at hle
  rw [h'.len_eq] at hle'
  obtain ⟨x, hx⟩ : ∃ x, dig (nv l) = x := ⟨_, rfl⟩
  obtain ⟨y, hy⟩ : ∃ y, dig (nv t) = y := ⟨_, rfl⟩
  have hX : Hid (nv x = nv l) := Lib.hid (by rw [← hx, nv_dig])
  have hY : Hid (nv y = nv t) := Lib.hid (by rw [← hy, nv_dig])
  obtain ⟨n, hn⟩ : ∃ n, x.length = n := ⟨_, rfl⟩
  obtain ⟨m, hm⟩ : ∃ m, y.length = m := ⟨_, rfl⟩
  have HX : Hid ((dig (nv l)).length = n) := Lib.hid (by rw [hx, hn])
  have HY : Hid ((dig (nv t)).length = m) := Lib.hid (by rw [hy, hm])
  rw [hx, hn] at HT hle hord
  rw [hy, hm] at HT' hle' hord
  have HRX := Lib.hid HT
  have HRY := Lib.hid HT'
  have hsum : Hid (nv l + nv t < BB ^ (m + 1)) := Lib.hid (by rw [← hX.out, ← hY.out]; rw [Nat.add_comm]; exact add_lt HT'.lim HT.lim hm hn (by omega))
  clear h h' hx hy hn hm HT HT'
  go_enter Tryd.func69, Tryd.ntmps69
  go_wp2_with fail
  refine (trim_c _ _ _ l _ H.out).mono ?_
  rw [HX.out]
  rintro e w' ⟨rfl, rfl⟩
  go_wp2_with fail
  refine (trim_c _ _ _ t _ H'.out).mono ?_
  rw [HY.out]
  rintro e w' ⟨rfl, rfl⟩
  go_wp2_with (at_make; refine wpList_make_win _ rfl _ _ 23 rfl Tryd.underlying23 _ (m + 1) rfl rfl (by push_cast; rfl) (by omega) ?_)
  intro w1 hwin1 hb1 hs1
  have HA := Lib.hid (HRX.out.below hb1)
  have HB := Lib.hid (HRY.out.below hb1)
  have HFA := Lib.hid (HRX.out.far (Nat.le_refl _))
  have HFB := Lib.hid (HRY.out.far (Nat.le_refl _))
  go_wp2_with (refine wpList_copy_win (o := ⟨some 23, _, _, _, _, _⟩) rfl _ _ 23 23 rfl Tryd.underlying23 _ _ _ _ _ _ _ _ _ rfl rfl hwin1.out HB.out (by omega) ?_)
  intro w2 hwin2 ho2
  have HC := Lib.hid (HA.out.only ho2.out HFA.out)
  have hb2 := ho2.out.below (Nat.le_refl _)
  go_wp2_with fail
  refine (addInto_c _ _ _ _ _ _ _ _ _ _ hwin2.out (Nat.le_refl _) (by omega) HC.out HFA.out (by omega)).mono ?_
  rintro e w3 ⟨rfl, L, hwin3, hL, ho3⟩
  have hNV : Hid (nv L = nv l + nv t) := Lib.hid (by
    rw [hL, zer_drop, nv_pad, hY.out, hX.out, Nat.add_comm (nv t), Nat.mod_eq_of_lt hsum.out])
  have HW3 := Lib.hid hwin3
  have hb3 := hb1.trans (hb2.trans (ho3.below (Nat.le_refl _)))
  clear hL hwin3 ho3 hb1 hb2 hs1
  go_wp2_with fail
  refine (trim_c _ _ _ _ _ (HW3.out.rd (Nat.le_refl _) (by omega))).mono ?_
  rintro e w4 ⟨rfl, rfl⟩
  go_wp2_with fail
  go_ret
  exact Rd.npost HW3.out (Nat.le_refl _) (by omega) hNV.out hb3

theorem add_c (a a' : Option Addr) (len cap len' cap' : Nat) (l t : List Nat) (w : World) (h : Rd w a len cap l) (h' : Rd w a' len' cap' t) (hb : len ≤ 1048576) (hb' : len' ≤ 1048576) :
    Calls Tryd.prog 69 #[.slice a len cap, .slice a' len' cap'] w (NPost (nv l + nv t) w) := by
  by_cases hord : (dig (nv l)).length < (dig (nv t)).length
  · exact add_lt_c a a' len cap len' cap' l t w h h' hb hb' hord
  · exact add_ge a a' len cap len' cap' l t w h h' hb hb' hord

/-- the lowest k limbs of the sum -/
structure RAdd (l t L : List Nat) (k c : Nat) : Prop where
  carry : c < 2
  len : L.length = k
  lim : Lim L
  sum : nv L + BB ^ k * c = nv (l.take k) + nv (t.take k)
theorem RAdd.start (l t : List Nat) : RAdd l t [] 0 0 := ⟨by omega, rfl, Lim.nil, by simp [nv]⟩
theorem RAdd.step {l t L : List Nat} {k c x y : Nat} (h : RAdd l t L k c) (hx : l.getD k 0 = x) (hy : t.getD k 0 = y) (hX : x < BB) (hY : y < BB) :
    RAdd l t (L ++ [(c + (x + y)) % BB]) (k + 1) ((c + (x + y)) / BB) := by
  have hc := h.carry
  refine ⟨?_, by simp [h.len], h.lim.append (Lim.cons (Nat.mod_lt _ BB_pos) Lim.nil), ?_⟩
  · rw [Nat.div_lt_iff_lt_mul BB_pos]; omega
  · rw [nv_append, h.len, nv_take_succ l, nv_take_succ t, hx, hy, Nat.pow_succ]
    have h1 := mod_div_sum (BB ^ k) (c + (x + y))
    have h2 := h.sum
    simp only [nv, Nat.mul_zero, Nat.add_zero]
    rw [Nat.mul_add, Nat.mul_add] at h1
    omega
theorem RAdd.done {l t L : List Nat} {k c : Nat} (h : RAdd l t L k c) (h1 : l.length ≤ k) (h2 : t.length ≤ k) : nv (L ++ [c]) = nv l + nv t := by
  have := h.sum
  rw [List.take_of_length_le h1, List.take_of_length_le h2] at this
  rw [nv_append, h.len]
  simpa [nv] using this
theorem lv_snoc (L : List Nat) (x : Nat) : lv L ++ lv [x] = lv (L ++ [x]) := by simp [lv]
theorem own_ge {w : World} {base : Nat} {e : TypeId} {size : Nat} {v : Value} {n : Nat} {xs : List Value} (h : w.ownsRow base e size v n xs) {j : Nat} (hj : v.ownBlock = some j) : base ≤ j := by
  rcases h.2 with ⟨rfl, _⟩ | ⟨g, cap, cur, rfl, hg, _⟩
  · simp [Value.ownBlock] at hj
  · simp [Value.ownBlock] at hj; omega
set_option maxHeartbeats 1600000 in
theorem radd_c (a a' : Option Addr) (len cap len' cap' : Nat) (l t : List Nat) (w : World) (h : Rd w a len cap l) (h' : Rd w a' len' cap' t) (hb : len ≤ 1048575) (hb' : len' ≤ 1048575) :
    Calls Tryd.prog 74 #[.slice a len cap, .slice a' len' cap'] w (NPost (nv l + nv t) w) := by
  have H := Lib.hid h
  have H' := Lib.hid h'
  have HL := Lib.hid h.len_eq
  have HL' := Lib.hid h'.len_eq
  clear h h'
  go_enter Tryd.func74, Tryd.ntmps74
  go_wp2
  go_loopw [5, 6, 7] (fun o s i wr => ∃ (k c : Nat) (L : List Nat), k ≤ 1048575 ∧ i = .int .i64 k ∧ s = .int .u64 c ∧ c < 2 ∧ Hid (RAdd l t L k c) ∧ Hid (wr.ownsRow w.heap.size 56 1 o k (lv L)) ∧ Hid (Below w.heap.size w wr)) (fun _ _ i _ => len + len' - (intOf i).toNat)
  case atStart => exact ⟨0, 0, [], by omega, rfl, rfl, by omega, Lib.hid (RAdd.start l t), Lib.hid (World.ownsRow_nil _ _ _ _), Lib.hid (Below.refl _ _)⟩
  case round =>
    obtain ⟨k, c, L, hk, rfl, rfl, hc, hinv, hown, hbel⟩ := hrel
    obtain ⟨va, vc, rfl⟩ := own_slice hown.out
    have H1 := Lib.hid (H.out.below hbel.out)
    have H1' := Lib.hid (H'.out.below hbel.out)
    by_cases hlt : k < len ∨ k < len'
    · obtain ⟨x, hx⟩ : ∃ x, l.getD k 0 = x := ⟨_, rfl⟩
      obtain ⟨y, hy⟩ : ∃ y, t.getD k 0 = y := ⟨_, rfl⟩
      have hX : x < BB := by rw [← hx]; exact H.out.lim.at k
      have hY : y < BB := by rw [← hy]; exact H'.out.lim.at k
      have LX := Lib.hid (limb_c _ _ _ _ k wr H1.out)
      have LY := Lib.hid (limb_c _ _ _ _ k wr H1'.out)
      rw [hx] at LX
      rw [hy] at LY
      have hst := Lib.hid (hinv.out.step hx hy hX hY)
      have HO := Lib.hid (own_below hown.out ((Below.refl wr.heap.size wr).alloc (Nat.le_refl _) (.cells #[.int .u32 ((↑c + (↑x + ↑y)) % 4294967296)] 56)))
      have HR := Lib.hid (Rd.one' wr ((c + (x + y)) % BB) ((↑c + (↑x + ↑y)) % 4294967296) (by simp [BB_eq]) (Nat.mod_lt _ BB_pos) 56)
      have hba := hbel.out.alloc hbel.out.size (.cells #[.int .u32 ((↑c + (↑x + ↑y)) % 4294967296)] 56)
      have hsz : w.heap.size ≤ (wr.alloc (.cells #[.int .u32 ((↑c + (↑x + ↑y)) % 4294967296)] 56)).heap.size := hba.size
      rw [BB_eq] at hX hY
      have hdiv : ((c + (x + y)) / BB : Nat) = (c + (x + y)) / 4294967296 := by rw [BB_eq]
      rw [hdiv] at hst
      have HBA := Lib.hid hba
      have HSZ := Lib.hid hsz
      clear hx hy hdiv hba hsz
      have OG := Lib.hid (fun j => @own_ge wr w.heap.size 56 1 (.slice va k vc) k (lv L) hown.out j)
      by_cases h1 : k < len
      all_goals
        go_wp2_with fail
        refine LX.out.mono ?_
        rintro e w' ⟨rfl, rfl⟩
        go_wp2_with fail
        refine LY.out.mono ?_
        rintro e w' ⟨rfl, rfl⟩
        go_wp2_with (at_builtin; refine wpList_append_rd rfl _ _ 22 22 rfl Tryd.underlying22 Tryd.underlying22 w.heap.size _ k _ rfl HO.out _ _ _ _ rfl HR.out (by omega) HSZ.out ?_)
        intro v w1 hown2 hgrow
        have hbel2 : Below w.heap.size w w1 := HBA.out.grown hgrow HSZ.out (fun j hj => OG.out j hj)
        rw [lv_snoc] at hown2
        clear hgrow
        go_wp2
        go_roundw
        case rel => exact ⟨k + 1, (c + (x + y)) / 4294967296, _, by omega, by go_num, by go_num, by omega, hst, Lib.hid hown2, Lib.hid hbel2⟩
        case measure => simp [intOf]; omega
    · have HO := Lib.hid (own_below hown.out ((Below.refl wr.heap.size wr).alloc (Nat.le_refl _) (.cells #[.int .u32 ↑c] 56)))
      have HR := Lib.hid (Rd.one' wr c ↑c rfl (by rw [BB_eq]; omega) 56)
      have hba := hbel.out.alloc hbel.out.size (.cells #[.int .u32 ↑c] 56)
      have hsz : w.heap.size ≤ (wr.alloc (.cells #[.int .u32 ↑c] 56)).heap.size := hba.size
      have HBA := Lib.hid hba
      have HSZ := Lib.hid hsz
      have OG := Lib.hid (fun j => @own_ge wr w.heap.size 56 1 (.slice va k vc) k (lv L) hown.out j)
      have hfin := Lib.hid (hinv.out.done (by rw [HL.out]; omega) (by rw [HL'.out]; omega))
      have hlim := Lib.hid (hinv.out.lim.append (Lim.cons (show c < BB by rw [BB_eq]; omega) Lim.nil))
      have hlen : Hid ((L ++ [c]).length = k + 1) := Lib.hid (by simp [hinv.out.len])
      clear hba hsz
      go_wp2_with (at_builtin; refine wpList_append_rd rfl _ _ 22 22 rfl Tryd.underlying22 Tryd.underlying22 w.heap.size _ k _ rfl HO.out _ _ _ _ rfl HR.out (by omega) HSZ.out ?_)
      intro v w1 hown2 hgrow
      have hbel2 : Below w.heap.size w w1 := HBA.out.grown hgrow HSZ.out (fun j hj => OG.out j hj)
      rw [lv_snoc, ← hlen.out] at hown2
      obtain ⟨va2, vc2, rfl, hr2⟩ := Rd.owns hown2 hlim.out
      rw [hlen.out] at hr2 ⊢
      have HR2 := Lib.hid hr2
      clear hgrow hown2 hr2
      go_wp2_with fail
      refine (rmake_c _ _ _ _ _ HR2.out (by omega)).mono ?_
      rw [hfin.out]
      rintro e w2 ⟨a2, c2, rfl, hr3, hb3⟩
      have hb4 := hbel2.trans (hb3.mono hbel2.size)
      go_wp2_with fail
      go_ret
      exact ⟨a2, c2, rfl, hr3, hb4⟩

/-- the limb of a difference, and the borrow -/
def sbD (x y b : Nat) : Nat := (x + 8589934592 - y - b) % 4294967296
def sbB (x y b : Nat) : Nat := if x < y + b then 1 else 0
theorem sbB_lt (x y b : Nat) : sbB x y b < 2 := by unfold sbB; split <;> omega
theorem sbD_lt (x y b : Nat) : sbD x y b < BB := Nat.mod_lt _ (by decide)
theorem sb_eq {x y b : Nat} (hx : x < BB) (hy : y < BB) (hb : b < 2) : sbD x y b + y + b = x + BB * sbB x y b := by
  rw [BB_eq] at *
  unfold sbD sbB
  split <;> omega
theorem top_bits (x y d : Nat) : ((((4294967295 ^^^ x) &&& y) ||| ((4294967295 ^^^ (x ^^^ y)) &&& d)) / 2147483648)
    = ((1 ^^^ (x / 2147483648)) &&& (y / 2147483648)) ||| ((1 ^^^ ((x / 2147483648) ^^^ (y / 2147483648))) &&& (d / 2147483648)) := by
  have e : ∀ n : Nat, n / 2147483648 = n >>> 31 := fun n => by rw [Nat.shiftRight_eq_div_pow]
  simp only [e, Nat.shiftRight_or_distrib, Nat.shiftRight_and_distrib, Nat.shiftRight_xor_distrib]
  rfl
theorem sb_bits {x y b : Nat} (hx : x < 4294967296) (hy : y < 4294967296) (hb : b < 2) :
    ((((4294967295 ^^^ x) &&& y) ||| ((4294967295 ^^^ (x ^^^ y)) &&& sbD x y b)) / 2147483648) = sbB x y b := by
  rw [top_bits]
  have key : ∀ X Y D : Nat, X < 2 → Y < 2 → D < 2 → ((1 ^^^ X) &&& Y) ||| ((1 ^^^ (X ^^^ Y)) &&& D) = if X < Y then 1 else if X = Y then D else 0 := by
    intro X Y D h1 h2 h3
    rcases (show X = 0 ∨ X = 1 by omega) with rfl | rfl <;> rcases (show Y = 0 ∨ Y = 1 by omega) with rfl | rfl <;> rcases (show D = 0 ∨ D = 1 by omega) with rfl | rfl <;> decide
  have hd : sbD x y b < 4294967296 := sbD_lt x y b
  rw [key _ _ _ (by omega) (by omega) (by omega)]
  unfold sbB sbD
  split <;> split <;> (try split) <;> omega
theorem sb_int {x y b : Nat} (hx : x < 4294967296) (hy : y < 4294967296) (hb : b < 2) : (((x : Int) - y) % 4294967296 - b) % 4294967296 = (sbD x y b : Nat) := by
  unfold sbD; omega
theorem sb_int2 {x y b : Nat} (hx : x < 4294967296) (hy : y < 4294967296) (hb : b < 2) : ((x : Int) - y - b) % 4294967296 = (sbD x y b : Nat) := by
  unfold sbD; omega
theorem sb_bor {x y b : Nat} (hx : x < 4294967296) (hy : y < 4294967296) (hb : b < 2) :
    bits BinOp.or IntKind.u32 (bits BinOp.and IntKind.u32 (bits BinOp.xor IntKind.u32 IntKind.u32.max ↑x) ↑y)
      (bits BinOp.and IntKind.u32 (bits BinOp.xor IntKind.u32 IntKind.u32.max (bits BinOp.xor IntKind.u32 ↑x ↑y)) (((x : Int) - y - b) % 4294967296)) / 2147483648 = (sbB x y b : Nat) := by
  have hd : sbD x y b < 4294967296 := sbD_lt x y b
  have hm : IntKind.u32.max = ((4294967295 : Nat) : Int) := by decide
  have l2 : ∀ a c : Nat, a < 4294967296 → c < 4294967296 → a ^^^ c < 4294967296 := fun a c h1 h2 => Nat.xor_lt_two_pow (n := 32) h1 h2
  have l1 : ∀ a c : Nat, c < 4294967296 → a &&& c < 4294967296 := fun a c h2 => Nat.and_lt_two_pow (n := 32) _ h2
  rw [sb_int2 hx hy hb, hm, u32_xor_nat _ _ (by omega) hx, u32_and_nat _ _ (l2 _ _ (by omega) hx) hy, u32_xor_nat _ _ hx hy, u32_xor_nat _ _ (by omega) (l2 _ _ hx hy),
    u32_and_nat _ _ (l2 _ _ (by omega) (l2 _ _ hx hy)) hd, u32_or_nat _ _ (l1 _ _ hy) (l1 _ _ hd), ← sb_bits hx hy hb]
  rw [Int.natCast_ediv]; rfl
theorem sub32_c (x y b : Nat) (w : World) (hx : x < 4294967296) (hy : y < 4294967296) (hb : b < 2) :
    Calls Tryd.prog 100 #[.int .u32 x, .int .u32 y, .int .u32 b] w fun e w' => e = .returned (.tuple #[.int .u32 (sbD x y b : Nat), .int .u32 (sbB x y b : Nat)]) ∧ w = w' := by
  have H1 := Lib.hid (sb_int hx hy hb)
  have H2 := Lib.hid (sb_bor hx hy hb)
  have hsg : IntKind.u32.signed = false := rfl
  go_enter Tryd.func100, Tryd.ntmps100
  go_wp2
  go_ret2
  exact ⟨ret_two (val_int H1.out) (val_int H2.out), rfl⟩
end Go.Proofs.YtnalmjbgkedcoaaDoor
