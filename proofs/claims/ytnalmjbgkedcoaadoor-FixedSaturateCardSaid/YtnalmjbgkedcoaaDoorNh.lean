/- Carried over from another seat by program (portn.py). -/
import Derived.Test.YtnalmjbgkedcoaaDoorNe
namespace Go.Proofs.YtnalmjbgkedcoaaDoor
open Go.RowKit
set_option linter.unusedVariables false
theorem made_zer (n : Nat) : (madeCells #[(.int .u32 0 : Value)] n).toList = lv (zer n) := by
  apply List.ext_getElem
  · simp [madeCells, lv, zer_length]
  · intro i h1 h2
    have h3 : i < n := by simpa [lv, zer_length] using h2
    have h4 : (zer n)[i]'(by rw [zer_length]; exact h3) = 0 := by simp [zer]
    simp [madeCells, lv, h4, Nat.mod_one]
theorem wpList_make_own (w : World) {ops : Array Oper} {rest : List Oper} {o : Oper} {a : Act} {Q : Exit → Act → World → Prop}
    (hg : o.guard = none) (l c : Operand) (t : TypeId) (hop : o.op = Op.makeSlice t l c) (ht : Tryd.prog.underlying t = some (.slice 56))
    (X : Int) (n : Nat) (hl : a.eval l = .int .i64 X) (hc : a.eval c = .int .i64 X) (hX : X = n) (hb : n ≤ 1073741824)
    (hK : ∀ w', Hid (w'.ownsRow w.heap.size 56 1 (.slice (some ⟨w.heap.size, 0, none⟩) n n) n (lv (zer n))) → Below w.heap.size w w' → wpList Tryd.prog ops Q rest (a.put o.dst (.slice (some ⟨w.heap.size, 0, none⟩) n n)) w') :
    wpList Tryd.prog ops Q (o :: rest) a w := by
  subst hX
  refine wpList_plain hg fun K hK' => ?_
  have hrun := run_make_row' (P := Tryd.prog) t 56 (.int .u32 0) 4 ht Tryd.infoU rfl .i64 .i64 n (by omega) (by omega) w
  have hr := World.ownsRow_lit (base := w.heap.size) (e := 56) (size := 1) w (madeCells #[(.int .u32 0 : Value)] n) n (Nat.le_refl _) (by unfold maxLen; omega) (by simp [madeCells])
  rw [made_zer] at hr
  unfold Oper.wp
  simp [execOp, hop, hl, hc, hrun, Result.andThen]
  exact hK' _ _ (hK _ (Lib.hid hr) ((Below.refl _ _).alloc (Nat.le_refl _) _))
/-- the limbs before i are shifted, carry c -/
structure RShl (x L : List Nat) (q P i c : Nat) : Prop where
  val : nv L + BB ^ (q + i) * c = BB ^ q * (P * nv (x.take i))
  len : L.length = q + i
  lim : Lim L
  lt : c < P
theorem RShl.start (x : List Nat) (q P : Nat) (hP : 0 < P) : RShl x (zer q) q P 0 0 := ⟨by rw [nv_zer]; simp [nv], zer_length q, zer_lim q, hP⟩
theorem RShl.step {x L : List Nat} {q P i c y v : Nat} (h : RShl x L q P i c) (hy : x.getD i 0 = y) (hyl : y < BB) (hP : 0 < P) (hv : c + y * P = v) : RShl x (L ++ [v % BB]) q P (i + 1) (v / BB) := by
  refine ⟨?_, by rw [List.length_append, h.len]; simp; omega, h.lim.append (Lim.cons (Nat.mod_lt _ BB_pos) Lim.nil), ?_⟩
  · have h1 := h.val
    have h3 := Nat.div_add_mod v BB
    rw [nv_append, h.len, nv_one, nv_take_succ, hy, show q + (i + 1) = (q + i) + 1 from by omega, Nat.pow_succ]
    obtain ⟨Q, hQ⟩ : ∃ Q, BB ^ (q + i) = Q := ⟨_, rfl⟩
    obtain ⟨D, hD⟩ : ∃ D, v / BB = D := ⟨_, rfl⟩
    obtain ⟨M, hM⟩ : ∃ M, v % BB = M := ⟨_, rfl⟩
    rw [hQ] at h1 ⊢
    rw [hD, hM] at h3
    rw [hM, hD]
    have e1 : BB ^ q * (P * (nv (x.take i) + BB ^ i * y)) = BB ^ q * (P * nv (x.take i)) + Q * (y * P) := by
      rw [Nat.mul_add, Nat.mul_add, ← hQ, Nat.pow_add]
      congr 1
      rw [Nat.mul_assoc, Nat.mul_comm P, Nat.mul_assoc]
    have e2 : Q * BB * D + Q * M = Q * v := by rw [Nat.mul_assoc, ← Nat.mul_add, h3]
    have e3 : Q * v = Q * c + Q * (y * P) := by rw [← hv, Nat.mul_add]
    rw [e1]
    omega
  · rw [Nat.div_lt_iff_lt_mul BB_pos, ← hv]
    have h4 := h.lt
    have h5 : (y + 1) * P ≤ BB * P := Nat.mul_le_mul_right _ hyl
    rw [Nat.add_mul, Nat.one_mul] at h5
    rw [Nat.mul_comm P]
    omega
theorem RShl.done {x L : List Nat} {q P i c : Nat} (h : RShl x L q P i c) (hi : x.length ≤ i) : nv (L ++ [c]) = BB ^ q * (P * nv x) := by
  have := h.val
  rw [nv_append, h.len, nv_one, this, List.take_of_length_le hi]
theorem or_add (c y r : Nat) (h : c < 2 ^ r) : c ||| (y * 2 ^ r) = c + y * 2 ^ r := by
  rw [Nat.or_comm, ← Nat.shiftLeft_eq, ← Nat.shiftLeft_add_eq_or_of_lt h, Nat.add_comm]
set_option maxHeartbeats 1600000 in
theorem rshl_c (a : Option Addr) (len cap : Nat) (x : List Nat) (k q r : Nat) (w : World) (h : Rd w a len cap x) (hb : len ≤ 524288) (hk : k ≤ 1048576) (hq : k / 32 = q) (hr : k % 32 = r) :
    Calls Tryd.prog 93 #[.slice a len cap, .int .i64 k] w (NPost (nv x * 2 ^ k) w) := by
  have H := Lib.hid h
  have HN := Lib.hid h.len_eq
  have qa := h.le_cap
  have qb := h.cap_le
  have hqi : ((k : Int) / 32) = q := by omega
  have hri : ((k : Int) % 32) = r := by omega
  have hq2 : q ≤ 32768 := by omega
  have hr2 : r < 32 := by omega
  obtain ⟨P, hP⟩ : ∃ P, 2 ^ r = P := ⟨_, rfl⟩
  have hPp : 0 < P := by rw [← hP]; exact Nat.two_pow_pos r
  have hPl : P ≤ 2147483648 := by rw [← hP]; exact (Nat.pow_le_pow_right (by decide) (show r ≤ 31 by omega) : 2 ^ r ≤ 2 ^ 31)
  have HP := Lib.hid hP
  have HFIN : Hid (BB ^ q * (P * nv x) = nv x * 2 ^ k) := Lib.hid (by
    rw [← hP, BB_pow, ← Nat.mul_assoc, ← Nat.pow_add, Nat.mul_comm, show 32 * q + r = k from by omega])
  have HPI : Hid (((2 : Int) ^ r) = (P : Nat)) := Lib.hid (by rw [← hP]; norm_cast)
  clear h hq hr hP
  go_enter Tryd.func93, Tryd.ntmps93
  go_wp2_with (at_make; refine wpList_make_own _ rfl _ _ 22 rfl Tryd.underlying22 _ q rfl rfl rfl (by omega) ?_)
  intro w1 hown1 hb1
  go_wp2
  go_loopw [5, 6, 7] (fun o s i wr => ∃ (j c : Nat) (L : List Nat), j ≤ len ∧ i = .int .i64 j ∧ s = .int .u64 c ∧ c < 2147483648 ∧ Hid (RShl x L q P j c) ∧ Hid (wr.ownsRow w.heap.size 56 1 o (q + j) (lv L)) ∧ Hid (Below w.heap.size w wr)) (fun _ _ i _ => len - (intOf i).toNat)
  case atStart => exact ⟨0, 0, _, by omega, rfl, rfl, by omega, Lib.hid (RShl.start x q P hPp), hown1, Lib.hid hb1⟩
  case round =>
    obtain ⟨j, c, L, hj, rfl, rfl, hc, hinv, hown, hbel⟩ := hrel
    obtain ⟨va, vc, rfl⟩ := own_slice hown.out
    have OG := Lib.hid (fun i => @own_ge wr w.heap.size 56 1 (.slice va (q + j) vc) (q + j) (lv L) hown.out i)
    by_cases hjn : j < len
    · have hr1 := H.out.below hbel.out
      rcases hr1.cells with h1 | ⟨b, off, rfl, h1⟩
      · omega
      obtain ⟨y, hy⟩ : ∃ y, x.getD j 0 = y := ⟨_, rfl⟩
      have hcl := h1 j hjn
      have hyl : y < 4294967296 := by rw [← hy]; exact hr1.lim.at j
      rw [hy] at hcl
      obtain ⟨W, hW⟩ : ∃ W, y * P = W := ⟨_, rfl⟩
      obtain ⟨v, hv⟩ : ∃ v, c + W = v := ⟨_, rfl⟩
      have hst0 := hinv.out.step (v := v) hy hyl hPp (by rw [hW]; exact hv)
      have hcP := hinv.out.lt
      have hWl : W ≤ 4294967295 * 2147483648 := by
        rw [← hW]
        exact Nat.mul_le_mul (by omega) hPl
      have hWi : ((y : Int) * 2 ^ r) = (W : Nat) := by rw [HPI.out, ← hW]; push_cast; rfl
      have hwr : IntKind.u64.wrap ((y : Int) * 2 ^ r) = (W : Nat) := by rw [hWi]; exact wr64 (by omega)
      have hvl : v < 18446744073709551616 := by omega
      have hob : bits BinOp.or IntKind.u64 (c : Int) (W : Int) = (v : Nat) := by
        rw [bits_or_u64_nat _ _ (by omega) (by omega), ← hW, ← HP.out, or_add c y r (by rw [HP.out]; exact hcP), HP.out, hW, hv]
      have hcn : v / 4294967296 < 2147483648 := by have := hst0.lt; rw [BB_eq] at this; omega
      rw [show v / BB = v / 4294967296 from by rw [BB_eq]] at hst0
      have hst := Lib.hid hst0
      have HO := Lib.hid (own_below hown.out ((Below.refl wr.heap.size wr).alloc (Nat.le_refl _) (.cells #[.int .u32 ((v : Int) % 4294967296)] 56)))
      have HR := Lib.hid (Rd.one' wr (v % BB) ((v : Int) % 4294967296) (by simp [BB_eq]) (Nat.mod_lt _ BB_pos) 56)
      have hba := hbel.out.alloc hbel.out.size (.cells #[.int .u32 ((v : Int) % 4294967296)] 56)
      have hsz : w.heap.size ≤ (wr.alloc (.cells #[.int .u32 ((v : Int) % 4294967296)] 56)).heap.size := hba.size
      have HBA := Lib.hid hba
      have HSZ := Lib.hid hsz
      clear hy hr1 h1 hW hv hst0 hWi hWl hba hsz hcP
      go_wp2_with (at_builtin; refine wpList_append_rd rfl _ _ 22 22 rfl Tryd.underlying22 Tryd.underlying22 w.heap.size _ (q + j) _ rfl HO.out _ _ _ _ rfl HR.out (by omega) HSZ.out ?_)
      intro u w2 hown2 hgrow
      have hbel2 : Below w.heap.size w w2 := HBA.out.grown hgrow HSZ.out (fun i hi => OG.out i hi)
      rw [lv_snoc] at hown2
      clear hgrow hwr hob
      go_wp2
      go_roundw
      case rel => exact ⟨j + 1, v / 4294967296, _, by omega, by go_num, by go_num, hcn, hst, Lib.hid hown2, Lib.hid hbel2⟩
      case measure => simp [intOf]; omega
    · have hkl : j = len := by omega
      subst hkl
      have hfin := hinv.out.done (by rw [HN.out]; exact Nat.le_refl _)
      rw [HFIN.out] at hfin
      have HF := Lib.hid hfin
      have HLN := Lib.hid hinv.out.len
      have HLM := Lib.hid hinv.out.lim
      have HO := Lib.hid (own_below hown.out ((Below.refl wr.heap.size wr).alloc (Nat.le_refl _) (.cells #[.int .u32 (c : Int)] 56)))
      have HR := Lib.hid (Rd.one' wr c (c : Int) rfl (by rw [BB_eq]; omega) 56)
      have hba := hbel.out.alloc hbel.out.size (.cells #[.int .u32 (c : Int)] 56)
      have hsz : w.heap.size ≤ (wr.alloc (.cells #[.int .u32 (c : Int)] 56)).heap.size := hba.size
      have HBA := Lib.hid hba
      have HSZ := Lib.hid hsz
      clear hba hsz hfin
      go_wp2_with (at_builtin; refine wpList_append_rd rfl _ _ 22 22 rfl Tryd.underlying22 Tryd.underlying22 w.heap.size _ (q + j) _ rfl HO.out _ _ _ _ rfl HR.out (by omega) HSZ.out ?_)
      intro u w2 hown2 hgrow
      have hbel2 : Below w.heap.size w w2 := HBA.out.grown hgrow HSZ.out (fun i hi => OG.out i hi)
      rw [lv_snoc] at hown2
      have hown3 : w2.ownsRow w.heap.size 56 1 u (L ++ [c]).length (lv (L ++ [c])) := by rw [List.length_append, HLN.out]; exact hown2
      obtain ⟨ua, uc, rfl, hru⟩ := Rd.owns hown3 (HLM.out.append (Lim.cons (by rw [BB_eq]; omega) Lim.nil))
      have hlen : (L ++ [c]).length = q + j + 1 := by rw [List.length_append, HLN.out]; rfl
      rw [hlen] at hru ⊢
      have HRU := Lib.hid hru
      clear hgrow hown2 hown3 hru hlen
      go_wp2_with fail
      refine Calls.mono (rmake_c _ _ _ _ _ HRU.out (by omega)) ?_
      rw [HF.out]
      rintro e w4 hp
      obtain ⟨z, rfl, hz, hk⟩ := hp.cn
      have HZ := Lib.hid hz
      have hb4 := hbel2.trans (hk.mono hbel2.size)
      clear hp hz
      go_wp2_with fail
      go_ret
      exact NPost.ofCn HZ.out hb4
end Go.Proofs.YtnalmjbgkedcoaaDoor
