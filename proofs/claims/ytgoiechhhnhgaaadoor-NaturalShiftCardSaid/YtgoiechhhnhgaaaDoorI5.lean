/- Walks of layer 1: the reference's shr, Shl, Shr. -/
import Derived.Test.YtgoiechhhnhgaaaDoorI4
namespace Go.Proofs.YtgoiechhhnhgaaaDoor
open Go.RowKit
set_option linter.unusedVariables false
structure RShr (x L : List Nat) (q r j : Nat) : Prop where
  sum : nv L = nv x / (BB ^ q * 2 ^ r) % BB ^ j
  len : L.length = j
  lim : Lim L
theorem RShr.start (x : List Nat) (q r : Nat) : RShr x [] q r 0 := ⟨by simp [nv, Nat.mod_one], rfl, Lim.nil⟩
theorem RShr.step {x L : List Nat} {q r j W : Nat} (h : RShr x L q r j) (hx : Lim x) (hr : r < 32) (hl : j + q ≤ x.length) (hW : x.getD (j + q) 0 + BB * x.getD (j + q + 1) 0 = W) :
    RShr x (L ++ [W / 2 ^ r % BB]) q r (j + 1) := by
  refine ⟨?_, by rw [List.length_append, h.len]; rfl, h.lim.append (Lim.cons (Nat.mod_lt _ BB_pos) Lim.nil)⟩
  rw [nv_append, h.len, nv_one, h.sum, Nat.pow_succ, Nat.mod_mul, shr_digit hx hr hl, hW]
theorem RShr.done {x L : List Nat} {q r j : Nat} (h : RShr x L q r j) (hx : Lim x) (hn : x.length ≤ q + j) : nv L = nv x / (BB ^ q * 2 ^ r) := by
  rw [h.sum, Nat.mod_eq_of_lt]
  have h2 : nv x < BB ^ (q + j) := Nat.lt_of_lt_of_le (nv_lt hx) (Nat.pow_le_pow_right BB_pos hn)
  rw [Nat.pow_add] at h2
  rw [Nat.div_lt_iff_lt_mul (Nat.mul_pos (Nat.pow_pos BB_pos) (Nat.two_pow_pos r))]
  have h3 : 1 ≤ 2 ^ r := Nat.two_pow_pos r
  calc nv x < BB ^ q * BB ^ j := h2
    _ = BB ^ j * (BB ^ q * 1) := by rw [Nat.mul_one, Nat.mul_comm]
    _ ≤ BB ^ j * (BB ^ q * 2 ^ r) := Nat.mul_le_mul_left _ (Nat.mul_le_mul_left _ h3)
theorem limb_qi (a : Option Addr) (len cap : Nat) (l : List Nat) (i d : Nat) (X : Int) (hX : X = i) (w : World) (h : Rd w a len cap l) (hd : l.getD i 0 = d) (n : Nat) :
    Calls Tryd.prog 45 #[.slice a len cap, .int .i64 X] (w.drewN n) fun e w' => e = .returned (.int .u32 (d : Nat)) ∧ w' = w.drewN n := by
  subst hX
  exact limb_q a len cap l i d w h hd n
set_option maxHeartbeats 1600000 in
theorem rshr_c (a : Option Addr) (len cap : Nat) (x : List Nat) (k q r : Nat) (w : World) (h : Rd w a len cap x) (hb : len ≤ 524288) (hk : k ≤ 1048576) (hq : k / 32 = q) (hr : k % 32 = r) :
    Calls Tryd.prog 50 #[.slice a len cap, .int .i64 k] w (NPost (nv x / 2 ^ k) w) := by
  have H := Lib.hid h
  have HN := Lib.hid h.len_eq
  have HLIM := Lib.hid h.lim
  have qa := h.le_cap
  have qb := h.cap_le
  have hqi : ((k : Int) / 32) = q := by omega
  have hri : ((k : Int) % 32) = r := by omega
  have hq2 : q ≤ 32768 := by omega
  have hr2 : r < 32 := by omega
  have HFIN : Hid (BB ^ q * 2 ^ r = 2 ^ k) := Lib.hid (by
    rw [BB_pow, ← Nat.pow_add, show 32 * q + r = k from by omega])
  clear h hq hr
  go_enter Tryd.func50, Tryd.ntmps50
  go_wp2
  go_loopw [5, 6] (fun o i wr => ∃ (j I : Nat) (L : List Nat), I = q + j ∧ (I ≤ len ∨ j = 0) ∧ i = .int .i64 I ∧ Hid (RShr x L q r j) ∧ Hid (wr.ownsRow w.heap.size 42 1 o j (lv L)) ∧ Hid (Below w.heap.size w wr)) (fun _ i _ => len - (intOf i).toNat)
  case atStart => exact ⟨0, q, [], by omega, .inr rfl, rfl, Lib.hid (RShr.start x q r), Lib.hid (World.ownsRow_nil _ _ _ _), Lib.hid (Below.refl _ _)⟩
  case round =>
    obtain ⟨j, I, L, hI, hIl, rfl, hinv, hown, hbel⟩ := hrel
    obtain ⟨va, vc, rfl⟩ := own_slice hown.out
    have OG := Lib.hid (fun i => @own_ge wr w.heap.size 42 1 (.slice va j vc) j (lv L) hown.out i)
    have HI := Lib.hid hI
    by_cases hjn : I < len
    · have hr1 := H.out.below hbel.out
      rcases hr1.cells with h1 | ⟨b, off, rfl, h1⟩
      · omega
      obtain ⟨y, hy⟩ : ∃ y, x.getD I 0 = y := ⟨_, rfl⟩
      obtain ⟨z, hz⟩ : ∃ z, x.getD (I + 1) 0 = z := ⟨_, rfl⟩
      have hcl := h1 I hjn
      have hyl : y < 4294967296 := by rw [← hy]; exact hr1.lim.at I
      have hzl : z < 4294967296 := by rw [← hz]; exact hr1.lim.at (I + 1)
      rw [hy] at hcl
      obtain ⟨W, hW⟩ : ∃ W, y + 4294967296 * z = W := ⟨_, rfl⟩
      have LQ := Lib.hid (limb_qi _ _ _ _ (I + 1) z ((I : Int) + 1) (by push_cast; rfl) wr hr1 hz)
      have hst0 := hinv.out.step (W := W) HLIM.out hr2 (by rw [HN.out]; omega) (by rw [show j + q = I from by omega, hy, hz, BB_eq]; exact hW)
      obtain ⟨V, hV⟩ : ∃ V, W / 2 ^ r = V := ⟨_, rfl⟩
      rw [hV, BB_eq] at hst0
      have hst := Lib.hid hst0
      have hsh : ((W : Int) / 2 ^ r) = (V : Nat) := by rw [← hV]; push_cast; rfl
      have e1 := wr64 (x := y) (by omega)
      have e2 := wr64 (x := z) (by omega)
      have e3 : IntKind.u64.wrap ((z : Int) * 4294967296) = (z : Int) * 4294967296 := by
        rw [show ((z : Int) * 4294967296) = ((z * 4294967296 : Nat) : Int) from by omega]
        exact wr64 (by omega)
      have hor : bits BinOp.or IntKind.u64 (y : Int) ((z : Int) * 4294967296) = (W : Nat) := by rw [or64' _ _ hyl hzl, hW]
      have i0 : (0 : Int) ≤ (I : Int) + 1 := by omega
      have i1 : ((I : Int) + 1).toNat = I + 1 := by omega
      have i2 : IntKind.i64.wrap ((I : Int) + 1) = (I : Int) + 1 := IntWalk.i64_in _ (by omega)
      have HWl : Hid (W < 18446744073709551616) := Lib.hid (by omega)
      have hjb : j ≤ 524288 := by omega
      clear hy hz hr1 h1 hW hV hst0 hI hIl
      go_wp2
      go_quiet ((go_at_call 45; exact Calls.quiet_of_same (LQ.out _)))
      clear e1 e2 e3 hor i0 i1 i2
      have hWl := HWl.out
      obtain ⟨wq, hwq⟩ : ∃ wq, wr.drewN nq = wq := ⟨_, rfl⟩
      have HO := Lib.hid (own_below hown.out ((below_dN (Below.refl wr.heap.size wr) nq).alloc (Nat.le_refl _) (.cells #[.int .u32 ((V : Int) % 4294967296)] 42)))
      have HR := Lib.hid (Rd.one' (wr.drewN nq) (V % BB) ((V : Int) % 4294967296) (by simp [BB_eq]) (Nat.mod_lt _ BB_pos) 42)
      have hba := (below_dN hbel.out nq).alloc hbel.out.size (.cells #[.int .u32 ((V : Int) % 4294967296)] 42)
      have hsz : w.heap.size ≤ ((wr.drewN nq).alloc (.cells #[.int .u32 ((V : Int) % 4294967296)] 42)).heap.size := hba.size
      have HBA := Lib.hid hba
      have HSZ := Lib.hid hsz
      clear hba hsz hwq
      go_wp2_with (at_builtin; refine wpList_append_rd rfl _ _ 22 22 rfl Tryd.underlying22 Tryd.underlying22 w.heap.size _ j _ rfl HO.out _ _ _ _ rfl HR.out (by omega) HSZ.out ?_)
      intro u w2 hown2 hgrow
      have hbel2 : Below w.heap.size w w2 := HBA.out.grown hgrow HSZ.out (fun i hi => OG.out i hi)
      rw [lv_snoc] at hown2
      have HI2 := HI.out
      clear hgrow
      go_wp2
      go_roundw
      case rel => exact ⟨j + 1, I + 1, _, by omega, .inl (by omega), by go_num, hst, Lib.hid hown2, Lib.hid hbel2⟩
      case measure => simp [intOf]; omega
    · have hfin := hinv.out.done HLIM.out (by rw [HN.out]; omega)
      rw [HFIN.out] at hfin
      have HF := Lib.hid hfin
      have hown3 : wr.ownsRow w.heap.size 42 1 (.slice va j vc) L.length (lv L) := by rw [hinv.out.len]; exact hown.out
      obtain ⟨ua, uc, hu, hru⟩ := Rd.owns hown3 hinv.out.lim
      rw [hinv.out.len] at hu hru
      injection hu with hu1 hu2 hu3
      subst hu1
      subst hu3
      have HRU := Lib.hid hru
      have hjl : j ≤ 524288 := by omega
      clear hfin hown3 hru hu2 hI hIl
      go_wp2_with fail
      refine Calls.mono (rmake_c _ _ _ _ _ HRU.out (by omega)) ?_
      rw [HF.out]
      rintro e w4 hp
      obtain ⟨z, rfl, hz, hk⟩ := hp.cn
      have HZ := Lib.hid hz
      have hb4 := hbel.out.trans (hk.mono hbel.out.size)
      clear hp hz
      go_wp2_with fail
      go_ret
      exact NPost.ofCn HZ.out hb4
def rshN (n : Nat) (k : Int) : Nat := shlN n k
theorem rShl_c (a : Option Addr) (len cap : Nat) (x : List Nat) (k : Int) (w : World) (h : Rd w a len cap x) (hb : len ≤ 524288) :
    Calls Tryd.prog 36 #[.slice a len cap, .int .i64 k] w (NEPost (shlN (nv x) k) (shE k) w) := by
  by_cases hneg : k < 0
  · have e1 : Hid (shlN (nv x) k = 0) := Lib.hid (if_pos (.inl hneg))
    have e2 : Hid (shE k = 2) := Lib.hid (if_pos (.inl hneg))
    rw [e1.out, e2.out]
    clear h
    go_enter Tryd.func36, Tryd.ntmps36
    go_wp2
    go_ret2
    exact NEPost.nil (Below.refl _ _)
  · by_cases hbig : 1048576 < k
    · have e1 : Hid (shlN (nv x) k = 0) := Lib.hid (if_pos (.inr hbig))
      have e2 : Hid (shE k = 2) := Lib.hid (if_pos (.inr hbig))
      rw [e1.out, e2.out]
      clear h
      go_enter Tryd.func36, Tryd.ntmps36
      go_wp2
      go_ret2
      exact NEPost.nil (Below.refl _ _)
    · obtain ⟨n, rfl⟩ : ∃ n : Nat, k = n := ⟨k.toNat, by omega⟩
      have hn : ¬ ((n : Int) < 0 ∨ 1048576 < (n : Int)) := by omega
      have e1 : Hid (shlN (nv x) n = nv x * 2 ^ n) := Lib.hid (by unfold shlN; rw [if_neg hn, Int.toNat_natCast])
      have e2 : Hid (shE n = 0) := Lib.hid (if_neg hn)
      have C := Lib.hid (rshl_c a len cap x n _ _ w h hb (by omega) rfl rfl)
      rw [e1.out, e2.out]
      have d1 : decide (1048576 < (n : Int)) = false := decide_eq_false hbig
      clear h hn
      go_enter Tryd.func36, Tryd.ntmps36
      go_wp2_with fail
      refine Calls.mono C.out ?_
      rintro e w1 hp
      obtain ⟨z, rfl, hz, hk⟩ := hp.cn
      obtain ⟨za, zl, zc, rfl, hr⟩ := hz
      have hzl := hr.len_eq
      have HR := Lib.hid hr
      have HZL := Lib.hid hzl
      clear hp hr hzl
      go_wp2_with fail
      go_ret2
      unfold NEPost
      rw [HZL.out]
      exact ⟨_, _, rfl, HR.out, hk⟩
theorem rShr_c (a : Option Addr) (len cap : Nat) (x : List Nat) (k : Int) (w : World) (h : Rd w a len cap x) (hb : len ≤ 524288) :
    Calls Tryd.prog 37 #[.slice a len cap, .int .i64 k] w (NEPost (shrN (nv x) k) (shE k) w) := by
  by_cases hneg : k < 0
  · have e1 : Hid (shrN (nv x) k = 0) := Lib.hid (if_pos (.inl hneg))
    have e2 : Hid (shE k = 2) := Lib.hid (if_pos (.inl hneg))
    rw [e1.out, e2.out]
    clear h
    go_enter Tryd.func37, Tryd.ntmps37
    go_wp2
    go_ret2
    exact NEPost.nil (Below.refl _ _)
  · by_cases hbig : 1048576 < k
    · have e1 : Hid (shrN (nv x) k = 0) := Lib.hid (if_pos (.inr hbig))
      have e2 : Hid (shE k = 2) := Lib.hid (if_pos (.inr hbig))
      rw [e1.out, e2.out]
      clear h
      go_enter Tryd.func37, Tryd.ntmps37
      go_wp2
      go_ret2
      exact NEPost.nil (Below.refl _ _)
    · obtain ⟨n, rfl⟩ : ∃ n : Nat, k = n := ⟨k.toNat, by omega⟩
      have hn : ¬ ((n : Int) < 0 ∨ 1048576 < (n : Int)) := by omega
      have e1 : Hid (shrN (nv x) n = nv x / 2 ^ n) := Lib.hid (by unfold shrN; rw [if_neg hn, Int.toNat_natCast])
      have e2 : Hid (shE n = 0) := Lib.hid (if_neg hn)
      have C := Lib.hid (rshr_c a len cap x n _ _ w h hb (by omega) rfl rfl)
      rw [e1.out, e2.out]
      have d1 : decide (1048576 < (n : Int)) = false := decide_eq_false hbig
      clear h hn
      go_enter Tryd.func37, Tryd.ntmps37
      go_wp2_with fail
      refine Calls.mono C.out ?_
      rintro e w1 hp
      obtain ⟨z, rfl, hz, hk⟩ := hp.cn
      obtain ⟨za, zl, zc, rfl, hr⟩ := hz
      have hzl := hr.len_eq
      have HR := Lib.hid hr
      have HZL := Lib.hid hzl
      clear hp hr hzl
      go_wp2_with fail
      go_ret2
      unfold NEPost
      rw [HZL.out]
      exact ⟨_, _, rfl, HR.out, hk⟩
end Go.Proofs.YtgoiechhhnhgaaaDoor
