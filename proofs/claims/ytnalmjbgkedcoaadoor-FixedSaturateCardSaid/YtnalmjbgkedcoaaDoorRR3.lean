/- Carried over from another seat by program (portn.py). -/
import Derived.Test.YtnalmjbgkedcoaaDoorRR2
import Derived.Test.YtnalmjbgkedcoaaDoorR11
import Derived.Deep.LoopGhost
namespace Go.Proofs.YtnalmjbgkedcoaaDoor
open Go.RowKit
set_option linter.unusedVariables false
set_option maxHeartbeats 800000 in
theorem rgcd_c {w : World} {v u : Value} {A B k : Nat} (h : Nm w v A k) (h' : Nm w u B k) (hk : k ≤ 500000) : Calls Tryd.prog 76 #[v, u] w (fun e w' => ∃ x, e = .returned x ∧ Cn w' x (Nat.gcd A B) ∧ Keep w w') := by
  have M1 := Lib.hid (rmake_n h (by omega))
  have M2 := Lib.hid (fun w1 (h : Nm w1 u B k) => rmake_n h (by omega))
  have Y_0 := Lib.hid h'
  have HA := Lib.hid h.lt
  have HB := Lib.hid h'.lt
  obtain ⟨G, hG⟩ : ∃ G, Nat.gcd A B = G := ⟨_, rfl⟩
  rw [hG]
  have HG := Lib.hid hG
  clear h h' hG
  go_enter Tryd.func76, Tryd.ntmps76
  go_wp2_with fail
  refine Calls.mono M1.out ?_
  rintro e w1 ⟨x, rfl, hx, k1⟩
  have X_1 := Lib.hid hx
  have Y_1 := Lib.hid (Y_0.out.keep k1)
  have KW_1 := Lib.hid k1
  clear hx k1 Y_0 M1
  go_wp2_with fail
  refine Calls.mono (M2.out _ Y_1.out) ?_
  rintro e w2 ⟨y, rfl, hy, k2⟩
  obtain ⟨xa, xl, xc, rfl, hxr⟩ := X_1.out.keep k2
  obtain ⟨ya, yl, yc, rfl, hyr⟩ := hy
  have X_2 := Lib.hid hxr
  have Y_2 := Lib.hid hyr
  have KW_2 := Lib.hid (KW_1.out.trans k2)
  clear k2 X_1 Y_1 KW_1 M2 hxr hyr
  go_wp2
  go_loopg [0, 1] (B + 1) (fun g a b wr => ∃ (P Q : Nat) (aa ba : Option Addr) (al ac bl' bc : Nat), a = .slice aa al ac ∧ b = .slice ba bl' bc ∧ Hid (Nat.gcd P Q = G) ∧ Hid (P < BB ^ k) ∧ Hid (Q < BB ^ k) ∧ Hid (Rd wr aa al ac (dig P)) ∧ Hid (Rd wr ba bl' bc (dig Q)) ∧ Hid (Keep w wr) ∧ Hid (Q < g))
  case atStart => exact ⟨A, B, _, _, _, _, _, _, rfl, rfl, HG, HA, HB, X_2, Y_2, KW_2, Lib.hid (Nat.lt_succ_self B)⟩
  case round =>
    obtain ⟨P, Q, aa, ba, al, ac, bl', bc, rfl, rfl, hg, hP, hQ, hp, hq, hkk, hlt⟩ := hrel
    have q1 := hp.out.le_cap
    have q2 := hp.out.cap_le
    have q3 := hq.out.le_cap
    have q4 := hq.out.cap_le
    have hql := hq.out.len_eq
    by_cases h0 : bl' = 0
    · subst h0
      have hQ0 : Q = 0 := dig_nil_iff.1 (List.length_eq_zero_iff.1 hql)
      have FIN : Hid (Cn wr (.slice aa al ac) G) := Lib.hid (by
        have h1 := hg.out
        rw [hQ0, Nat.gcd_zero_right] at h1
        rw [← h1]; exact ⟨_, _, _, rfl, hp.out⟩)
      clear hql hQ0
      go_wp2
      go_ret
      exact ⟨_, rfl, FIN.out, hkk.out⟩
    · have hQ0 : Q ≠ 0 := by rintro rfl; rw [dig_zero] at hql; exact h0 hql.symm
      have DM := Lib.hid (rdm_c (w := wr) (v := .slice aa al ac) (u := .slice ba bl' bc) (A := P) (B := Q) (k := k) (hp.out.toNm (nv_dig P) (dig_len_of hP.out)) (hq.out.toNm (nv_dig Q) (dig_len_of hQ.out)) hk)
      unfold DmQ at DM
      rw [show dmR P Q = P % Q from if_neg hQ0] at DM
      have hml : P % Q < Q := Nat.mod_lt _ (Nat.pos_of_ne_zero hQ0)
      have HG2 : Hid (Nat.gcd Q (P % Q) = G) := Lib.hid (by rw [← hg.out, Nat.gcd_comm Q, ← Nat.gcd_rec, Nat.gcd_comm])
      have HML := Lib.hid hml
      obtain ⟨er, her⟩ : ∃ x, dmE Q = x := ⟨_, rfl⟩
      rw [her] at DM
      clear hql hQ0 hml her
      go_wp2_with fail
      refine Calls.mono DM.out ?_
      rintro e w3 ⟨x, y, rfl, hx, ⟨ra, rl, rc, rfl, hyr⟩, k3⟩
      have Y3 := Lib.hid hyr
      have B3 := Lib.hid (hq.out.below k3)
      have K3 := Lib.hid (hkk.out.trans k3)
      clear hx hyr k3
      go_wp2
      go_roundg Q
      case measure => exact hlt.out
      case rel => exact ⟨Q, P % Q, _, _, _, _, _, _, rfl, rfl, HG2, hQ, Lib.hid (Nat.lt_trans HML.out hQ.out), B3, Y3, K3, HML⟩
theorem one_0 {w : World} {v : Value} {d k : Nat} (h : Nm w v d k) (hk : k ≤ 1048576) (hk1 : 1 ≤ k) (h0 : d = 0) : Calls Tryd.prog 55 #[v] w (DPost d k w) := by
  have MK := Lib.hid (rmake_n h hk)
  have HL := Lib.hid h.lt
  clear h
  go_enter Tryd.func55, Tryd.ntmps55
  go_wp2_with fail
  refine Calls.mono MK.out ?_
  rintro e w1 ⟨x, rfl, hx, k1⟩
  obtain ⟨a, cap, rfl, hr⟩ := Cn.form hx
  have HR := Lib.hid hr
  have KW := Lib.hid k1
  obtain ⟨n, hn⟩ : ∃ n, (dig d).length = n := ⟨_, rfl⟩
  have hn0 : n = 0 := by rw [← hn, h0, dig_zero]; rfl
  have q1 := hr.le_cap
  have q2 := hr.cap_le
  rw [hn] at HR q1
  rw [hn]
  clear hx hr k1 hn
  subst hn0
  have H1 := Lib.hid (Rd.one' w1 1 1 rfl (by decide) 56)
  go_wp2
  go_ret
  exact ⟨_, rfl, by rw [h0]; exact H1.out.toNm (by rw [nv_one]; rfl) hk1, KW.out.alloc _⟩
theorem one_1 {w : World} {v : Value} {d k : Nat} (h : Nm w v d k) (hk : k ≤ 1048576) (hk1 : 1 ≤ k) (h0 : d ≠ 0) : Calls Tryd.prog 55 #[v] w (DPost d k w) := by
  have MK := Lib.hid (rmake_n h hk)
  have HL := Lib.hid h.lt
  clear h
  go_enter Tryd.func55, Tryd.ntmps55
  go_wp2_with fail
  refine Calls.mono MK.out ?_
  rintro e w1 ⟨x, rfl, hx, k1⟩
  obtain ⟨a, cap, rfl, hr⟩ := Cn.form hx
  have HR := Lib.hid hr
  have KW := Lib.hid k1
  obtain ⟨n, hn⟩ : ∃ n, (dig d).length = n := ⟨_, rfl⟩
  have hn0 : n ≠ 0 := by rw [← hn]; exact fun h => h0 (dig_nil_iff.1 (List.length_eq_zero_iff.1 h))
  have q1 := hr.le_cap
  have q2 := hr.cap_le
  rw [hn] at HR q1
  rw [hn]
  clear hx hr k1 hn
  have e1 : ((n : Int) == 0) = false := by simp; exact hn0
  go_wp2
  go_ret
  exact ⟨_, rfl, by rw [dn_of h0]; exact HR.out.toNm (nv_dig d) (dig_len_of HL.out), KW.out⟩
theorem one_c {w : World} {v : Value} {d k : Nat} (h : Nm w v d k) (hk : k ≤ 1048576) (hk1 : 1 ≤ k) : Calls Tryd.prog 55 #[v] w (DPost d k w) := by
  by_cases h0 : d = 0
  · exact one_0 h hk hk1 h0
  · exact one_1 h hk hk1 h0
theorem num0 {q : Rat} (h : q.num.natAbs = 0) : decide (q.num < 0) = false := decide_eq_false (by omega)
set_option maxHeartbeats 800000 in
theorem quot_t10 {w : World} {x y : Value} {n d k : Nat} (hx : Nm w x n k) (hy : Nm w y d k) (h0 : d ≠ 0) (hk : k ≤ 500000) (hN0 : n / Nat.gcd n d = 0) (hD0 : (dig (d / Nat.gcd n d)).length ≠ 1) : Calls Tryd.prog 57 #[.bool true, x, y] w (RPost (rv true n d) w) := by
  have KW_0 := Lib.hid ((Keep.refl w).alloc (.cells #[.bool false, .slice none 0 0, .slice none 0 0] 25))
  have R_0 := Lib.hid (QBox.new w false none 0 0 none 0 0)
  have X_0 := Lib.hid (hx.keep KW_0.out)
  have Y_0 := Lib.hid (hy.keep KW_0.out)
  have hg0 : Nat.gcd n d ≠ 0 := by have := Nat.gcd_pos_of_pos_right n (Nat.pos_of_ne_zero h0); omega
  have hgk : Nat.gcd n d < BB ^ k := Nat.lt_of_le_of_lt (Nat.gcd_le_right n (Nat.pos_of_ne_zero h0)) hy.lt
  have GC := Lib.hid (fun w1 (h : Nm w1 x n k) (h' : Nm w1 y d k) => rgcd_c h h' hk)
  have D1 := Lib.hid (fun w1 u (h : Nm w1 x n k) (hu : Cn w1 u (Nat.gcd n d)) => rdm_c h (hu.nm hgk) hk)
  have D2 := Lib.hid (fun w1 u (h : Nm w1 y d k) (hu : Cn w1 u (Nat.gcd n d)) => rdm_c h (hu.nm hgk) hk)
  unfold DmQ at D1 D2
  obtain ⟨r1, r2, r3⟩ := rv_red true n h0
  obtain ⟨p1, p2, p3⟩ := pack_parts true r2
  rw [r1] at p1 p2 p3
  rw [dn_of r3] at p2
  obtain ⟨q, hq⟩ : ∃ q, rv true n d = q := ⟨_, rfl⟩
  rw [hq] at p1 p2 p3 ⊢
  have hsg : decide (q.num < 0) = false := num0 (p1.trans hN0)
  obtain ⟨G, hG⟩ : ∃ G, Nat.gcd n d = G := ⟨_, rfl⟩
  rw [hG] at GC D1 D2 p1 p2 hN0 hD0
  obtain ⟨NN, hNN⟩ : ∃ x, n / G = x := ⟨_, rfl⟩
  obtain ⟨DD, hDD⟩ : ∃ x, d / G = x := ⟨_, rfl⟩
  rw [hNN] at D1 p1 hN0
  rw [hDD] at D2 p2 hD0
  have P1 := Lib.hid p1
  have P2 := Lib.hid p2
  obtain ⟨er, her⟩ : ∃ x, dmE G = x := ⟨_, rfl⟩
  rw [her] at D1 D2
  obtain ⟨m1, hm1⟩ : ∃ x, dmR n G = x := ⟨_, rfl⟩
  obtain ⟨m2, hm2⟩ : ∃ x, dmR d G = x := ⟨_, rfl⟩
  rw [hm1] at D1
  rw [hm2] at D2
  clear hx hy h0 hg0 hgk r1 r2 r3 p1 p2 p3 hq hG hNN hDD her hm1 hm2
  go_enter Tryd.func57, Tryd.ntmps57
  go_wp2_with fail
  refine Calls.mono (GC.out _ X_0.out Y_0.out) ?_
  rintro e w1 ⟨vG, rfl, hG, k1⟩
  have X_1 := Lib.hid (X_0.out.keep k1)
  have Y_1 := Lib.hid (Y_0.out.keep k1)
  have R_1 := Lib.hid (R_0.out.keep k1)
  have G_1 := Lib.hid hG
  have KW_1 := Lib.hid (KW_0.out.trans k1)
  clear k1 X_0 Y_0 R_0 hG KW_0
  go_wp2_with fail
  refine Calls.mono (D1.out _ _ X_1.out G_1.out) ?_
  rintro e w2 ⟨x1, y1, rfl, hP, hy1, k2⟩
  have Y_2 := Lib.hid (Y_1.out.keep k2)
  have R_2 := Lib.hid (R_1.out.keep k2)
  have G_2 := Lib.hid (G_1.out.keep k2)
  have P_2 := Lib.hid hP
  have KW_2 := Lib.hid (KW_1.out.trans k2)
  clear hy1
  clear k2 X_1 Y_1 R_1 G_1 hP KW_1
  go_wp2_with fail
  refine Calls.mono (D2.out _ _ Y_2.out G_2.out) ?_
  rintro e w3 ⟨x2, y2, rfl, hQ, hy2, k3⟩
  have R_3 := Lib.hid (R_2.out.keep k3)
  have P_3 := Lib.hid (P_2.out.keep k3)
  have Q_3 := Lib.hid hQ
  have KW_3 := Lib.hid (KW_2.out.trans k3)
  clear hy2
  clear k3 Y_2 G_2 R_2 P_2 hQ KW_2
  obtain ⟨xa, xc, rfl, hxr⟩ := Cn.form P_3.out
  obtain ⟨ya, yc, rfl, hyr⟩ := Cn.form Q_3.out
  obtain ⟨xl, hxl⟩ : ∃ x, (dig NN).length = x := ⟨_, rfl⟩
  obtain ⟨yl, hyl⟩ : ∃ x, (dig DD).length = x := ⟨_, rfl⟩
  have qa := hxr.le_cap
  have qb := hxr.cap_le
  have qc := hyr.le_cap
  have qd := hyr.cap_le
  rw [hxl] at hxr qa ⊢
  rw [hyl] at hyr qc ⊢
  have hx0 : xl = 0 := by rw [← hxl, hN0, dig_zero]; rfl
  subst hx0
  have e1 : ((yl : Int) == 1) = false := by simp; rw [← hyl]; omega
  have hw : wd q = DD := by rw [wd, P2.out, if_neg (fun h => hD0 (by rw [h, ← dig_one (by decide) (by decide)]; rfl))]
  obtain ⟨F, -, s0, s1, s2⟩ := put_of (w0 := w) hsg (by rw [P1.out]; exact hxr) (a' := ya) (n' := yl) (c' := yc) (by rw [hw]; exact hyr) R_3.out KW_3.out (Nat.le_refl _)
  have FIN := Lib.hid F
  obtain ⟨y0, y1, y2, f0, f1, f2, -⟩ := id R_3.out
  clear F hxr hyr hw hxl hyl hN0 hD0
  go_wp2
  refine bodyPost_ret (v := .agg #[.bool false, .slice xa 0 xc, .slice ya yl yc]) (by simp [results, Tryd.results57, go_sem, s0, s1, s2]) rfl ?_
  exact FIN.out
set_option maxHeartbeats 800000 in
theorem quot_t11 {w : World} {x y : Value} {n d k : Nat} (hx : Nm w x n k) (hy : Nm w y d k) (h0 : d ≠ 0) (hk : k ≤ 500000) (hN0 : n / Nat.gcd n d = 0) (hD0 : (dig (d / Nat.gcd n d)).length = 1) (hD1 : d / Nat.gcd n d ≠ 1) : Calls Tryd.prog 57 #[.bool true, x, y] w (RPost (rv true n d) w) := by
  have KW_0 := Lib.hid ((Keep.refl w).alloc (.cells #[.bool false, .slice none 0 0, .slice none 0 0] 25))
  have R_0 := Lib.hid (QBox.new w false none 0 0 none 0 0)
  have X_0 := Lib.hid (hx.keep KW_0.out)
  have Y_0 := Lib.hid (hy.keep KW_0.out)
  have hg0 : Nat.gcd n d ≠ 0 := by have := Nat.gcd_pos_of_pos_right n (Nat.pos_of_ne_zero h0); omega
  have hgk : Nat.gcd n d < BB ^ k := Nat.lt_of_le_of_lt (Nat.gcd_le_right n (Nat.pos_of_ne_zero h0)) hy.lt
  have GC := Lib.hid (fun w1 (h : Nm w1 x n k) (h' : Nm w1 y d k) => rgcd_c h h' hk)
  have D1 := Lib.hid (fun w1 u (h : Nm w1 x n k) (hu : Cn w1 u (Nat.gcd n d)) => rdm_c h (hu.nm hgk) hk)
  have D2 := Lib.hid (fun w1 u (h : Nm w1 y d k) (hu : Cn w1 u (Nat.gcd n d)) => rdm_c h (hu.nm hgk) hk)
  unfold DmQ at D1 D2
  obtain ⟨r1, r2, r3⟩ := rv_red true n h0
  obtain ⟨p1, p2, p3⟩ := pack_parts true r2
  rw [r1] at p1 p2 p3
  rw [dn_of r3] at p2
  obtain ⟨q, hq⟩ : ∃ q, rv true n d = q := ⟨_, rfl⟩
  rw [hq] at p1 p2 p3 ⊢
  have hsg : decide (q.num < 0) = false := num0 (p1.trans hN0)
  obtain ⟨G, hG⟩ : ∃ G, Nat.gcd n d = G := ⟨_, rfl⟩
  rw [hG] at GC D1 D2 p1 p2 hN0 hD1 hD0
  obtain ⟨NN, hNN⟩ : ∃ x, n / G = x := ⟨_, rfl⟩
  obtain ⟨DD, hDD⟩ : ∃ x, d / G = x := ⟨_, rfl⟩
  rw [hNN] at D1 p1 hN0
  rw [hDD] at D2 p2 hD1 hD0
  have P1 := Lib.hid p1
  have P2 := Lib.hid p2
  obtain ⟨er, her⟩ : ∃ x, dmE G = x := ⟨_, rfl⟩
  rw [her] at D1 D2
  obtain ⟨m1, hm1⟩ : ∃ x, dmR n G = x := ⟨_, rfl⟩
  obtain ⟨m2, hm2⟩ : ∃ x, dmR d G = x := ⟨_, rfl⟩
  rw [hm1] at D1
  rw [hm2] at D2
  clear hx hy h0 hg0 hgk r1 r2 r3 p1 p2 p3 hq hG hNN hDD her hm1 hm2
  go_enter Tryd.func57, Tryd.ntmps57
  go_wp2_with fail
  refine Calls.mono (GC.out _ X_0.out Y_0.out) ?_
  rintro e w1 ⟨vG, rfl, hG, k1⟩
  have X_1 := Lib.hid (X_0.out.keep k1)
  have Y_1 := Lib.hid (Y_0.out.keep k1)
  have R_1 := Lib.hid (R_0.out.keep k1)
  have G_1 := Lib.hid hG
  have KW_1 := Lib.hid (KW_0.out.trans k1)
  clear k1 X_0 Y_0 R_0 hG KW_0
  go_wp2_with fail
  refine Calls.mono (D1.out _ _ X_1.out G_1.out) ?_
  rintro e w2 ⟨x1, y1, rfl, hP, hy1, k2⟩
  have Y_2 := Lib.hid (Y_1.out.keep k2)
  have R_2 := Lib.hid (R_1.out.keep k2)
  have G_2 := Lib.hid (G_1.out.keep k2)
  have P_2 := Lib.hid hP
  have KW_2 := Lib.hid (KW_1.out.trans k2)
  clear hy1
  clear k2 X_1 Y_1 R_1 G_1 hP KW_1
  go_wp2_with fail
  refine Calls.mono (D2.out _ _ Y_2.out G_2.out) ?_
  rintro e w3 ⟨x2, y2, rfl, hQ, hy2, k3⟩
  have R_3 := Lib.hid (R_2.out.keep k3)
  have P_3 := Lib.hid (P_2.out.keep k3)
  have Q_3 := Lib.hid hQ
  have KW_3 := Lib.hid (KW_2.out.trans k3)
  clear hy2
  clear k3 Y_2 G_2 R_2 P_2 hQ KW_2
  obtain ⟨xa, xc, rfl, hxr⟩ := Cn.form P_3.out
  obtain ⟨ya, yc, rfl, hyr⟩ := Cn.form Q_3.out
  obtain ⟨xl, hxl⟩ : ∃ x, (dig NN).length = x := ⟨_, rfl⟩
  obtain ⟨yl, hyl⟩ : ∃ x, (dig DD).length = x := ⟨_, rfl⟩
  have qa := hxr.le_cap
  have qb := hxr.cap_le
  have qc := hyr.le_cap
  have qd := hyr.cap_le
  rw [hxl] at hxr qa ⊢
  rw [hyl] at hyr qc ⊢
  have hx0 : xl = 0 := by rw [← hxl, hN0, dig_zero]; rfl
  subst hx0
  have hyl1 : yl = 1 := by rw [← hyl]; exact hD0
  subst hyl1
  obtain ⟨e1, -⟩ := dig_sing hyl
  obtain ⟨bb, bo, rfl, hcell, -⟩ := hyr.cell0 (by omega)
  rw [e1] at hcell
  simp only [List.getD_cons_zero] at hcell
  have e2 : ((DD : Int) == 1) = false := by simp; omega
  have hw : wd q = DD := by rw [wd, P2.out, if_neg hD1]
  obtain ⟨F, -, s0, s1, s2⟩ := put_of (w0 := w) hsg (by rw [P1.out]; exact hxr) (a' := (some ⟨bb, bo, none⟩)) (n' := 1) (c' := yc) (by rw [hw]; exact hyr) R_3.out KW_3.out (Nat.le_refl _)
  have FIN := Lib.hid F
  obtain ⟨y0, y1, y2, f0, f1, f2, -⟩ := id R_3.out
  clear F hxr hyr hw hxl hyl hN0 hD0 hD1 e1
  go_wp2
  refine bodyPost_ret (v := .agg #[.bool false, .slice xa 0 xc, .slice (some ⟨bb, bo, none⟩) 1 yc]) (by simp [results, Tryd.results57, go_sem, s0, s1, s2]) rfl ?_
  exact FIN.out
set_option maxHeartbeats 800000 in
theorem quot_t12 {w : World} {x y : Value} {n d k : Nat} (hx : Nm w x n k) (hy : Nm w y d k) (h0 : d ≠ 0) (hk : k ≤ 500000) (hN0 : n / Nat.gcd n d = 0) (hD1 : d / Nat.gcd n d = 1) : Calls Tryd.prog 57 #[.bool true, x, y] w (RPost (rv true n d) w) := by
  have KW_0 := Lib.hid ((Keep.refl w).alloc (.cells #[.bool false, .slice none 0 0, .slice none 0 0] 25))
  have R_0 := Lib.hid (QBox.new w false none 0 0 none 0 0)
  have X_0 := Lib.hid (hx.keep KW_0.out)
  have Y_0 := Lib.hid (hy.keep KW_0.out)
  have hg0 : Nat.gcd n d ≠ 0 := by have := Nat.gcd_pos_of_pos_right n (Nat.pos_of_ne_zero h0); omega
  have hgk : Nat.gcd n d < BB ^ k := Nat.lt_of_le_of_lt (Nat.gcd_le_right n (Nat.pos_of_ne_zero h0)) hy.lt
  have GC := Lib.hid (fun w1 (h : Nm w1 x n k) (h' : Nm w1 y d k) => rgcd_c h h' hk)
  have D1 := Lib.hid (fun w1 u (h : Nm w1 x n k) (hu : Cn w1 u (Nat.gcd n d)) => rdm_c h (hu.nm hgk) hk)
  have D2 := Lib.hid (fun w1 u (h : Nm w1 y d k) (hu : Cn w1 u (Nat.gcd n d)) => rdm_c h (hu.nm hgk) hk)
  unfold DmQ at D1 D2
  obtain ⟨r1, r2, r3⟩ := rv_red true n h0
  obtain ⟨p1, p2, p3⟩ := pack_parts true r2
  rw [r1] at p1 p2 p3
  rw [dn_of r3] at p2
  obtain ⟨q, hq⟩ : ∃ q, rv true n d = q := ⟨_, rfl⟩
  rw [hq] at p1 p2 p3 ⊢
  have hsg : decide (q.num < 0) = false := num0 (p1.trans hN0)
  obtain ⟨G, hG⟩ : ∃ G, Nat.gcd n d = G := ⟨_, rfl⟩
  rw [hG] at GC D1 D2 p1 p2 hN0 hD1
  obtain ⟨NN, hNN⟩ : ∃ x, n / G = x := ⟨_, rfl⟩
  obtain ⟨DD, hDD⟩ : ∃ x, d / G = x := ⟨_, rfl⟩
  rw [hNN] at D1 p1 hN0
  rw [hDD] at D2 p2 hD1
  have P1 := Lib.hid p1
  have P2 := Lib.hid p2
  obtain ⟨er, her⟩ : ∃ x, dmE G = x := ⟨_, rfl⟩
  rw [her] at D1 D2
  obtain ⟨m1, hm1⟩ : ∃ x, dmR n G = x := ⟨_, rfl⟩
  obtain ⟨m2, hm2⟩ : ∃ x, dmR d G = x := ⟨_, rfl⟩
  rw [hm1] at D1
  rw [hm2] at D2
  clear hx hy h0 hg0 hgk r1 r2 r3 p1 p2 p3 hq hG hNN hDD her hm1 hm2
  go_enter Tryd.func57, Tryd.ntmps57
  go_wp2_with fail
  refine Calls.mono (GC.out _ X_0.out Y_0.out) ?_
  rintro e w1 ⟨vG, rfl, hG, k1⟩
  have X_1 := Lib.hid (X_0.out.keep k1)
  have Y_1 := Lib.hid (Y_0.out.keep k1)
  have R_1 := Lib.hid (R_0.out.keep k1)
  have G_1 := Lib.hid hG
  have KW_1 := Lib.hid (KW_0.out.trans k1)
  clear k1 X_0 Y_0 R_0 hG KW_0
  go_wp2_with fail
  refine Calls.mono (D1.out _ _ X_1.out G_1.out) ?_
  rintro e w2 ⟨x1, y1, rfl, hP, hy1, k2⟩
  have Y_2 := Lib.hid (Y_1.out.keep k2)
  have R_2 := Lib.hid (R_1.out.keep k2)
  have G_2 := Lib.hid (G_1.out.keep k2)
  have P_2 := Lib.hid hP
  have KW_2 := Lib.hid (KW_1.out.trans k2)
  clear hy1
  clear k2 X_1 Y_1 R_1 G_1 hP KW_1
  go_wp2_with fail
  refine Calls.mono (D2.out _ _ Y_2.out G_2.out) ?_
  rintro e w3 ⟨x2, y2, rfl, hQ, hy2, k3⟩
  have R_3 := Lib.hid (R_2.out.keep k3)
  have P_3 := Lib.hid (P_2.out.keep k3)
  have Q_3 := Lib.hid hQ
  have KW_3 := Lib.hid (KW_2.out.trans k3)
  clear hy2
  clear k3 Y_2 G_2 R_2 P_2 hQ KW_2
  obtain ⟨xa, xc, rfl, hxr⟩ := Cn.form P_3.out
  obtain ⟨ya, yc, rfl, hyr⟩ := Cn.form Q_3.out
  obtain ⟨xl, hxl⟩ : ∃ x, (dig NN).length = x := ⟨_, rfl⟩
  obtain ⟨yl, hyl⟩ : ∃ x, (dig DD).length = x := ⟨_, rfl⟩
  have qa := hxr.le_cap
  have qb := hxr.cap_le
  have qc := hyr.le_cap
  have qd := hyr.cap_le
  rw [hxl] at hxr qa ⊢
  rw [hyl] at hyr qc ⊢
  have hx0 : xl = 0 := by rw [← hxl, hN0, dig_zero]; rfl
  subst hx0
  have hyl1 : yl = 1 := by rw [← hyl, hD1, ← dig_one (by decide) (by decide)]; rfl
  subst hyl1
  obtain ⟨e1, -⟩ := dig_sing hyl
  obtain ⟨bb, bo, rfl, hcell, -⟩ := hyr.cell0 (by omega)
  rw [e1] at hcell
  simp only [List.getD_cons_zero] at hcell
  rw [hD1] at hcell
  have hw : wd q = 0 := by rw [wd, P2.out, if_pos hD1]
  obtain ⟨F, -, s0, s1, s2⟩ := put_of (w0 := w) hsg (by rw [P1.out]; exact hxr) (a' := none) (n' := 0) (c' := 0) (by rw [hw, dig_zero]; exact Rd.nil _) R_3.out KW_3.out (Nat.le_refl _)
  have FIN := Lib.hid F
  obtain ⟨y0, y1, y2, f0, f1, f2, -⟩ := id R_3.out
  clear F hxr hyr hw hxl hyl hN0 hD1 e1
  go_wp2
  refine bodyPost_ret (v := .agg #[.bool false, .slice xa 0 xc, .slice none 0 0]) (by simp [results, Tryd.results57, go_sem, s0, s1, s2]) rfl ?_
  exact FIN.out
set_option maxHeartbeats 800000 in
theorem quot_t00 {w : World} {x y : Value} {n d k : Nat} (hx : Nm w x n k) (hy : Nm w y d k) (h0 : d ≠ 0) (hk : k ≤ 500000) (hN0 : n / Nat.gcd n d ≠ 0) (hD0 : (dig (d / Nat.gcd n d)).length ≠ 1) : Calls Tryd.prog 57 #[.bool true, x, y] w (RPost (rv true n d) w) := by
  have KW_0 := Lib.hid ((Keep.refl w).alloc (.cells #[.bool false, .slice none 0 0, .slice none 0 0] 25))
  have R_0 := Lib.hid (QBox.new w false none 0 0 none 0 0)
  have X_0 := Lib.hid (hx.keep KW_0.out)
  have Y_0 := Lib.hid (hy.keep KW_0.out)
  have hg0 : Nat.gcd n d ≠ 0 := by have := Nat.gcd_pos_of_pos_right n (Nat.pos_of_ne_zero h0); omega
  have hgk : Nat.gcd n d < BB ^ k := Nat.lt_of_le_of_lt (Nat.gcd_le_right n (Nat.pos_of_ne_zero h0)) hy.lt
  have GC := Lib.hid (fun w1 (h : Nm w1 x n k) (h' : Nm w1 y d k) => rgcd_c h h' hk)
  have D1 := Lib.hid (fun w1 u (h : Nm w1 x n k) (hu : Cn w1 u (Nat.gcd n d)) => rdm_c h (hu.nm hgk) hk)
  have D2 := Lib.hid (fun w1 u (h : Nm w1 y d k) (hu : Cn w1 u (Nat.gcd n d)) => rdm_c h (hu.nm hgk) hk)
  unfold DmQ at D1 D2
  obtain ⟨r1, r2, r3⟩ := rv_red true n h0
  obtain ⟨p1, p2, p3⟩ := pack_parts true r2
  rw [r1] at p1 p2 p3
  rw [dn_of r3] at p2
  obtain ⟨q, hq⟩ : ∃ q, rv true n d = q := ⟨_, rfl⟩
  rw [hq] at p1 p2 p3 ⊢
  have hsg : decide (q.num < 0) = true := p3 hN0
  obtain ⟨G, hG⟩ : ∃ G, Nat.gcd n d = G := ⟨_, rfl⟩
  rw [hG] at GC D1 D2 p1 p2 hN0 hD0
  obtain ⟨NN, hNN⟩ : ∃ x, n / G = x := ⟨_, rfl⟩
  obtain ⟨DD, hDD⟩ : ∃ x, d / G = x := ⟨_, rfl⟩
  rw [hNN] at D1 p1 hN0
  rw [hDD] at D2 p2 hD0
  have P1 := Lib.hid p1
  have P2 := Lib.hid p2
  obtain ⟨er, her⟩ : ∃ x, dmE G = x := ⟨_, rfl⟩
  rw [her] at D1 D2
  obtain ⟨m1, hm1⟩ : ∃ x, dmR n G = x := ⟨_, rfl⟩
  obtain ⟨m2, hm2⟩ : ∃ x, dmR d G = x := ⟨_, rfl⟩
  rw [hm1] at D1
  rw [hm2] at D2
  clear hx hy h0 hg0 hgk r1 r2 r3 p1 p2 p3 hq hG hNN hDD her hm1 hm2
  go_enter Tryd.func57, Tryd.ntmps57
  go_wp2_with fail
  refine Calls.mono (GC.out _ X_0.out Y_0.out) ?_
  rintro e w1 ⟨vG, rfl, hG, k1⟩
  have X_1 := Lib.hid (X_0.out.keep k1)
  have Y_1 := Lib.hid (Y_0.out.keep k1)
  have R_1 := Lib.hid (R_0.out.keep k1)
  have G_1 := Lib.hid hG
  have KW_1 := Lib.hid (KW_0.out.trans k1)
  clear k1 X_0 Y_0 R_0 hG KW_0
  go_wp2_with fail
  refine Calls.mono (D1.out _ _ X_1.out G_1.out) ?_
  rintro e w2 ⟨x1, y1, rfl, hP, hy1, k2⟩
  have Y_2 := Lib.hid (Y_1.out.keep k2)
  have R_2 := Lib.hid (R_1.out.keep k2)
  have G_2 := Lib.hid (G_1.out.keep k2)
  have P_2 := Lib.hid hP
  have KW_2 := Lib.hid (KW_1.out.trans k2)
  clear hy1
  clear k2 X_1 Y_1 R_1 G_1 hP KW_1
  go_wp2_with fail
  refine Calls.mono (D2.out _ _ Y_2.out G_2.out) ?_
  rintro e w3 ⟨x2, y2, rfl, hQ, hy2, k3⟩
  have R_3 := Lib.hid (R_2.out.keep k3)
  have P_3 := Lib.hid (P_2.out.keep k3)
  have Q_3 := Lib.hid hQ
  have KW_3 := Lib.hid (KW_2.out.trans k3)
  clear hy2
  clear k3 Y_2 G_2 R_2 P_2 hQ KW_2
  obtain ⟨xa, xc, rfl, hxr⟩ := Cn.form P_3.out
  obtain ⟨ya, yc, rfl, hyr⟩ := Cn.form Q_3.out
  obtain ⟨xl, hxl⟩ : ∃ x, (dig NN).length = x := ⟨_, rfl⟩
  obtain ⟨yl, hyl⟩ : ∃ x, (dig DD).length = x := ⟨_, rfl⟩
  have qa := hxr.le_cap
  have qb := hxr.cap_le
  have qc := hyr.le_cap
  have qd := hyr.cap_le
  rw [hxl] at hxr qa ⊢
  rw [hyl] at hyr qc ⊢
  have hx0 : decide ((0 : Int) < xl) = true := decide_eq_true (by
    have : xl ≠ 0 := by rw [← hxl]; exact fun h => hN0 (dig_nil_iff.1 (List.length_eq_zero_iff.1 h))
    omega)
  have hx1 : decide (0 < xl) = true := decide_eq_true (by have := of_decide_eq_true hx0; omega)
  have e1 : ((yl : Int) == 1) = false := by simp; rw [← hyl]; omega
  have hw : wd q = DD := by rw [wd, P2.out, if_neg (fun h => hD0 (by rw [h, ← dig_one (by decide) (by decide)]; rfl))]
  obtain ⟨F, -, s0, s1, s2⟩ := put_of (w0 := w) hsg (by rw [P1.out]; exact hxr) (a' := ya) (n' := yl) (c' := yc) (by rw [hw]; exact hyr) R_3.out KW_3.out (Nat.le_refl _)
  have FIN := Lib.hid F
  obtain ⟨y0, y1, y2, f0, f1, f2, -⟩ := id R_3.out
  clear F hxr hyr hw hxl hyl hN0 hD0
  go_wp2
  refine bodyPost_ret (v := .agg #[.bool true, .slice xa xl xc, .slice ya yl yc]) (by simp [results, Tryd.results57, go_sem, s0, s1, s2]) rfl ?_
  exact FIN.out
set_option maxHeartbeats 800000 in
theorem quot_t01 {w : World} {x y : Value} {n d k : Nat} (hx : Nm w x n k) (hy : Nm w y d k) (h0 : d ≠ 0) (hk : k ≤ 500000) (hN0 : n / Nat.gcd n d ≠ 0) (hD0 : (dig (d / Nat.gcd n d)).length = 1) (hD1 : d / Nat.gcd n d ≠ 1) : Calls Tryd.prog 57 #[.bool true, x, y] w (RPost (rv true n d) w) := by
  have KW_0 := Lib.hid ((Keep.refl w).alloc (.cells #[.bool false, .slice none 0 0, .slice none 0 0] 25))
  have R_0 := Lib.hid (QBox.new w false none 0 0 none 0 0)
  have X_0 := Lib.hid (hx.keep KW_0.out)
  have Y_0 := Lib.hid (hy.keep KW_0.out)
  have hg0 : Nat.gcd n d ≠ 0 := by have := Nat.gcd_pos_of_pos_right n (Nat.pos_of_ne_zero h0); omega
  have hgk : Nat.gcd n d < BB ^ k := Nat.lt_of_le_of_lt (Nat.gcd_le_right n (Nat.pos_of_ne_zero h0)) hy.lt
  have GC := Lib.hid (fun w1 (h : Nm w1 x n k) (h' : Nm w1 y d k) => rgcd_c h h' hk)
  have D1 := Lib.hid (fun w1 u (h : Nm w1 x n k) (hu : Cn w1 u (Nat.gcd n d)) => rdm_c h (hu.nm hgk) hk)
  have D2 := Lib.hid (fun w1 u (h : Nm w1 y d k) (hu : Cn w1 u (Nat.gcd n d)) => rdm_c h (hu.nm hgk) hk)
  unfold DmQ at D1 D2
  obtain ⟨r1, r2, r3⟩ := rv_red true n h0
  obtain ⟨p1, p2, p3⟩ := pack_parts true r2
  rw [r1] at p1 p2 p3
  rw [dn_of r3] at p2
  obtain ⟨q, hq⟩ : ∃ q, rv true n d = q := ⟨_, rfl⟩
  rw [hq] at p1 p2 p3 ⊢
  have hsg : decide (q.num < 0) = true := p3 hN0
  obtain ⟨G, hG⟩ : ∃ G, Nat.gcd n d = G := ⟨_, rfl⟩
  rw [hG] at GC D1 D2 p1 p2 hN0 hD1 hD0
  obtain ⟨NN, hNN⟩ : ∃ x, n / G = x := ⟨_, rfl⟩
  obtain ⟨DD, hDD⟩ : ∃ x, d / G = x := ⟨_, rfl⟩
  rw [hNN] at D1 p1 hN0
  rw [hDD] at D2 p2 hD1 hD0
  have P1 := Lib.hid p1
  have P2 := Lib.hid p2
  obtain ⟨er, her⟩ : ∃ x, dmE G = x := ⟨_, rfl⟩
  rw [her] at D1 D2
  obtain ⟨m1, hm1⟩ : ∃ x, dmR n G = x := ⟨_, rfl⟩
  obtain ⟨m2, hm2⟩ : ∃ x, dmR d G = x := ⟨_, rfl⟩
  rw [hm1] at D1
  rw [hm2] at D2
  clear hx hy h0 hg0 hgk r1 r2 r3 p1 p2 p3 hq hG hNN hDD her hm1 hm2
  go_enter Tryd.func57, Tryd.ntmps57
  go_wp2_with fail
  refine Calls.mono (GC.out _ X_0.out Y_0.out) ?_
  rintro e w1 ⟨vG, rfl, hG, k1⟩
  have X_1 := Lib.hid (X_0.out.keep k1)
  have Y_1 := Lib.hid (Y_0.out.keep k1)
  have R_1 := Lib.hid (R_0.out.keep k1)
  have G_1 := Lib.hid hG
  have KW_1 := Lib.hid (KW_0.out.trans k1)
  clear k1 X_0 Y_0 R_0 hG KW_0
  go_wp2_with fail
  refine Calls.mono (D1.out _ _ X_1.out G_1.out) ?_
  rintro e w2 ⟨x1, y1, rfl, hP, hy1, k2⟩
  have Y_2 := Lib.hid (Y_1.out.keep k2)
  have R_2 := Lib.hid (R_1.out.keep k2)
  have G_2 := Lib.hid (G_1.out.keep k2)
  have P_2 := Lib.hid hP
  have KW_2 := Lib.hid (KW_1.out.trans k2)
  clear hy1
  clear k2 X_1 Y_1 R_1 G_1 hP KW_1
  go_wp2_with fail
  refine Calls.mono (D2.out _ _ Y_2.out G_2.out) ?_
  rintro e w3 ⟨x2, y2, rfl, hQ, hy2, k3⟩
  have R_3 := Lib.hid (R_2.out.keep k3)
  have P_3 := Lib.hid (P_2.out.keep k3)
  have Q_3 := Lib.hid hQ
  have KW_3 := Lib.hid (KW_2.out.trans k3)
  clear hy2
  clear k3 Y_2 G_2 R_2 P_2 hQ KW_2
  obtain ⟨xa, xc, rfl, hxr⟩ := Cn.form P_3.out
  obtain ⟨ya, yc, rfl, hyr⟩ := Cn.form Q_3.out
  obtain ⟨xl, hxl⟩ : ∃ x, (dig NN).length = x := ⟨_, rfl⟩
  obtain ⟨yl, hyl⟩ : ∃ x, (dig DD).length = x := ⟨_, rfl⟩
  have qa := hxr.le_cap
  have qb := hxr.cap_le
  have qc := hyr.le_cap
  have qd := hyr.cap_le
  rw [hxl] at hxr qa ⊢
  rw [hyl] at hyr qc ⊢
  have hx0 : decide ((0 : Int) < xl) = true := decide_eq_true (by
    have : xl ≠ 0 := by rw [← hxl]; exact fun h => hN0 (dig_nil_iff.1 (List.length_eq_zero_iff.1 h))
    omega)
  have hx1 : decide (0 < xl) = true := decide_eq_true (by have := of_decide_eq_true hx0; omega)
  have hyl1 : yl = 1 := by rw [← hyl]; exact hD0
  subst hyl1
  obtain ⟨e1, -⟩ := dig_sing hyl
  obtain ⟨bb, bo, rfl, hcell, -⟩ := hyr.cell0 (by omega)
  rw [e1] at hcell
  simp only [List.getD_cons_zero] at hcell
  have e2 : ((DD : Int) == 1) = false := by simp; omega
  have hw : wd q = DD := by rw [wd, P2.out, if_neg hD1]
  obtain ⟨F, -, s0, s1, s2⟩ := put_of (w0 := w) hsg (by rw [P1.out]; exact hxr) (a' := (some ⟨bb, bo, none⟩)) (n' := 1) (c' := yc) (by rw [hw]; exact hyr) R_3.out KW_3.out (Nat.le_refl _)
  have FIN := Lib.hid F
  obtain ⟨y0, y1, y2, f0, f1, f2, -⟩ := id R_3.out
  clear F hxr hyr hw hxl hyl hN0 hD0 hD1 e1
  go_wp2
  refine bodyPost_ret (v := .agg #[.bool true, .slice xa xl xc, .slice (some ⟨bb, bo, none⟩) 1 yc]) (by simp [results, Tryd.results57, go_sem, s0, s1, s2]) rfl ?_
  exact FIN.out
set_option maxHeartbeats 800000 in
theorem quot_t02 {w : World} {x y : Value} {n d k : Nat} (hx : Nm w x n k) (hy : Nm w y d k) (h0 : d ≠ 0) (hk : k ≤ 500000) (hN0 : n / Nat.gcd n d ≠ 0) (hD1 : d / Nat.gcd n d = 1) : Calls Tryd.prog 57 #[.bool true, x, y] w (RPost (rv true n d) w) := by
  have KW_0 := Lib.hid ((Keep.refl w).alloc (.cells #[.bool false, .slice none 0 0, .slice none 0 0] 25))
  have R_0 := Lib.hid (QBox.new w false none 0 0 none 0 0)
  have X_0 := Lib.hid (hx.keep KW_0.out)
  have Y_0 := Lib.hid (hy.keep KW_0.out)
  have hg0 : Nat.gcd n d ≠ 0 := by have := Nat.gcd_pos_of_pos_right n (Nat.pos_of_ne_zero h0); omega
  have hgk : Nat.gcd n d < BB ^ k := Nat.lt_of_le_of_lt (Nat.gcd_le_right n (Nat.pos_of_ne_zero h0)) hy.lt
  have GC := Lib.hid (fun w1 (h : Nm w1 x n k) (h' : Nm w1 y d k) => rgcd_c h h' hk)
  have D1 := Lib.hid (fun w1 u (h : Nm w1 x n k) (hu : Cn w1 u (Nat.gcd n d)) => rdm_c h (hu.nm hgk) hk)
  have D2 := Lib.hid (fun w1 u (h : Nm w1 y d k) (hu : Cn w1 u (Nat.gcd n d)) => rdm_c h (hu.nm hgk) hk)
  unfold DmQ at D1 D2
  obtain ⟨r1, r2, r3⟩ := rv_red true n h0
  obtain ⟨p1, p2, p3⟩ := pack_parts true r2
  rw [r1] at p1 p2 p3
  rw [dn_of r3] at p2
  obtain ⟨q, hq⟩ : ∃ q, rv true n d = q := ⟨_, rfl⟩
  rw [hq] at p1 p2 p3 ⊢
  have hsg : decide (q.num < 0) = true := p3 hN0
  obtain ⟨G, hG⟩ : ∃ G, Nat.gcd n d = G := ⟨_, rfl⟩
  rw [hG] at GC D1 D2 p1 p2 hN0 hD1
  obtain ⟨NN, hNN⟩ : ∃ x, n / G = x := ⟨_, rfl⟩
  obtain ⟨DD, hDD⟩ : ∃ x, d / G = x := ⟨_, rfl⟩
  rw [hNN] at D1 p1 hN0
  rw [hDD] at D2 p2 hD1
  have P1 := Lib.hid p1
  have P2 := Lib.hid p2
  obtain ⟨er, her⟩ : ∃ x, dmE G = x := ⟨_, rfl⟩
  rw [her] at D1 D2
  obtain ⟨m1, hm1⟩ : ∃ x, dmR n G = x := ⟨_, rfl⟩
  obtain ⟨m2, hm2⟩ : ∃ x, dmR d G = x := ⟨_, rfl⟩
  rw [hm1] at D1
  rw [hm2] at D2
  clear hx hy h0 hg0 hgk r1 r2 r3 p1 p2 p3 hq hG hNN hDD her hm1 hm2
  go_enter Tryd.func57, Tryd.ntmps57
  go_wp2_with fail
  refine Calls.mono (GC.out _ X_0.out Y_0.out) ?_
  rintro e w1 ⟨vG, rfl, hG, k1⟩
  have X_1 := Lib.hid (X_0.out.keep k1)
  have Y_1 := Lib.hid (Y_0.out.keep k1)
  have R_1 := Lib.hid (R_0.out.keep k1)
  have G_1 := Lib.hid hG
  have KW_1 := Lib.hid (KW_0.out.trans k1)
  clear k1 X_0 Y_0 R_0 hG KW_0
  go_wp2_with fail
  refine Calls.mono (D1.out _ _ X_1.out G_1.out) ?_
  rintro e w2 ⟨x1, y1, rfl, hP, hy1, k2⟩
  have Y_2 := Lib.hid (Y_1.out.keep k2)
  have R_2 := Lib.hid (R_1.out.keep k2)
  have G_2 := Lib.hid (G_1.out.keep k2)
  have P_2 := Lib.hid hP
  have KW_2 := Lib.hid (KW_1.out.trans k2)
  clear hy1
  clear k2 X_1 Y_1 R_1 G_1 hP KW_1
  go_wp2_with fail
  refine Calls.mono (D2.out _ _ Y_2.out G_2.out) ?_
  rintro e w3 ⟨x2, y2, rfl, hQ, hy2, k3⟩
  have R_3 := Lib.hid (R_2.out.keep k3)
  have P_3 := Lib.hid (P_2.out.keep k3)
  have Q_3 := Lib.hid hQ
  have KW_3 := Lib.hid (KW_2.out.trans k3)
  clear hy2
  clear k3 Y_2 G_2 R_2 P_2 hQ KW_2
  obtain ⟨xa, xc, rfl, hxr⟩ := Cn.form P_3.out
  obtain ⟨ya, yc, rfl, hyr⟩ := Cn.form Q_3.out
  obtain ⟨xl, hxl⟩ : ∃ x, (dig NN).length = x := ⟨_, rfl⟩
  obtain ⟨yl, hyl⟩ : ∃ x, (dig DD).length = x := ⟨_, rfl⟩
  have qa := hxr.le_cap
  have qb := hxr.cap_le
  have qc := hyr.le_cap
  have qd := hyr.cap_le
  rw [hxl] at hxr qa ⊢
  rw [hyl] at hyr qc ⊢
  have hx0 : decide ((0 : Int) < xl) = true := decide_eq_true (by
    have : xl ≠ 0 := by rw [← hxl]; exact fun h => hN0 (dig_nil_iff.1 (List.length_eq_zero_iff.1 h))
    omega)
  have hx1 : decide (0 < xl) = true := decide_eq_true (by have := of_decide_eq_true hx0; omega)
  have hyl1 : yl = 1 := by rw [← hyl, hD1, ← dig_one (by decide) (by decide)]; rfl
  subst hyl1
  obtain ⟨e1, -⟩ := dig_sing hyl
  obtain ⟨bb, bo, rfl, hcell, -⟩ := hyr.cell0 (by omega)
  rw [e1] at hcell
  simp only [List.getD_cons_zero] at hcell
  rw [hD1] at hcell
  have hw : wd q = 0 := by rw [wd, P2.out, if_pos hD1]
  obtain ⟨F, -, s0, s1, s2⟩ := put_of (w0 := w) hsg (by rw [P1.out]; exact hxr) (a' := none) (n' := 0) (c' := 0) (by rw [hw, dig_zero]; exact Rd.nil _) R_3.out KW_3.out (Nat.le_refl _)
  have FIN := Lib.hid F
  obtain ⟨y0, y1, y2, f0, f1, f2, -⟩ := id R_3.out
  clear F hxr hyr hw hxl hyl hN0 hD1 e1
  go_wp2
  refine bodyPost_ret (v := .agg #[.bool true, .slice xa xl xc, .slice none 0 0]) (by simp [results, Tryd.results57, go_sem, s0, s1, s2]) rfl ?_
  exact FIN.out
set_option maxHeartbeats 800000 in
theorem quot_f10 {w : World} {x y : Value} {n d k : Nat} (hx : Nm w x n k) (hy : Nm w y d k) (h0 : d ≠ 0) (hk : k ≤ 500000) (hN0 : n / Nat.gcd n d = 0) (hD0 : (dig (d / Nat.gcd n d)).length ≠ 1) : Calls Tryd.prog 57 #[.bool false, x, y] w (RPost (rv false n d) w) := by
  have KW_0 := Lib.hid ((Keep.refl w).alloc (.cells #[.bool false, .slice none 0 0, .slice none 0 0] 25))
  have R_0 := Lib.hid (QBox.new w false none 0 0 none 0 0)
  have X_0 := Lib.hid (hx.keep KW_0.out)
  have Y_0 := Lib.hid (hy.keep KW_0.out)
  have hg0 : Nat.gcd n d ≠ 0 := by have := Nat.gcd_pos_of_pos_right n (Nat.pos_of_ne_zero h0); omega
  have hgk : Nat.gcd n d < BB ^ k := Nat.lt_of_le_of_lt (Nat.gcd_le_right n (Nat.pos_of_ne_zero h0)) hy.lt
  have GC := Lib.hid (fun w1 (h : Nm w1 x n k) (h' : Nm w1 y d k) => rgcd_c h h' hk)
  have D1 := Lib.hid (fun w1 u (h : Nm w1 x n k) (hu : Cn w1 u (Nat.gcd n d)) => rdm_c h (hu.nm hgk) hk)
  have D2 := Lib.hid (fun w1 u (h : Nm w1 y d k) (hu : Cn w1 u (Nat.gcd n d)) => rdm_c h (hu.nm hgk) hk)
  unfold DmQ at D1 D2
  obtain ⟨r1, r2, r3⟩ := rv_red false n h0
  obtain ⟨p1, p2, p3⟩ := pack_parts false r2
  rw [r1] at p1 p2 p3
  rw [dn_of r3] at p2
  obtain ⟨q, hq⟩ : ∃ q, rv false n d = q := ⟨_, rfl⟩
  rw [hq] at p1 p2 p3 ⊢
  have hsg : decide (q.num < 0) = false := num0 (p1.trans hN0)
  obtain ⟨G, hG⟩ : ∃ G, Nat.gcd n d = G := ⟨_, rfl⟩
  rw [hG] at GC D1 D2 p1 p2 hN0 hD0
  obtain ⟨NN, hNN⟩ : ∃ x, n / G = x := ⟨_, rfl⟩
  obtain ⟨DD, hDD⟩ : ∃ x, d / G = x := ⟨_, rfl⟩
  rw [hNN] at D1 p1 hN0
  rw [hDD] at D2 p2 hD0
  have P1 := Lib.hid p1
  have P2 := Lib.hid p2
  obtain ⟨er, her⟩ : ∃ x, dmE G = x := ⟨_, rfl⟩
  rw [her] at D1 D2
  obtain ⟨m1, hm1⟩ : ∃ x, dmR n G = x := ⟨_, rfl⟩
  obtain ⟨m2, hm2⟩ : ∃ x, dmR d G = x := ⟨_, rfl⟩
  rw [hm1] at D1
  rw [hm2] at D2
  clear hx hy h0 hg0 hgk r1 r2 r3 p1 p2 p3 hq hG hNN hDD her hm1 hm2
  go_enter Tryd.func57, Tryd.ntmps57
  go_wp2_with fail
  refine Calls.mono (GC.out _ X_0.out Y_0.out) ?_
  rintro e w1 ⟨vG, rfl, hG, k1⟩
  have X_1 := Lib.hid (X_0.out.keep k1)
  have Y_1 := Lib.hid (Y_0.out.keep k1)
  have R_1 := Lib.hid (R_0.out.keep k1)
  have G_1 := Lib.hid hG
  have KW_1 := Lib.hid (KW_0.out.trans k1)
  clear k1 X_0 Y_0 R_0 hG KW_0
  go_wp2_with fail
  refine Calls.mono (D1.out _ _ X_1.out G_1.out) ?_
  rintro e w2 ⟨x1, y1, rfl, hP, hy1, k2⟩
  have Y_2 := Lib.hid (Y_1.out.keep k2)
  have R_2 := Lib.hid (R_1.out.keep k2)
  have G_2 := Lib.hid (G_1.out.keep k2)
  have P_2 := Lib.hid hP
  have KW_2 := Lib.hid (KW_1.out.trans k2)
  clear hy1
  clear k2 X_1 Y_1 R_1 G_1 hP KW_1
  go_wp2_with fail
  refine Calls.mono (D2.out _ _ Y_2.out G_2.out) ?_
  rintro e w3 ⟨x2, y2, rfl, hQ, hy2, k3⟩
  have R_3 := Lib.hid (R_2.out.keep k3)
  have P_3 := Lib.hid (P_2.out.keep k3)
  have Q_3 := Lib.hid hQ
  have KW_3 := Lib.hid (KW_2.out.trans k3)
  clear hy2
  clear k3 Y_2 G_2 R_2 P_2 hQ KW_2
  obtain ⟨xa, xc, rfl, hxr⟩ := Cn.form P_3.out
  obtain ⟨ya, yc, rfl, hyr⟩ := Cn.form Q_3.out
  obtain ⟨xl, hxl⟩ : ∃ x, (dig NN).length = x := ⟨_, rfl⟩
  obtain ⟨yl, hyl⟩ : ∃ x, (dig DD).length = x := ⟨_, rfl⟩
  have qa := hxr.le_cap
  have qb := hxr.cap_le
  have qc := hyr.le_cap
  have qd := hyr.cap_le
  rw [hxl] at hxr qa ⊢
  rw [hyl] at hyr qc ⊢
  have hx0 : xl = 0 := by rw [← hxl, hN0, dig_zero]; rfl
  subst hx0
  have e1 : ((yl : Int) == 1) = false := by simp; rw [← hyl]; omega
  have hw : wd q = DD := by rw [wd, P2.out, if_neg (fun h => hD0 (by rw [h, ← dig_one (by decide) (by decide)]; rfl))]
  obtain ⟨F, -, s0, s1, s2⟩ := put_of (w0 := w) hsg (by rw [P1.out]; exact hxr) (a' := ya) (n' := yl) (c' := yc) (by rw [hw]; exact hyr) R_3.out KW_3.out (Nat.le_refl _)
  have FIN := Lib.hid F
  obtain ⟨y0, y1, y2, f0, f1, f2, -⟩ := id R_3.out
  clear F hxr hyr hw hxl hyl hN0 hD0
  go_wp2
  refine bodyPost_ret (v := .agg #[.bool false, .slice xa 0 xc, .slice ya yl yc]) (by simp [results, Tryd.results57, go_sem, s0, s1, s2]) rfl ?_
  exact FIN.out
set_option maxHeartbeats 800000 in
theorem quot_f11 {w : World} {x y : Value} {n d k : Nat} (hx : Nm w x n k) (hy : Nm w y d k) (h0 : d ≠ 0) (hk : k ≤ 500000) (hN0 : n / Nat.gcd n d = 0) (hD0 : (dig (d / Nat.gcd n d)).length = 1) (hD1 : d / Nat.gcd n d ≠ 1) : Calls Tryd.prog 57 #[.bool false, x, y] w (RPost (rv false n d) w) := by
  have KW_0 := Lib.hid ((Keep.refl w).alloc (.cells #[.bool false, .slice none 0 0, .slice none 0 0] 25))
  have R_0 := Lib.hid (QBox.new w false none 0 0 none 0 0)
  have X_0 := Lib.hid (hx.keep KW_0.out)
  have Y_0 := Lib.hid (hy.keep KW_0.out)
  have hg0 : Nat.gcd n d ≠ 0 := by have := Nat.gcd_pos_of_pos_right n (Nat.pos_of_ne_zero h0); omega
  have hgk : Nat.gcd n d < BB ^ k := Nat.lt_of_le_of_lt (Nat.gcd_le_right n (Nat.pos_of_ne_zero h0)) hy.lt
  have GC := Lib.hid (fun w1 (h : Nm w1 x n k) (h' : Nm w1 y d k) => rgcd_c h h' hk)
  have D1 := Lib.hid (fun w1 u (h : Nm w1 x n k) (hu : Cn w1 u (Nat.gcd n d)) => rdm_c h (hu.nm hgk) hk)
  have D2 := Lib.hid (fun w1 u (h : Nm w1 y d k) (hu : Cn w1 u (Nat.gcd n d)) => rdm_c h (hu.nm hgk) hk)
  unfold DmQ at D1 D2
  obtain ⟨r1, r2, r3⟩ := rv_red false n h0
  obtain ⟨p1, p2, p3⟩ := pack_parts false r2
  rw [r1] at p1 p2 p3
  rw [dn_of r3] at p2
  obtain ⟨q, hq⟩ : ∃ q, rv false n d = q := ⟨_, rfl⟩
  rw [hq] at p1 p2 p3 ⊢
  have hsg : decide (q.num < 0) = false := num0 (p1.trans hN0)
  obtain ⟨G, hG⟩ : ∃ G, Nat.gcd n d = G := ⟨_, rfl⟩
  rw [hG] at GC D1 D2 p1 p2 hN0 hD1 hD0
  obtain ⟨NN, hNN⟩ : ∃ x, n / G = x := ⟨_, rfl⟩
  obtain ⟨DD, hDD⟩ : ∃ x, d / G = x := ⟨_, rfl⟩
  rw [hNN] at D1 p1 hN0
  rw [hDD] at D2 p2 hD1 hD0
  have P1 := Lib.hid p1
  have P2 := Lib.hid p2
  obtain ⟨er, her⟩ : ∃ x, dmE G = x := ⟨_, rfl⟩
  rw [her] at D1 D2
  obtain ⟨m1, hm1⟩ : ∃ x, dmR n G = x := ⟨_, rfl⟩
  obtain ⟨m2, hm2⟩ : ∃ x, dmR d G = x := ⟨_, rfl⟩
  rw [hm1] at D1
  rw [hm2] at D2
  clear hx hy h0 hg0 hgk r1 r2 r3 p1 p2 p3 hq hG hNN hDD her hm1 hm2
  go_enter Tryd.func57, Tryd.ntmps57
  go_wp2_with fail
  refine Calls.mono (GC.out _ X_0.out Y_0.out) ?_
  rintro e w1 ⟨vG, rfl, hG, k1⟩
  have X_1 := Lib.hid (X_0.out.keep k1)
  have Y_1 := Lib.hid (Y_0.out.keep k1)
  have R_1 := Lib.hid (R_0.out.keep k1)
  have G_1 := Lib.hid hG
  have KW_1 := Lib.hid (KW_0.out.trans k1)
  clear k1 X_0 Y_0 R_0 hG KW_0
  go_wp2_with fail
  refine Calls.mono (D1.out _ _ X_1.out G_1.out) ?_
  rintro e w2 ⟨x1, y1, rfl, hP, hy1, k2⟩
  have Y_2 := Lib.hid (Y_1.out.keep k2)
  have R_2 := Lib.hid (R_1.out.keep k2)
  have G_2 := Lib.hid (G_1.out.keep k2)
  have P_2 := Lib.hid hP
  have KW_2 := Lib.hid (KW_1.out.trans k2)
  clear hy1
  clear k2 X_1 Y_1 R_1 G_1 hP KW_1
  go_wp2_with fail
  refine Calls.mono (D2.out _ _ Y_2.out G_2.out) ?_
  rintro e w3 ⟨x2, y2, rfl, hQ, hy2, k3⟩
  have R_3 := Lib.hid (R_2.out.keep k3)
  have P_3 := Lib.hid (P_2.out.keep k3)
  have Q_3 := Lib.hid hQ
  have KW_3 := Lib.hid (KW_2.out.trans k3)
  clear hy2
  clear k3 Y_2 G_2 R_2 P_2 hQ KW_2
  obtain ⟨xa, xc, rfl, hxr⟩ := Cn.form P_3.out
  obtain ⟨ya, yc, rfl, hyr⟩ := Cn.form Q_3.out
  obtain ⟨xl, hxl⟩ : ∃ x, (dig NN).length = x := ⟨_, rfl⟩
  obtain ⟨yl, hyl⟩ : ∃ x, (dig DD).length = x := ⟨_, rfl⟩
  have qa := hxr.le_cap
  have qb := hxr.cap_le
  have qc := hyr.le_cap
  have qd := hyr.cap_le
  rw [hxl] at hxr qa ⊢
  rw [hyl] at hyr qc ⊢
  have hx0 : xl = 0 := by rw [← hxl, hN0, dig_zero]; rfl
  subst hx0
  have hyl1 : yl = 1 := by rw [← hyl]; exact hD0
  subst hyl1
  obtain ⟨e1, -⟩ := dig_sing hyl
  obtain ⟨bb, bo, rfl, hcell, -⟩ := hyr.cell0 (by omega)
  rw [e1] at hcell
  simp only [List.getD_cons_zero] at hcell
  have e2 : ((DD : Int) == 1) = false := by simp; omega
  have hw : wd q = DD := by rw [wd, P2.out, if_neg hD1]
  obtain ⟨F, -, s0, s1, s2⟩ := put_of (w0 := w) hsg (by rw [P1.out]; exact hxr) (a' := (some ⟨bb, bo, none⟩)) (n' := 1) (c' := yc) (by rw [hw]; exact hyr) R_3.out KW_3.out (Nat.le_refl _)
  have FIN := Lib.hid F
  obtain ⟨y0, y1, y2, f0, f1, f2, -⟩ := id R_3.out
  clear F hxr hyr hw hxl hyl hN0 hD0 hD1 e1
  go_wp2
  refine bodyPost_ret (v := .agg #[.bool false, .slice xa 0 xc, .slice (some ⟨bb, bo, none⟩) 1 yc]) (by simp [results, Tryd.results57, go_sem, s0, s1, s2]) rfl ?_
  exact FIN.out
set_option maxHeartbeats 800000 in
theorem quot_f12 {w : World} {x y : Value} {n d k : Nat} (hx : Nm w x n k) (hy : Nm w y d k) (h0 : d ≠ 0) (hk : k ≤ 500000) (hN0 : n / Nat.gcd n d = 0) (hD1 : d / Nat.gcd n d = 1) : Calls Tryd.prog 57 #[.bool false, x, y] w (RPost (rv false n d) w) := by
  have KW_0 := Lib.hid ((Keep.refl w).alloc (.cells #[.bool false, .slice none 0 0, .slice none 0 0] 25))
  have R_0 := Lib.hid (QBox.new w false none 0 0 none 0 0)
  have X_0 := Lib.hid (hx.keep KW_0.out)
  have Y_0 := Lib.hid (hy.keep KW_0.out)
  have hg0 : Nat.gcd n d ≠ 0 := by have := Nat.gcd_pos_of_pos_right n (Nat.pos_of_ne_zero h0); omega
  have hgk : Nat.gcd n d < BB ^ k := Nat.lt_of_le_of_lt (Nat.gcd_le_right n (Nat.pos_of_ne_zero h0)) hy.lt
  have GC := Lib.hid (fun w1 (h : Nm w1 x n k) (h' : Nm w1 y d k) => rgcd_c h h' hk)
  have D1 := Lib.hid (fun w1 u (h : Nm w1 x n k) (hu : Cn w1 u (Nat.gcd n d)) => rdm_c h (hu.nm hgk) hk)
  have D2 := Lib.hid (fun w1 u (h : Nm w1 y d k) (hu : Cn w1 u (Nat.gcd n d)) => rdm_c h (hu.nm hgk) hk)
  unfold DmQ at D1 D2
  obtain ⟨r1, r2, r3⟩ := rv_red false n h0
  obtain ⟨p1, p2, p3⟩ := pack_parts false r2
  rw [r1] at p1 p2 p3
  rw [dn_of r3] at p2
  obtain ⟨q, hq⟩ : ∃ q, rv false n d = q := ⟨_, rfl⟩
  rw [hq] at p1 p2 p3 ⊢
  have hsg : decide (q.num < 0) = false := num0 (p1.trans hN0)
  obtain ⟨G, hG⟩ : ∃ G, Nat.gcd n d = G := ⟨_, rfl⟩
  rw [hG] at GC D1 D2 p1 p2 hN0 hD1
  obtain ⟨NN, hNN⟩ : ∃ x, n / G = x := ⟨_, rfl⟩
  obtain ⟨DD, hDD⟩ : ∃ x, d / G = x := ⟨_, rfl⟩
  rw [hNN] at D1 p1 hN0
  rw [hDD] at D2 p2 hD1
  have P1 := Lib.hid p1
  have P2 := Lib.hid p2
  obtain ⟨er, her⟩ : ∃ x, dmE G = x := ⟨_, rfl⟩
  rw [her] at D1 D2
  obtain ⟨m1, hm1⟩ : ∃ x, dmR n G = x := ⟨_, rfl⟩
  obtain ⟨m2, hm2⟩ : ∃ x, dmR d G = x := ⟨_, rfl⟩
  rw [hm1] at D1
  rw [hm2] at D2
  clear hx hy h0 hg0 hgk r1 r2 r3 p1 p2 p3 hq hG hNN hDD her hm1 hm2
  go_enter Tryd.func57, Tryd.ntmps57
  go_wp2_with fail
  refine Calls.mono (GC.out _ X_0.out Y_0.out) ?_
  rintro e w1 ⟨vG, rfl, hG, k1⟩
  have X_1 := Lib.hid (X_0.out.keep k1)
  have Y_1 := Lib.hid (Y_0.out.keep k1)
  have R_1 := Lib.hid (R_0.out.keep k1)
  have G_1 := Lib.hid hG
  have KW_1 := Lib.hid (KW_0.out.trans k1)
  clear k1 X_0 Y_0 R_0 hG KW_0
  go_wp2_with fail
  refine Calls.mono (D1.out _ _ X_1.out G_1.out) ?_
  rintro e w2 ⟨x1, y1, rfl, hP, hy1, k2⟩
  have Y_2 := Lib.hid (Y_1.out.keep k2)
  have R_2 := Lib.hid (R_1.out.keep k2)
  have G_2 := Lib.hid (G_1.out.keep k2)
  have P_2 := Lib.hid hP
  have KW_2 := Lib.hid (KW_1.out.trans k2)
  clear hy1
  clear k2 X_1 Y_1 R_1 G_1 hP KW_1
  go_wp2_with fail
  refine Calls.mono (D2.out _ _ Y_2.out G_2.out) ?_
  rintro e w3 ⟨x2, y2, rfl, hQ, hy2, k3⟩
  have R_3 := Lib.hid (R_2.out.keep k3)
  have P_3 := Lib.hid (P_2.out.keep k3)
  have Q_3 := Lib.hid hQ
  have KW_3 := Lib.hid (KW_2.out.trans k3)
  clear hy2
  clear k3 Y_2 G_2 R_2 P_2 hQ KW_2
  obtain ⟨xa, xc, rfl, hxr⟩ := Cn.form P_3.out
  obtain ⟨ya, yc, rfl, hyr⟩ := Cn.form Q_3.out
  obtain ⟨xl, hxl⟩ : ∃ x, (dig NN).length = x := ⟨_, rfl⟩
  obtain ⟨yl, hyl⟩ : ∃ x, (dig DD).length = x := ⟨_, rfl⟩
  have qa := hxr.le_cap
  have qb := hxr.cap_le
  have qc := hyr.le_cap
  have qd := hyr.cap_le
  rw [hxl] at hxr qa ⊢
  rw [hyl] at hyr qc ⊢
  have hx0 : xl = 0 := by rw [← hxl, hN0, dig_zero]; rfl
  subst hx0
  have hyl1 : yl = 1 := by rw [← hyl, hD1, ← dig_one (by decide) (by decide)]; rfl
  subst hyl1
  obtain ⟨e1, -⟩ := dig_sing hyl
  obtain ⟨bb, bo, rfl, hcell, -⟩ := hyr.cell0 (by omega)
  rw [e1] at hcell
  simp only [List.getD_cons_zero] at hcell
  rw [hD1] at hcell
  have hw : wd q = 0 := by rw [wd, P2.out, if_pos hD1]
  obtain ⟨F, -, s0, s1, s2⟩ := put_of (w0 := w) hsg (by rw [P1.out]; exact hxr) (a' := none) (n' := 0) (c' := 0) (by rw [hw, dig_zero]; exact Rd.nil _) R_3.out KW_3.out (Nat.le_refl _)
  have FIN := Lib.hid F
  obtain ⟨y0, y1, y2, f0, f1, f2, -⟩ := id R_3.out
  clear F hxr hyr hw hxl hyl hN0 hD1 e1
  go_wp2
  refine bodyPost_ret (v := .agg #[.bool false, .slice xa 0 xc, .slice none 0 0]) (by simp [results, Tryd.results57, go_sem, s0, s1, s2]) rfl ?_
  exact FIN.out
set_option maxHeartbeats 800000 in
theorem quot_f00 {w : World} {x y : Value} {n d k : Nat} (hx : Nm w x n k) (hy : Nm w y d k) (h0 : d ≠ 0) (hk : k ≤ 500000) (hN0 : n / Nat.gcd n d ≠ 0) (hD0 : (dig (d / Nat.gcd n d)).length ≠ 1) : Calls Tryd.prog 57 #[.bool false, x, y] w (RPost (rv false n d) w) := by
  have KW_0 := Lib.hid ((Keep.refl w).alloc (.cells #[.bool false, .slice none 0 0, .slice none 0 0] 25))
  have R_0 := Lib.hid (QBox.new w false none 0 0 none 0 0)
  have X_0 := Lib.hid (hx.keep KW_0.out)
  have Y_0 := Lib.hid (hy.keep KW_0.out)
  have hg0 : Nat.gcd n d ≠ 0 := by have := Nat.gcd_pos_of_pos_right n (Nat.pos_of_ne_zero h0); omega
  have hgk : Nat.gcd n d < BB ^ k := Nat.lt_of_le_of_lt (Nat.gcd_le_right n (Nat.pos_of_ne_zero h0)) hy.lt
  have GC := Lib.hid (fun w1 (h : Nm w1 x n k) (h' : Nm w1 y d k) => rgcd_c h h' hk)
  have D1 := Lib.hid (fun w1 u (h : Nm w1 x n k) (hu : Cn w1 u (Nat.gcd n d)) => rdm_c h (hu.nm hgk) hk)
  have D2 := Lib.hid (fun w1 u (h : Nm w1 y d k) (hu : Cn w1 u (Nat.gcd n d)) => rdm_c h (hu.nm hgk) hk)
  unfold DmQ at D1 D2
  obtain ⟨r1, r2, r3⟩ := rv_red false n h0
  obtain ⟨p1, p2, p3⟩ := pack_parts false r2
  rw [r1] at p1 p2 p3
  rw [dn_of r3] at p2
  obtain ⟨q, hq⟩ : ∃ q, rv false n d = q := ⟨_, rfl⟩
  rw [hq] at p1 p2 p3 ⊢
  have hsg : decide (q.num < 0) = false := p3 hN0
  obtain ⟨G, hG⟩ : ∃ G, Nat.gcd n d = G := ⟨_, rfl⟩
  rw [hG] at GC D1 D2 p1 p2 hN0 hD0
  obtain ⟨NN, hNN⟩ : ∃ x, n / G = x := ⟨_, rfl⟩
  obtain ⟨DD, hDD⟩ : ∃ x, d / G = x := ⟨_, rfl⟩
  rw [hNN] at D1 p1 hN0
  rw [hDD] at D2 p2 hD0
  have P1 := Lib.hid p1
  have P2 := Lib.hid p2
  obtain ⟨er, her⟩ : ∃ x, dmE G = x := ⟨_, rfl⟩
  rw [her] at D1 D2
  obtain ⟨m1, hm1⟩ : ∃ x, dmR n G = x := ⟨_, rfl⟩
  obtain ⟨m2, hm2⟩ : ∃ x, dmR d G = x := ⟨_, rfl⟩
  rw [hm1] at D1
  rw [hm2] at D2
  clear hx hy h0 hg0 hgk r1 r2 r3 p1 p2 p3 hq hG hNN hDD her hm1 hm2
  go_enter Tryd.func57, Tryd.ntmps57
  go_wp2_with fail
  refine Calls.mono (GC.out _ X_0.out Y_0.out) ?_
  rintro e w1 ⟨vG, rfl, hG, k1⟩
  have X_1 := Lib.hid (X_0.out.keep k1)
  have Y_1 := Lib.hid (Y_0.out.keep k1)
  have R_1 := Lib.hid (R_0.out.keep k1)
  have G_1 := Lib.hid hG
  have KW_1 := Lib.hid (KW_0.out.trans k1)
  clear k1 X_0 Y_0 R_0 hG KW_0
  go_wp2_with fail
  refine Calls.mono (D1.out _ _ X_1.out G_1.out) ?_
  rintro e w2 ⟨x1, y1, rfl, hP, hy1, k2⟩
  have Y_2 := Lib.hid (Y_1.out.keep k2)
  have R_2 := Lib.hid (R_1.out.keep k2)
  have G_2 := Lib.hid (G_1.out.keep k2)
  have P_2 := Lib.hid hP
  have KW_2 := Lib.hid (KW_1.out.trans k2)
  clear hy1
  clear k2 X_1 Y_1 R_1 G_1 hP KW_1
  go_wp2_with fail
  refine Calls.mono (D2.out _ _ Y_2.out G_2.out) ?_
  rintro e w3 ⟨x2, y2, rfl, hQ, hy2, k3⟩
  have R_3 := Lib.hid (R_2.out.keep k3)
  have P_3 := Lib.hid (P_2.out.keep k3)
  have Q_3 := Lib.hid hQ
  have KW_3 := Lib.hid (KW_2.out.trans k3)
  clear hy2
  clear k3 Y_2 G_2 R_2 P_2 hQ KW_2
  obtain ⟨xa, xc, rfl, hxr⟩ := Cn.form P_3.out
  obtain ⟨ya, yc, rfl, hyr⟩ := Cn.form Q_3.out
  obtain ⟨xl, hxl⟩ : ∃ x, (dig NN).length = x := ⟨_, rfl⟩
  obtain ⟨yl, hyl⟩ : ∃ x, (dig DD).length = x := ⟨_, rfl⟩
  have qa := hxr.le_cap
  have qb := hxr.cap_le
  have qc := hyr.le_cap
  have qd := hyr.cap_le
  rw [hxl] at hxr qa ⊢
  rw [hyl] at hyr qc ⊢
  have hx0 : decide ((0 : Int) < xl) = true := decide_eq_true (by
    have : xl ≠ 0 := by rw [← hxl]; exact fun h => hN0 (dig_nil_iff.1 (List.length_eq_zero_iff.1 h))
    omega)
  have hx1 : decide (0 < xl) = true := decide_eq_true (by have := of_decide_eq_true hx0; omega)
  have e1 : ((yl : Int) == 1) = false := by simp; rw [← hyl]; omega
  have hw : wd q = DD := by rw [wd, P2.out, if_neg (fun h => hD0 (by rw [h, ← dig_one (by decide) (by decide)]; rfl))]
  obtain ⟨F, -, s0, s1, s2⟩ := put_of (w0 := w) hsg (by rw [P1.out]; exact hxr) (a' := ya) (n' := yl) (c' := yc) (by rw [hw]; exact hyr) R_3.out KW_3.out (Nat.le_refl _)
  have FIN := Lib.hid F
  obtain ⟨y0, y1, y2, f0, f1, f2, -⟩ := id R_3.out
  clear F hxr hyr hw hxl hyl hN0 hD0
  go_wp2
  refine bodyPost_ret (v := .agg #[.bool false, .slice xa xl xc, .slice ya yl yc]) (by simp [results, Tryd.results57, go_sem, s0, s1, s2]) rfl ?_
  exact FIN.out
set_option maxHeartbeats 800000 in
theorem quot_f01 {w : World} {x y : Value} {n d k : Nat} (hx : Nm w x n k) (hy : Nm w y d k) (h0 : d ≠ 0) (hk : k ≤ 500000) (hN0 : n / Nat.gcd n d ≠ 0) (hD0 : (dig (d / Nat.gcd n d)).length = 1) (hD1 : d / Nat.gcd n d ≠ 1) : Calls Tryd.prog 57 #[.bool false, x, y] w (RPost (rv false n d) w) := by
  have KW_0 := Lib.hid ((Keep.refl w).alloc (.cells #[.bool false, .slice none 0 0, .slice none 0 0] 25))
  have R_0 := Lib.hid (QBox.new w false none 0 0 none 0 0)
  have X_0 := Lib.hid (hx.keep KW_0.out)
  have Y_0 := Lib.hid (hy.keep KW_0.out)
  have hg0 : Nat.gcd n d ≠ 0 := by have := Nat.gcd_pos_of_pos_right n (Nat.pos_of_ne_zero h0); omega
  have hgk : Nat.gcd n d < BB ^ k := Nat.lt_of_le_of_lt (Nat.gcd_le_right n (Nat.pos_of_ne_zero h0)) hy.lt
  have GC := Lib.hid (fun w1 (h : Nm w1 x n k) (h' : Nm w1 y d k) => rgcd_c h h' hk)
  have D1 := Lib.hid (fun w1 u (h : Nm w1 x n k) (hu : Cn w1 u (Nat.gcd n d)) => rdm_c h (hu.nm hgk) hk)
  have D2 := Lib.hid (fun w1 u (h : Nm w1 y d k) (hu : Cn w1 u (Nat.gcd n d)) => rdm_c h (hu.nm hgk) hk)
  unfold DmQ at D1 D2
  obtain ⟨r1, r2, r3⟩ := rv_red false n h0
  obtain ⟨p1, p2, p3⟩ := pack_parts false r2
  rw [r1] at p1 p2 p3
  rw [dn_of r3] at p2
  obtain ⟨q, hq⟩ : ∃ q, rv false n d = q := ⟨_, rfl⟩
  rw [hq] at p1 p2 p3 ⊢
  have hsg : decide (q.num < 0) = false := p3 hN0
  obtain ⟨G, hG⟩ : ∃ G, Nat.gcd n d = G := ⟨_, rfl⟩
  rw [hG] at GC D1 D2 p1 p2 hN0 hD1 hD0
  obtain ⟨NN, hNN⟩ : ∃ x, n / G = x := ⟨_, rfl⟩
  obtain ⟨DD, hDD⟩ : ∃ x, d / G = x := ⟨_, rfl⟩
  rw [hNN] at D1 p1 hN0
  rw [hDD] at D2 p2 hD1 hD0
  have P1 := Lib.hid p1
  have P2 := Lib.hid p2
  obtain ⟨er, her⟩ : ∃ x, dmE G = x := ⟨_, rfl⟩
  rw [her] at D1 D2
  obtain ⟨m1, hm1⟩ : ∃ x, dmR n G = x := ⟨_, rfl⟩
  obtain ⟨m2, hm2⟩ : ∃ x, dmR d G = x := ⟨_, rfl⟩
  rw [hm1] at D1
  rw [hm2] at D2
  clear hx hy h0 hg0 hgk r1 r2 r3 p1 p2 p3 hq hG hNN hDD her hm1 hm2
  go_enter Tryd.func57, Tryd.ntmps57
  go_wp2_with fail
  refine Calls.mono (GC.out _ X_0.out Y_0.out) ?_
  rintro e w1 ⟨vG, rfl, hG, k1⟩
  have X_1 := Lib.hid (X_0.out.keep k1)
  have Y_1 := Lib.hid (Y_0.out.keep k1)
  have R_1 := Lib.hid (R_0.out.keep k1)
  have G_1 := Lib.hid hG
  have KW_1 := Lib.hid (KW_0.out.trans k1)
  clear k1 X_0 Y_0 R_0 hG KW_0
  go_wp2_with fail
  refine Calls.mono (D1.out _ _ X_1.out G_1.out) ?_
  rintro e w2 ⟨x1, y1, rfl, hP, hy1, k2⟩
  have Y_2 := Lib.hid (Y_1.out.keep k2)
  have R_2 := Lib.hid (R_1.out.keep k2)
  have G_2 := Lib.hid (G_1.out.keep k2)
  have P_2 := Lib.hid hP
  have KW_2 := Lib.hid (KW_1.out.trans k2)
  clear hy1
  clear k2 X_1 Y_1 R_1 G_1 hP KW_1
  go_wp2_with fail
  refine Calls.mono (D2.out _ _ Y_2.out G_2.out) ?_
  rintro e w3 ⟨x2, y2, rfl, hQ, hy2, k3⟩
  have R_3 := Lib.hid (R_2.out.keep k3)
  have P_3 := Lib.hid (P_2.out.keep k3)
  have Q_3 := Lib.hid hQ
  have KW_3 := Lib.hid (KW_2.out.trans k3)
  clear hy2
  clear k3 Y_2 G_2 R_2 P_2 hQ KW_2
  obtain ⟨xa, xc, rfl, hxr⟩ := Cn.form P_3.out
  obtain ⟨ya, yc, rfl, hyr⟩ := Cn.form Q_3.out
  obtain ⟨xl, hxl⟩ : ∃ x, (dig NN).length = x := ⟨_, rfl⟩
  obtain ⟨yl, hyl⟩ : ∃ x, (dig DD).length = x := ⟨_, rfl⟩
  have qa := hxr.le_cap
  have qb := hxr.cap_le
  have qc := hyr.le_cap
  have qd := hyr.cap_le
  rw [hxl] at hxr qa ⊢
  rw [hyl] at hyr qc ⊢
  have hx0 : decide ((0 : Int) < xl) = true := decide_eq_true (by
    have : xl ≠ 0 := by rw [← hxl]; exact fun h => hN0 (dig_nil_iff.1 (List.length_eq_zero_iff.1 h))
    omega)
  have hx1 : decide (0 < xl) = true := decide_eq_true (by have := of_decide_eq_true hx0; omega)
  have hyl1 : yl = 1 := by rw [← hyl]; exact hD0
  subst hyl1
  obtain ⟨e1, -⟩ := dig_sing hyl
  obtain ⟨bb, bo, rfl, hcell, -⟩ := hyr.cell0 (by omega)
  rw [e1] at hcell
  simp only [List.getD_cons_zero] at hcell
  have e2 : ((DD : Int) == 1) = false := by simp; omega
  have hw : wd q = DD := by rw [wd, P2.out, if_neg hD1]
  obtain ⟨F, -, s0, s1, s2⟩ := put_of (w0 := w) hsg (by rw [P1.out]; exact hxr) (a' := (some ⟨bb, bo, none⟩)) (n' := 1) (c' := yc) (by rw [hw]; exact hyr) R_3.out KW_3.out (Nat.le_refl _)
  have FIN := Lib.hid F
  obtain ⟨y0, y1, y2, f0, f1, f2, -⟩ := id R_3.out
  clear F hxr hyr hw hxl hyl hN0 hD0 hD1 e1
  go_wp2
  refine bodyPost_ret (v := .agg #[.bool false, .slice xa xl xc, .slice (some ⟨bb, bo, none⟩) 1 yc]) (by simp [results, Tryd.results57, go_sem, s0, s1, s2]) rfl ?_
  exact FIN.out
set_option maxHeartbeats 800000 in
theorem quot_f02 {w : World} {x y : Value} {n d k : Nat} (hx : Nm w x n k) (hy : Nm w y d k) (h0 : d ≠ 0) (hk : k ≤ 500000) (hN0 : n / Nat.gcd n d ≠ 0) (hD1 : d / Nat.gcd n d = 1) : Calls Tryd.prog 57 #[.bool false, x, y] w (RPost (rv false n d) w) := by
  have KW_0 := Lib.hid ((Keep.refl w).alloc (.cells #[.bool false, .slice none 0 0, .slice none 0 0] 25))
  have R_0 := Lib.hid (QBox.new w false none 0 0 none 0 0)
  have X_0 := Lib.hid (hx.keep KW_0.out)
  have Y_0 := Lib.hid (hy.keep KW_0.out)
  have hg0 : Nat.gcd n d ≠ 0 := by have := Nat.gcd_pos_of_pos_right n (Nat.pos_of_ne_zero h0); omega
  have hgk : Nat.gcd n d < BB ^ k := Nat.lt_of_le_of_lt (Nat.gcd_le_right n (Nat.pos_of_ne_zero h0)) hy.lt
  have GC := Lib.hid (fun w1 (h : Nm w1 x n k) (h' : Nm w1 y d k) => rgcd_c h h' hk)
  have D1 := Lib.hid (fun w1 u (h : Nm w1 x n k) (hu : Cn w1 u (Nat.gcd n d)) => rdm_c h (hu.nm hgk) hk)
  have D2 := Lib.hid (fun w1 u (h : Nm w1 y d k) (hu : Cn w1 u (Nat.gcd n d)) => rdm_c h (hu.nm hgk) hk)
  unfold DmQ at D1 D2
  obtain ⟨r1, r2, r3⟩ := rv_red false n h0
  obtain ⟨p1, p2, p3⟩ := pack_parts false r2
  rw [r1] at p1 p2 p3
  rw [dn_of r3] at p2
  obtain ⟨q, hq⟩ : ∃ q, rv false n d = q := ⟨_, rfl⟩
  rw [hq] at p1 p2 p3 ⊢
  have hsg : decide (q.num < 0) = false := p3 hN0
  obtain ⟨G, hG⟩ : ∃ G, Nat.gcd n d = G := ⟨_, rfl⟩
  rw [hG] at GC D1 D2 p1 p2 hN0 hD1
  obtain ⟨NN, hNN⟩ : ∃ x, n / G = x := ⟨_, rfl⟩
  obtain ⟨DD, hDD⟩ : ∃ x, d / G = x := ⟨_, rfl⟩
  rw [hNN] at D1 p1 hN0
  rw [hDD] at D2 p2 hD1
  have P1 := Lib.hid p1
  have P2 := Lib.hid p2
  obtain ⟨er, her⟩ : ∃ x, dmE G = x := ⟨_, rfl⟩
  rw [her] at D1 D2
  obtain ⟨m1, hm1⟩ : ∃ x, dmR n G = x := ⟨_, rfl⟩
  obtain ⟨m2, hm2⟩ : ∃ x, dmR d G = x := ⟨_, rfl⟩
  rw [hm1] at D1
  rw [hm2] at D2
  clear hx hy h0 hg0 hgk r1 r2 r3 p1 p2 p3 hq hG hNN hDD her hm1 hm2
  go_enter Tryd.func57, Tryd.ntmps57
  go_wp2_with fail
  refine Calls.mono (GC.out _ X_0.out Y_0.out) ?_
  rintro e w1 ⟨vG, rfl, hG, k1⟩
  have X_1 := Lib.hid (X_0.out.keep k1)
  have Y_1 := Lib.hid (Y_0.out.keep k1)
  have R_1 := Lib.hid (R_0.out.keep k1)
  have G_1 := Lib.hid hG
  have KW_1 := Lib.hid (KW_0.out.trans k1)
  clear k1 X_0 Y_0 R_0 hG KW_0
  go_wp2_with fail
  refine Calls.mono (D1.out _ _ X_1.out G_1.out) ?_
  rintro e w2 ⟨x1, y1, rfl, hP, hy1, k2⟩
  have Y_2 := Lib.hid (Y_1.out.keep k2)
  have R_2 := Lib.hid (R_1.out.keep k2)
  have G_2 := Lib.hid (G_1.out.keep k2)
  have P_2 := Lib.hid hP
  have KW_2 := Lib.hid (KW_1.out.trans k2)
  clear hy1
  clear k2 X_1 Y_1 R_1 G_1 hP KW_1
  go_wp2_with fail
  refine Calls.mono (D2.out _ _ Y_2.out G_2.out) ?_
  rintro e w3 ⟨x2, y2, rfl, hQ, hy2, k3⟩
  have R_3 := Lib.hid (R_2.out.keep k3)
  have P_3 := Lib.hid (P_2.out.keep k3)
  have Q_3 := Lib.hid hQ
  have KW_3 := Lib.hid (KW_2.out.trans k3)
  clear hy2
  clear k3 Y_2 G_2 R_2 P_2 hQ KW_2
  obtain ⟨xa, xc, rfl, hxr⟩ := Cn.form P_3.out
  obtain ⟨ya, yc, rfl, hyr⟩ := Cn.form Q_3.out
  obtain ⟨xl, hxl⟩ : ∃ x, (dig NN).length = x := ⟨_, rfl⟩
  obtain ⟨yl, hyl⟩ : ∃ x, (dig DD).length = x := ⟨_, rfl⟩
  have qa := hxr.le_cap
  have qb := hxr.cap_le
  have qc := hyr.le_cap
  have qd := hyr.cap_le
  rw [hxl] at hxr qa ⊢
  rw [hyl] at hyr qc ⊢
  have hx0 : decide ((0 : Int) < xl) = true := decide_eq_true (by
    have : xl ≠ 0 := by rw [← hxl]; exact fun h => hN0 (dig_nil_iff.1 (List.length_eq_zero_iff.1 h))
    omega)
  have hx1 : decide (0 < xl) = true := decide_eq_true (by have := of_decide_eq_true hx0; omega)
  have hyl1 : yl = 1 := by rw [← hyl, hD1, ← dig_one (by decide) (by decide)]; rfl
  subst hyl1
  obtain ⟨e1, -⟩ := dig_sing hyl
  obtain ⟨bb, bo, rfl, hcell, -⟩ := hyr.cell0 (by omega)
  rw [e1] at hcell
  simp only [List.getD_cons_zero] at hcell
  rw [hD1] at hcell
  have hw : wd q = 0 := by rw [wd, P2.out, if_pos hD1]
  obtain ⟨F, -, s0, s1, s2⟩ := put_of (w0 := w) hsg (by rw [P1.out]; exact hxr) (a' := none) (n' := 0) (c' := 0) (by rw [hw, dig_zero]; exact Rd.nil _) R_3.out KW_3.out (Nat.le_refl _)
  have FIN := Lib.hid F
  obtain ⟨y0, y1, y2, f0, f1, f2, -⟩ := id R_3.out
  clear F hxr hyr hw hxl hyl hN0 hD1 e1
  go_wp2
  refine bodyPost_ret (v := .agg #[.bool false, .slice xa xl xc, .slice none 0 0]) (by simp [results, Tryd.results57, go_sem, s0, s1, s2]) rfl ?_
  exact FIN.out
theorem quot_c {w : World} {x y : Value} {n d k : Nat} (s : Bool) (hx : Nm w x n k) (hy : Nm w y d k) (h0 : d ≠ 0) (hk : k ≤ 500000) : Calls Tryd.prog 57 #[.bool s, x, y] w (RPost (rv s n d) w) := by
  by_cases h1 : n / Nat.gcd n d = 0
  · by_cases h2 : d / Nat.gcd n d = 1
    · cases s
      · exact quot_f12 hx hy h0 hk h1 h2
      · exact quot_t12 hx hy h0 hk h1 h2
    · by_cases h3 : (dig (d / Nat.gcd n d)).length = 1
      · cases s
        · exact quot_f11 hx hy h0 hk h1 h3 h2
        · exact quot_t11 hx hy h0 hk h1 h3 h2
      · cases s
        · exact quot_f10 hx hy h0 hk h1 h3
        · exact quot_t10 hx hy h0 hk h1 h3
  · by_cases h2 : d / Nat.gcd n d = 1
    · cases s
      · exact quot_f02 hx hy h0 hk h1 h2
      · exact quot_t02 hx hy h0 hk h1 h2
    · by_cases h3 : (dig (d / Nat.gcd n d)).length = 1
      · cases s
        · exact quot_f01 hx hy h0 hk h1 h3 h2
        · exact quot_t01 hx hy h0 hk h1 h3 h2
      · cases s
        · exact quot_f00 hx hy h0 hk h1 h3
        · exact quot_t00 hx hy h0 hk h1 h3
end Go.Proofs.YtnalmjbgkedcoaaDoor
