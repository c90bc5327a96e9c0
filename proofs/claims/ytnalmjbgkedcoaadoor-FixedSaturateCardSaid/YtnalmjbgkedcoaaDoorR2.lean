/- Carried over from another seat by program (portn.py). -/
import Derived.Test.YtnalmjbgkedcoaaDoorR1
namespace Go.Proofs.YtnalmjbgkedcoaaDoor
open Go.RowKit
set_option linter.unusedVariables false
theorem pack_parts (s : Bool) {n d : Nat} (hc : Nat.gcd n (dn d) = 1) : (rv s n d).num.natAbs = n ∧ (rv s n d).den = dn d ∧ (n ≠ 0 → decide ((rv s n d).num < 0) = s) := by
  rw [← rv_dn]
  refine ⟨by rw [rv_abs s n (dn_ne d), hc, Nat.div_one], by rw [rv_den s n (dn_ne d), hc, Nat.div_one], fun h0 => ?_⟩
  rw [rv_num s n (dn_ne d), hc, Nat.div_one]
  cases s
  · simp [iv]
  · simp [iv]; omega
theorem RPost.of {q : Rat} {w w' : World} {b : Bool} {a a' : Option Addr} {n c n' c' : Nat} (hb : decide (q.num < 0) = b) (h : Rd w' a n c (dig q.num.natAbs)) (h' : Rd w' a' n' c' (dig (wd q))) (hk : Keep w w') :
    RPost q w (.returned (.agg #[.bool b, .slice a n c, .slice a' n' c'])) w' := ⟨_, rfl, Cr.of hb h h', hk⟩
theorem RPost.zero {w w' : World} (hk : Keep w w') : RPost 0 w (.returned (.agg #[.bool false, .slice none 0 0, .slice none 0 0])) w' :=
  RPost.of (by decide) (by show Rd w' none 0 0 (dig 0); rw [dig_zero]; exact Rd.nil w') (by show Rd w' none 0 0 (dig 0); rw [dig_zero]; exact Rd.nil w') hk
theorem Rd.cell0 {w : World} {a : Option Addr} {c : Nat} {l : List Nat} {n : Nat} (h : Rd w a n c l) (hn : 0 < n) : ∃ b o, a = some ⟨b, o, none⟩ ∧ w.cell? ⟨b, o, none⟩ = some (.int .u32 (l.getD 0 0 : Nat)) ∧ b < w.heap.size := by
  rcases h.cells with h0 | ⟨b, off, rfl, h1⟩
  · omega
  · have := h1 0 hn
    rw [Nat.add_zero] at this
    exact ⟨b, off, rfl, this, World.block_lt_of_cell? w _ this⟩
theorem dig_sing {d : Nat} (h : (dig d).length = 1) : dig d = [d] ∧ d < 4294967296 := by
  obtain ⟨x, hx⟩ := List.length_eq_one_iff.1 h
  have h1 := nv_dig d
  rw [hx, nv_one] at h1
  have h2 : Lim (dig d) := dig_lim d
  rw [hx] at h2
  have := h2.head
  rw [BB_eq] at this
  rw [hx, h1]; exact ⟨rfl, by omega⟩
set_option maxHeartbeats 800000 in
theorem pack_c {w : World} {x y : Value} {n d : Nat} (s : Bool) (h : Cn w x n) (h' : Cn w y d) (hc : Nat.gcd n (dn d) = 1) : Calls Tryd.prog 63 #[.bool s, x, y] w (RPost (rv s n d) w) := by
  obtain ⟨p1, p2, p3⟩ := pack_parts s hc
  obtain ⟨a, c, rfl, hr⟩ := Cn.form h
  obtain ⟨a', c', rfl, hr'⟩ := Cn.form h'
  obtain ⟨q, hq⟩ : ∃ q, rv s n d = q := ⟨_, rfl⟩
  rw [hq] at p1 p2 p3 ⊢
  obtain ⟨ln, hln⟩ : ∃ l, (dig n).length = l := ⟨_, rfl⟩
  obtain ⟨ld, hld⟩ : ∃ l, (dig d).length = l := ⟨_, rfl⟩
  have q1 := hr.le_cap
  have q2 := hr.cap_le
  have q3 := hr'.le_cap
  have q4 := hr'.cap_le
  rw [hln] at hr q1
  rw [hld] at hr' q3
  rw [hln, hld]
  by_cases h0 : ln = 0
  · subst h0
    have hn : n = 0 := dig_nil_iff.1 (List.length_eq_zero_iff.1 hln)
    have hq0 : q = 0 := by rw [← hq, hn, rv_zero]
    subst hq0
    have FIN := Lib.hid (RPost.zero ((Keep.refl w).alloc (.cells #[.bool false, .slice none 0 0, .slice none 0 0] 25)))
    clear h h' hr hr' hln hld p1 p2 p3 hq hc
    go_enter Tryd.func63, Tryd.ntmps63
    go_wp2
    refine bodyPost_ret (v := .agg #[.bool false, .slice none 0 0, .slice none 0 0]) (by simp [results, Tryd.results63, go_sem]) rfl ?_
    exact FIN.out
  · have hn0 : n ≠ 0 := by rintro rfl; rw [dig_zero] at hln; exact h0 hln.symm
    have hl0 : ((ln : Int) == 0) = false := by simp; omega
    by_cases h1 : ld = 1
    · subst h1
      obtain ⟨e1, e2⟩ := dig_sing hld
      obtain ⟨b, o, rfl, hcell, _⟩ := hr'.cell0 (by omega)
      rw [e1] at hcell
      simp only [List.getD_cons_zero] at hcell
      have hd0 : d ≠ 0 := by rintro rfl; rw [dig_zero] at hld; simp at hld
      by_cases hd1 : d = 1
      · subst hd1
        have FIN := Lib.hid (fun w' (hk : Keep w w') => RPost.of (q := q) (w' := w') (p3 hn0) (by rw [p1]; exact hr.below hk) (a' := none) (n' := 0) (c' := 0) (by rw [wd, p2, if_pos (dn_of (by decide)), dig_zero]; exact Rd.nil _) hk)
        clear h h' hr hr' hln hld p1 p2 p3 hq hc e1
        go_enter Tryd.func63, Tryd.ntmps63
        go_wp2
        refine bodyPost_ret (v := .agg #[.bool s, .slice a ln c, .slice none 0 0]) (by simp [results, Tryd.results63, go_sem]) rfl ?_
        exact FIN.out _ ((Keep.refl _).alloc _)
      · have FIN := Lib.hid (fun w' (hk : Keep w w') => RPost.of (q := q) (w' := w') (p3 hn0) (by rw [p1]; exact hr.below hk) (by rw [wd, p2, dn_of hd0, if_neg hd1]; exact hr'.below hk) hk)
        have hd2 : ((d : Int) == 1) = false := by simp; omega
        clear h h' hr hr' hln hld p1 p2 p3 hq hc e1
        go_enter Tryd.func63, Tryd.ntmps63
        go_wp2
        refine bodyPost_ret (v := .agg #[.bool s, .slice a ln c, .slice (some ⟨b, o, none⟩) 1 c']) (by simp [results, Tryd.results63, go_sem]) rfl ?_
        exact FIN.out _ ((Keep.refl _).alloc _)
    · have hw : wd q = d := by
        rw [wd, p2]
        by_cases hd0 : d = 0
        · subst hd0; rfl
        · rw [dn_of hd0, if_neg]
          rintro rfl
          exact h1 (by rw [← hld, ← dig_one (by decide) (by decide)]; rfl)
      have FIN := Lib.hid (fun w' (hk : Keep w w') => RPost.of (q := q) (w' := w') (p3 hn0) (by rw [p1]; exact hr.below hk) (by rw [hw]; exact hr'.below hk) hk)
      have hl1 : ((ld : Int) == 1) = false := by simp; omega
      clear h h' hr hr' hln hld p1 p2 p3 hq hc hw
      go_enter Tryd.func63, Tryd.ntmps63
      go_wp2
      refine bodyPost_ret (v := .agg #[.bool s, .slice a ln c, .slice a' ld c']) (by simp [results, Tryd.results63, go_sem]) rfl ?_
      exact FIN.out _ ((Keep.refl _).alloc _)
end Go.Proofs.YtnalmjbgkedcoaaDoor
