/- Walks of layer 11: few; the statement TensorNext. -/
import Derived.Test.YtlbmllhjmgccaaaW14
import Derived.Test.YtlbmllhjmgccaaaPlain5
namespace Go.Proofs.Ytlbmllhjmgccaaa
open Go.RowKit
set_option linter.unusedVariables false
def SomeBool (B : Nat) (w : World) (e : Ending) (w' : World) : Prop := ∃ b : Bool, e = Ending.returned (.bool b) ∧ Below B w w'
theorem vals_cell {w : World} {base base' : Nat} {va : Option Addr} {vc m k n : Nat} {vs : List Value} {ws : List (List Int)} {x : List Int} {v : Int} (ho : w.ownsRow base 22 1 (.slice va m vc) m vs) (hv : Vals w base' vs ws) (hm : vs.length = m) (hk : k < m) (hx : ws[k]? = some x)
    (hn : x[n]? = some v) : ∃ g ka kc, va = some ⟨g, 0, none⟩ ∧ w.cell? ⟨g, k, none⟩ = some (.slice (some ⟨ka, 0, none⟩) x.length kc) ∧ w.cell? ⟨ka, n, none⟩ = some (.int .i64 v) := by
  obtain ⟨g, rfl⟩ : ∃ g, va = some ⟨g, 0, none⟩ := by
    rcases ho.2 with ⟨_, h0⟩ | ⟨g, cap, cur, h0, _⟩
    · omega
    · simp at h0; exact ⟨g, h0.1⟩
  have hvk : vs[k]? = some (vs[k]'(by omega)) := List.getElem?_eq_getElem (by omega)
  have h1 := hv.2 k _ _ hvk hx
  have hnl : n < x.length := (List.getElem?_eq_some_iff.1 hn).1
  obtain ⟨ka, kc, e⟩ : ∃ ka kc, vs[k]'(by omega) = .slice (some ⟨ka, 0, none⟩) x.length kc := by
    rcases h1.2 with ⟨_, h0⟩ | ⟨g', cap, cur, h0, _⟩
    · omega
    · exact ⟨g', cap, h0⟩
  refine ⟨g, ka, kc, rfl, by rw [ho.cellAt k (by omega), hvk, e], ?_⟩
  rw [e] at h1
  rw [h1.cellAt n (by omega)]
  simp [hn]

set_option maxHeartbeats 800000 in
theorem few_c (a : Option Addr) (len cap : Nat) (l : List Int) (kh kw st pad : Int) (w : World) (h : Sl w a len l) :
    Calls Try.prog 25 #[.agg #[.slice a len cap, .int .i64 kh, .int .i64 kw, .int .i64 st, .int .i64 pad]] w (SomeBool w.heap.size w) := by
  have H := Lib.hid (h.alloc (.cells #[.slice a len cap, .int .i64 kh, .int .i64 kw, .int .i64 st, .int .i64 pad] 38))
  clear h
  have hbA : Below w.heap.size w (w.alloc (.cells #[.slice a len cap, .int .i64 kh, .int .i64 kw, .int .i64 st, .int .i64 pad] 38)) := (Below.refl _ _).alloc (Nat.le_refl _) _
  have hsA : w.heap.size ≤ (w.alloc (.cells #[.slice a len cap, .int .i64 kh, .int .i64 kw, .int .i64 st, .int .i64 pad] 38)).heap.size := by simp
  have HbA := Lib.hid hbA
  have HsA := Lib.hid hsA
  clear hbA hsA
  go_enter Try.func25, Try.ntmps25
  go_wp2_with fail
  refine (rwindows_c _ _ _ _ _ _ _ _ _ H.out).mono ?_
  rintro e w1 ⟨v, vs, rfl, hown, hvs, hb⟩
  have hbw := Lib.hid (HbA.out.trans (hb.mono HsA.out))
  clear hb
  by_cases he : winErr l kh kw st pad = 0
  · obtain ⟨C, H', W, a', b, s, p, R, S, rfl, rfl, rfl, rfl, rfl, hres, hC, hC2, hH, hH2, hW, hW2, ha, ha2, hb1, hb2, hs, hs2, hp, hp2, hR, hR2, hS, hS2, hok, _, _⟩ := win_nat he
    rw [hres] at hvs ⊢
    obtain ⟨m, hm⟩ : ∃ m, vs.length = m := ⟨_, rfl⟩
    obtain ⟨xa, xc, rfl⟩ := own_slice hown
    rw [hm] at hown ⊢
    have hml := own_len hown
    have hm0 : 0 < m := by
      rw [← hm, hvs.1, len_winRows]; exact Nat.mul_pos hR hS
    have hx := winRows_get H' W s p a' b C S R 0 hS (Nat.mul_pos hR hS)
    have hel := chans_get H' W ((0 / S : Nat) * s - p) ((0 % S : Nat) * s - p) a' b C 0 ha hb1 (Nat.mul_pos hC (Nat.mul_pos ha hb1))
    obtain ⟨g, ka, kc, rfl, hc1, _⟩ := vals_cell hown hvs hm hm0 hx hel
    obtain ⟨len1, hlen1⟩ : ∃ len1, (chans H' W ((0 / S : Nat) * s - p) ((0 % S : Nat) * s - p) a' b C).length = len1 := ⟨_, rfl⟩
    rw [hlen1] at hc1
    clear hres hown hvs hm hx hel hlen1 he
    go_wp2_with fail
    go_ret
    exact ⟨_, rfl, hbw.out⟩
  · rw [winRes_err he]
    have hne : (winErr l kh kw st pad != 0) = true := by rw [bne_iff_ne]; exact he
    clear he
    go_wp2_with fail
    go_ret
    exact ⟨_, rfl, hbw.out⟩
end Go.Proofs.Ytlbmllhjmgccaaa
