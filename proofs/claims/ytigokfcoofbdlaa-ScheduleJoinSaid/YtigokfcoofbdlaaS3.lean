/- The reference: Unfinished. -/
import Derived.Test.YtigokfcoofbdlaaS2
namespace Go.Proofs.Ytigokfcoofbdlaa
open Go.RowKit
set_option linter.unusedVariables false

theorem info3z : (Try.prog.info? 3).map (fun i => (i.zero, i.size, i.bytes)) = some (some (.int .i64 0), 1, 8) := by kernel_rfl
theorem cell_new (w : World) (x : Int) : (w.alloc (.cells #[.int .i64 x] 3)).cell? ⟨w.heap.size, 0, none⟩ = some (.int .i64 x) := by
  rw [cell_of_row _ w.heap.size 0 #[.int .i64 x] 3 (0, 0) (heap_alloc_new w _)]; rfl
theorem one_newi {w : World} {x : Int} {g : Nat} (hg : g = w.heap.size) : ∀ j u, [Value.int .i64 x][j]? = some u → (w.alloc (.cells #[.int .i64 x] 3)).cell? ((⟨g, 0, none⟩ : Addr).add j) = some u := by
  subst hg
  intro j u h
  match j, h with
  | 0, h =>
    simp at h; subst h
    rw [Addr.add_mid]
    exact cell_new w x
theorem one_celli {x : Int} : ∀ u ∈ [Value.int .i64 x], u.oneCell' = true := by intro u h; simp at h; subst h; rfl
theorem iv_one : ∀ {l : List Int}, ∀ u ∈ ivals l, u.oneCell' = true := by
  intro l u h
  obtain ⟨x, _, rfl⟩ := List.mem_map.1 h
  rfl
/-- a list of ints of the call's own -/
def OwnI (w : World) (base : Nat) (v : Value) (l : List Int) : Prop := w.ownsRow base 3 1 v l.length (ivals l)
theorem OwnI.push {w : World} {base U : Nat} {v : Value} {L : List Int} {x : Int} (h : w.ownsRow base 3 1 v (U + 1) (ivals L ++ [.int .i64 x])) (hl : L.length = U) : OwnI w base v (L ++ [x]) := by
  unfold OwnI
  rw [List.length_append, hl]
  simpa [ivals] using h
theorem OwnI.slice {w : World} {base : Nat} {v : Value} {l : List Int} (h : OwnI w base v l) : ∃ a c, v = .slice a l.length c := by
  rcases h.2 with ⟨rfl, h0⟩ | ⟨g, cap, cur, rfl, _⟩
  · exact ⟨_, 0, by rw [h0]⟩
  · exact ⟨_, _, rfl⟩
theorem OwnI.below {w w' : World} {base : Nat} {v : Value} {l : List Int} (h : OwnI w base v l) (hb : Below w.heap.size w w') : OwnI w' base v l := by
  obtain ⟨h1, h2⟩ := h
  refine ⟨h1, ?_⟩
  rcases h2 with h2 | ⟨g, cap, cur, hv, hg, hh, r⟩
  · exact .inl h2
  · refine .inr ⟨g, cap, cur, hv, hg, ?_, r⟩
    rw [hb.block g (Array.getElem?_eq_some_iff.1 hh).1]; exact hh
theorem OwnI.sl {w : World} {base : Nat} {a : Option Addr} {U c : Nat} {l : List Int} (h : OwnI w base (.slice a U c) l) (hl : l.length = U) : SlI w a U c l := by
  rcases id h.2 with ⟨hv, h0⟩ | ⟨g, cap, cur, hv, hg, hh, h1, h2, _⟩
  · injection hv with e1 e2 e3
    subst e1; subst e3; subst e2
    obtain rfl : l = [] := List.eq_nil_of_length_eq_zero hl
    exact SlI.nil w none 0 (by omega)
  · injection hv with e1 e2 e3
    subst e1; subst e3
    refine ⟨hl, by omega, by unfold maxLen at h2; omega, .inr ⟨g, 0, rfl, (Array.getElem?_eq_some_iff.1 hh).1, fun i hi => ?_⟩⟩
    have := World.ownsRow.cells h (g := g) rfl i _ (iv_at (by omega))
    rw [Addr.add_mid] at this
    exact this
/-- the numbers below i of the workers that have steps left -/
def unfp (l : List Int) : Nat → List Int
  | 0 => []
  | i + 1 => if 0 < l.getD i 0 then unfp l i ++ [(i : Int)] else unfp l i
theorem unfp_len (l : List Int) : ∀ i, (unfp l i).length ≤ i
  | 0 => Nat.le_refl _
  | i + 1 => by
    have := unfp_len l i
    unfold unfp
    split
    · simp; omega
    · omega
set_option maxHeartbeats 1000000 in
set_option maxRecDepth 100000 in
theorem unfinished_c (ad : Option Addr) (n cap : Nat) (l : List Int) (w : World) (hs : SlI w ad n cap l) (hn : n ≤ 1099511627776) :
    Calls Try.prog 16 #[.slice ad n cap] w fun e w' => ∃ v, e = .returned v ∧ OwnI w' w.heap.size v (unfp l n) ∧ Below w.heap.size w w' := by
  obtain ⟨i0, hi, hz0, hz1, hz2⟩ := info_parts info3z
  have HS := Lib.hid hs; clear hs
  go_enter Try.func16, Try.ntmps16
  go_wp2
  go_loopw [3, 4] (fun s3 s wr => ∃ (i U : Nat) (a : Option Addr) (c : Nat), i ≤ n ∧ s = .int .i64 i ∧ s3 = .slice a U c ∧ Hid ((unfp l i).length = U) ∧ U ≤ i ∧ OwnI wr w.heap.size (.slice a U c) (unfp l i) ∧ Below w.heap.size w wr) (fun _ s _ => n - (intOf s).toNat)
  case atStart => exact ⟨0, 0, none, 0, by omega, rfl, rfl, Lib.hid rfl, by omega, ⟨rfl, .inl ⟨rfl, rfl⟩⟩, Below.refl _ _⟩
  case round =>
    obtain ⟨i, U, a, c, hi2, rfl, rfl, HU, hU, ho, hb⟩ := hrel
    have OO := Lib.hid ho; clear ho
    have BB := Lib.hid hb; clear hb
    by_cases hlt : i < n
    · obtain ⟨p0, o0, rfl, hc0⟩ := (HS.out.below BB.out).at (by omega)
      have k0 := hc0 i hlt
      clear hc0
      obtain ⟨x, hx⟩ : ∃ y, l.getD i 0 = y := ⟨_, rfl⟩
      rw [hx] at k0
      have hnx : unfp l (i + 1) = if 0 < x then unfp l i ++ [(i : Int)] else unfp l i := by rw [← hx]; rfl
      clear hx
      by_cases hpos : 0 < x
      · rw [if_pos hpos] at hnx
        have HN := Lib.hid hnx
        clear hnx
        have ow : Hid (wr.ownsRow w.heap.size 3 1 (.slice a U c) U (ivals (unfp l i))) := Lib.hid (by have := OO.out; unfold OwnI at this; rwa [HU.out] at this)
        have hsz : w.heap.size ≤ wr.heap.size := BB.out.size
        go_wp2_with (at_builtin; refine wpList_append_own _ rfl (.tmp 16) (.tmp 18) 22 rfl w.heap.size 3 i0 (.int .i64 0) 1 8 Try.underlying22 hi hz0 hz1 hz2 rfl (by decide) _ _ _ rfl (ow.out.alloc _) ⟨wr.heap.size, 0, none⟩ 1 1 [.int .i64 i] rfl rfl (one_newi rfl) one_celli (by unfold maxLen; omega) (by omega) (by rw [World.size_alloc]; omega) ?_; intro v2 w3 O2 G2 _; have OH2 := Lib.hid O2; have GH2 := Lib.hid G2; clear O2 G2)
        have B3 := Lib.hid ((BB.out.alloc (o := .cells #[.int .i64 i] 3) hsz).grown GH2.out (by rw [World.size_alloc]; omega) (by intro k hk; have := (ow.out.lt k hk).1; omega))
        have hown : OwnI w3 w.heap.size v2 (unfp l (i + 1)) := by rw [HN.out]; exact OwnI.push OH2.out HU.out
        have hlen : (unfp l (i + 1)).length = U + 1 := by rw [HN.out, List.length_append, HU.out]; rfl
        obtain ⟨va, vc, rfl⟩ := hown.slice
        rw [hlen] at hown
        go_roundw
        case rel => exact ⟨i + 1, U + 1, va, vc, by omega, by go_num, by rw [hlen], Lib.hid hlen, by omega, hown, B3.out⟩
        case measure => simp [intOf]; omega
      · rw [if_neg hpos] at hnx
        have HN := Lib.hid hnx
        clear hnx
        go_wp2
        go_roundw
        case rel => exact ⟨i + 1, U, a, c, by omega, by go_num, rfl, Lib.hid (by rw [HN.out]; exact HU.out), by omega, by rw [HN.out]; exact OO.out, BB.out⟩
        case measure => simp [intOf]; omega
    · have hin : i = n := by omega
      have ho := OO.out
      rw [hin] at ho
      have O2 := Lib.hid ho
      clear ho
      go_wp2
      refine bodyPost_ret (results_tmp rfl _ _ _) rfl ?_
      exact ⟨_, rfl, O2.out, BB.out⟩

end Go.Proofs.Ytigokfcoofbdlaa
