/- the one-call sum of the reference -/
import Derived.Test.YtacahgcbkgapdaaA10
import Derived.Test.YtacahgcbkgapdaaA5
import Derived.Laws.AppendOwnNone
import Derived.Deep.RegionWith
import Derived.Deep.WholeRow
import Derived.Deep.LoopGhost
namespace Go.Proofs.Ytacahgcbkgapdaa
open Go.RowKit
set_option linter.unusedVariables false

theorem one_newb {w : World} {x : Int} {g : Nat} (hg : g = w.heap.size) : ∀ j u, [Value.int .u8 x][j]? = some u → (w.alloc (.cells #[.int .u8 x] 5)).cell? ((⟨g, 0, none⟩ : Addr).add j) = some u := by
  subst hg
  intro j u h
  match j, h with
  | 0, h =>
    simp at h; subst h
    rw [Addr.add_mid]
    exact (Row.new w 5 [.int .u8 x]).cell 0 rfl
theorem one_cellb {x : Int} : ∀ u ∈ [Value.int .u8 x], u.oneCell' = true := by intro u h; simp at h; subst h; rfl
theorem info5z : (Try.prog.info? 5).map (fun i => (i.zero, i.size, i.bytes)) = some (some (.int .u8 0), 1, 1) := by kernel_rfl
/-- a slice of the call's own that holds these bytes -/
def OwnB (w : World) (base : Nat) (v : Value) (l : List Int) : Prop := w.ownsRow base 5 1 v l.length (vals .u8 l)
theorem SlB.src {w : World} {x : Addr} {n cap : Nat} {l : List Int} (h : SlB w (some x) n cap l) : ∀ j u, (vals .u8 l)[j]? = some u → w.cell? (x.add j) = some u := by
  intro j u hu
  have hj : j < l.length := by
    rcases Nat.lt_or_ge j l.length with h | h
    · exact h
    · rw [List.getElem?_eq_none (by simpa using h)] at hu; cases hu
  obtain ⟨h1, _, _, h4⟩ := h
  rcases h4 with h4 | ⟨b, off, e, _, hc⟩
  · omega
  · cases e
    rw [vals_at hj] at hu
    cases hu
    rw [Addr.add_mid]
    exact hc j (by omega)
theorem wpList_append_sl {w : World} {ops : Array Oper} {rest : List Oper} {o : Oper} {a : Act} {Q : Exit → Act → World → Prop} (hgd : o.guard = none) (s x : Operand)
    (ho : o.op = .call { callee := .builtin .append, args := #[s, x], argTypes := #[22, 22] }) (base : Nat) (v : Value) (nn : Nat) (xs : List Value) (hs : a.eval s = v) (hown : w.ownsRow base 5 1 v nn xs)
    (ad : Option Addr) (n cap : Nat) (l : List Int) (hx : a.eval x = .slice ad n cap) (hsl : SlB w ad n cap l) (hz : ad = none → n = 0 ∧ cap = 0) (hb : nn + n ≤ 70368744177664) (hbase : base ≤ w.heap.size)
    (h : ∀ v' w', w'.ownsRow base 5 1 v' (nn + n) (xs ++ vals .u8 l) → w.grownBy w' v.ownBlock → wpList Try.prog ops Q rest (a.put o.dst v') w') : wpList Try.prog ops Q (o :: rest) a w := by
  obtain ⟨i0, hi, hz0, hz1, hz2⟩ := info_parts info5z
  cases ad with
  | none =>
    obtain ⟨rfl, rfl⟩ := hz rfl
    obtain rfl : l = [] := List.eq_nil_of_length_eq_zero hsl.1
    refine wpList_append_own_none hgd s x 22 ho base 5 i0 1 Try.underlying22 hi v nn xs hs hown hx ?_
    refine h v w ?_ ⟨rfl, rfl, rfl, Nat.le_refl _, fun _ _ _ => rfl⟩
    simpa using hown
  | some y =>
    exact wpList_append_own w hgd s x 22 ho base 5 i0 (.int .u8 0) 1 1 Try.underlying22 hi hz0 hz1 hz2 rfl (by decide) v nn xs hs hown y n cap (vals .u8 l) hx (by simp [hsl.1]) hsl.src vals_one' (by unfold maxLen; omega) (by omega) hbase (fun v' w' h1 h2 _ => h v' w' h1 h2)
theorem own_below {w w' : World} {base : Nat} {e : TypeId} {size : Nat} {v : Value} {n : Nat} {xs : List Value} (h : w.ownsRow base e size v n xs) (hb : Below w.heap.size w w') : w'.ownsRow base e size v n xs := by
  obtain ⟨h1, h2⟩ := h
  refine ⟨h1, ?_⟩
  rcases h2 with h2 | ⟨g, cap, cur, hv, hg, hh, r⟩
  · exact .inl h2
  · refine .inr ⟨g, cap, cur, hv, hg, ?_, r⟩
    rw [hb.block g (Array.getElem?_eq_some_iff.1 hh).1]; exact hh
theorem OwnB.push {w : World} {base U : Nat} {v : Value} {L : List Int} {x : Int} (h : w.ownsRow base 5 1 v (U + 1) (vals .u8 L ++ [.int .u8 x])) (hl : L.length = U) : OwnB w base v (L ++ [x]) := by
  unfold OwnB
  rw [List.length_append, hl]
  simpa [vals] using h
theorem below_drew1 {B : Nat} {w0 w : World} (h : Below B w0 w) : Below B w0 w.drew := ⟨h.os, h.tape, h.output, h.size, h.block⟩
theorem szb_alt (x : Int) {i : Nat} (h : i < 8) : x / 2 ^ (8 * (7 - i)) % 256 = szb x i := by
  unfold szb; rw [show 8 * (7 - i) = 56 - 8 * i by omega]
theorem own_bytes {w : World} {base : Nat} {a : Option Addr} {U c : Nat} {L : List Int} (h : OwnB w base (.slice a U c) L) (hl : L.length = U) (hU : 0 < U) : ∃ g, a = some ⟨g, 0, none⟩ ∧ base ≤ g ∧ g < w.heap.size ∧ U ≤ c ∧ c ≤ 9223372036854775807 ∧ BytesAt w g 0 L := by
  unfold OwnB at h
  rw [hl] at h
  have hlt := h.lt
  rcases id h.2 with ⟨_, h0⟩ | ⟨g, cap, cur, hv, hg, hh, h1, h2, _⟩
  · omega
  · injection hv with e1 e2 e3
    subst e1; subst e3
    refine ⟨g, rfl, hg, (hlt g rfl).2, h1, by unfold maxLen at h2; exact h2, fun i hi => ?_⟩
    have := h.cells (g := g) rfl i _ (vals_at hi)
    rwa [Addr.add_mid] at this
theorem own_slice {w : World} {base : Nat} {e : TypeId} {size : Nat} {v : Value} {n : Nat} {xs : List Value} (h : w.ownsRow base e size v n xs) : ∃ a c, v = .slice a n c := by
  rcases h.2 with ⟨rfl, rfl⟩ | ⟨g, cap, cur, rfl, _⟩
  · exact ⟨_, _, rfl⟩
  · exact ⟨_, _, rfl⟩
theorem below_grownO {B : Nat} {w0 w w' : World} {r : Option Nat} (hb : Below B w0 w) (hg : w.grownBy w' r) (hs : B ≤ w.heap.size) (hH : ∀ k, r = some k → B ≤ k) : Below B w0 w' := hb.grown hg hs hH
theorem Row.grownO {w w' : World} {g : Nat} {t : TypeId} {cs : List Value} {r : Option Nat} (h : Row w g t cs) (hg : w.grownBy w' r) (hne : some g ≠ r) : Row w' g t cs := by
  unfold Row; rw [hg.block g h.lt hne]; exact h
/-- the digest's bytes while one word is written, byte by byte -/
def obr (L : List Value) (i : Nat) (x : Int) : Nat → List Value
  | 0 => L
  | j + 1 => (obr L i x j).set (4 * i + j) (.int .u8 (x / 2 ^ (24 - 8 * j) % 256))
theorem obr_len {L : List Value} {i : Nat} {x : Int} : ∀ j, (obr L i x j).length = L.length
  | 0 => rfl
  | j + 1 => by unfold obr; rw [List.length_set, obr_len j]
theorem obr_all {st : List Int} {i : Nat} {x : Int} (hs : st.length = 8) (h : i < 8) (hx : st.getD i 0 = x) : obr (vals .u8 (obp st i)) i x 4 = vals .u8 (obp st (i + 1)) := by
  rw [← obp_set hs h x hx]
  simp [obr]
set_option maxHeartbeats 2000000 in
set_option maxRecDepth 100000 in
theorem refSum_c (ad : Option Addr) (n cap : Nat) (l : List Int) (w : World) (hs : SlB w ad n cap l) (hn : n ≤ 1073741824) (hz : ad = none → n = 0 ∧ cap = 0) :
    Calls Try.prog 11 #[.slice ad n cap] w fun e w' => e = .returned (.agg (vals .u8 (dig l)).toArray) ∧ Below w.heap.size w w' := by
  obtain ⟨i0, hi, hz0, hz1, hz2⟩ := info_parts info5z
  have HL := Lib.hid hs.1
  have HS := Lib.hid hs; clear hs
  go_enter Try.func11, Try.ntmps11
  go_upto_region 1 with fail
  obtain ⟨w1, hw1⟩ : ∃ w1 : World, w1 = w.alloc (.cells (vals .u8 (List.replicate 32 0)).toArray 24) := ⟨_, rfl⟩
  have R1 : Hid (Row w1 w.heap.size 24 (vals .u8 (List.replicate 32 0))) := Lib.hid (by rw [hw1]; exact Row.new w 24 _)
  have B1 : Hid (Below w.heap.size w w1) := Lib.hid (by rw [hw1]; exact (Below.refl _ _).alloc (Nat.le_refl _) _)
  have Z1 : Hid (w1.heap.size = w.heap.size + 1) := Lib.hid (by rw [hw1]; simp)
  simp only [vals, List.replicate, List.map_cons, List.map_nil] at hw1
  rw [← hw1]
  clear hw1
  have S1 := Lib.hid (HS.out.below B1.out)
  have O0 : (w1.alloc (.cells #[] 5)).ownsRow (w.heap.size + 1) 5 1 (.slice (some ⟨w1.heap.size, 0, none⟩) 0 0) 0 [] := World.ownsRow_made w1 #[] 0 (by rw [Z1.out]; exact Nat.le_refl _) (by unfold maxLen; omega) rfl
  have OH := Lib.hid O0; clear O0
  go_wp2_with (first | (at_builtin; refine wpList_append_sl rfl (.tmp 11) (.tmp 12) rfl (w.heap.size + 1) _ _ _ rfl OH.out ad n cap l rfl (S1.out.below ((Below.refl _ _).alloc (Nat.le_refl _) _)) hz (by omega) (by rw [World.size_alloc, Z1.out]; omega) ?_; intro v1 w2 O1 G1; have OH1 := Lib.hid O1; have GH1 := Lib.hid G1; clear O1 G1) | (at_builtin; refine wpList_append_own _ rfl (.tmp 13) (.tmp 14) 22 rfl (w.heap.size + 1) 5 i0 (.int .u8 0) 1 1 Try.underlying22 hi hz0 hz1 hz2 rfl (by decide) _ _ _ rfl (OH1.out.alloc _) ⟨w2.heap.size, 0, none⟩ 1 1 [.int .u8 128] rfl rfl (one_newb rfl) one_cellb (by unfold maxLen; omega) (by omega) (by have := GH1.out.size; simp at this; rw [World.size_alloc]; have := Z1.out; omega) ?_; intro v2 w3 O2 G2 _; have OH2 := Lib.hid O2; have GH2 := Lib.hid G2; clear O2 G2))
  have sz2 : Hid (w.heap.size + 2 ≤ w2.heap.size) := Lib.hid (by have := GH1.out.size; simp at this; have := Z1.out; omega)
  have R2 := Lib.hid ((R1.out.alloc (.cells #[] 5)).grownO GH1.out (fun e => by have e' := Option.some.inj (show some w.heap.size = some w1.heap.size from e); have := Z1.out; omega))
  have B2 := Lib.hid (below_grownO (B1.out.alloc (o := .cells #[] 5) (by have := Z1.out; omega)) GH1.out (by rw [World.size_alloc]; have := Z1.out; omega) (fun k hk => by have e' := Option.some.inj (show some w1.heap.size = some k from hk); have := Z1.out; omega))
  have R3 := Lib.hid ((R2.out.alloc (.cells #[.int .u8 128] 5)).grownO GH2.out (fun e => by have := (OH1.out.lt _ e.symm).1; omega))
  have B3 := Lib.hid (below_grownO (B2.out.alloc (o := .cells #[.int .u8 128] 5) (by have := sz2.out; omega)) GH2.out (by rw [World.size_alloc]; have := sz2.out; omega) (by intro k hk; have := (OH1.out.lt k hk).1; omega))
  have sz3 : Hid (w.heap.size + 2 ≤ w3.heap.size) := Lib.hid (by have := GH2.out.size; rw [World.size_alloc] at this; have := sz2.out; omega)
  have hown : OwnB w3 (w.heap.size + 1) v2 (l ++ [128]) := by
    have := OH2.out
    unfold OwnB
    simpa [HL.out] using this
  obtain ⟨va, vc, rfl⟩ := own_slice hown
  have HO := Lib.hid hown
  clear hown OH2 GH2 OH1 GH1 OH R1 B1 R2 B2
  have e1 : (l ++ [(128 : Int)]).length = n + 1 := by simp [HL.out]
  rw [e1] at HO ⊢
  clear e1
  go_loopw [3] (fun s wr => ∃ (j U : Nat) (a : Option Addr) (c : Nat), j ≤ zs n ∧ Hid (U = n + 1 + j) ∧ s = .slice a U c ∧ OwnB wr (w.heap.size + 1) (.slice a U c) (l ++ [128] ++ List.replicate j 0) ∧ Row wr w.heap.size 24 (vals .u8 (List.replicate 32 0)) ∧ w.heap.size + 2 ≤ wr.heap.size ∧ Below w.heap.size w wr) (fun s _ => n + 65 - (match s with | .slice _ m _ => m | _ => 0))
  case atStart => exact ⟨0, n + 1, va, vc, by omega, Lib.hid rfl, rfl, by simpa using HO.out, R3.out, sz3.out, B3.out⟩
  case round =>
    clear HO R3 B3 sz3
    obtain ⟨j, U, a, c, hj, HU, rfl, ho, hr, hsz, hb⟩ := hrel
    have HO := Lib.hid ho; clear ho
    have RR := Lib.hid hr; clear hr
    have BB := Lib.hid hb; clear hb
    have zl : Hid (zs n < 64) := Lib.hid (by unfold zs; omega)
    by_cases hlt : j < zs n
    · have hne : ((U : Int) % 64 != 56) = true := by rw [bne_iff_ne]; have := HU.out; unfold zs at hlt; omega
      have ll : Hid ((l ++ [128] ++ List.replicate j 0).length = U) := Lib.hid (by rw [HU.out]; simp [HL.out]; omega)
      have ow : Hid (wr.ownsRow (w.heap.size + 1) 5 1 (.slice a U c) U (vals .u8 (l ++ [128] ++ List.replicate j 0))) := Lib.hid (by have := HO.out; unfold OwnB at this; rwa [ll.out] at this)
      have ub : U ≤ 1073741890 := by have := HU.out; have := zl.out; omega
      go_wp2_with (at_builtin; refine wpList_append_own _ rfl (.tmp 20) (.tmp 21) 22 rfl (w.heap.size + 1) 5 i0 (.int .u8 0) 1 1 Try.underlying22 hi hz0 hz1 hz2 rfl (by decide) _ _ _ rfl (ow.out.alloc _) ⟨wr.heap.size, 0, none⟩ 1 1 [.int .u8 0] rfl rfl (one_newb rfl) one_cellb (by unfold maxLen; omega) (by omega) (by rw [World.size_alloc]; omega) ?_; intro v2 w3 O2 G2 _; have OH2 := Lib.hid O2; have GH2 := Lib.hid G2; clear O2 G2)
      have R3 := Lib.hid ((RR.out.alloc (.cells #[.int .u8 0] 5)).grownO GH2.out (fun e => by have := (ow.out.lt _ e.symm).1; omega))
      have B3 := Lib.hid (below_grownO (BB.out.alloc (o := .cells #[.int .u8 0] 5) (by omega)) GH2.out (by rw [World.size_alloc]; omega) (by intro k hk; have := (ow.out.lt k hk).1; omega))
      have sz3 : Hid (w.heap.size + 2 ≤ w3.heap.size) := Lib.hid (by have := GH2.out.size; rw [World.size_alloc] at this; omega)
      obtain ⟨va, vc, rfl⟩ := own_slice OH2.out
      have hown : OwnB w3 (w.heap.size + 1) (.slice va (U + 1) vc) (l ++ [128] ++ List.replicate (j + 1) 0) := by
        rw [List.replicate_succ', ← List.append_assoc]
        exact OwnB.push OH2.out ll.out
      go_roundw
      case rel => exact ⟨j + 1, U + 1, va, vc, by omega, Lib.hid (by have := HU.out; omega), rfl, hown, R3.out, sz3.out, B3.out⟩
      case measure => simp; have := HU.out; have := zl.out; omega
    · have hne : ((U : Int) % 64 != 56) = false := by rw [bne_eq_false_iff_eq]; have := HU.out; unfold zs at hlt hj; omega
      have hjz : j = zs n := by omega
      have ho := HO.out
      rw [hjz] at ho HU
      have HO2 := Lib.hid ho
      clear ho HO hjz hj hlt
      obtain ⟨x8, hx8⟩ : ∃ x : Int, 8 * (n : Int) = x := ⟨_, rfl⟩
      have HX8 := Lib.hid hx8
      go_wp2
      clear hx8
      obtain ⟨wq, rfl⟩ : ∃ wq : World, wq = wr := ⟨_, rfl⟩
      go_loopw [5, 3] (fun s5 s wr => ∃ (k V : Nat) (a : Option Addr) (c : Nat), k ≤ 8 ∧ s5 = .int .i64 (7 - (k : Int)) ∧ Hid (V = U + k) ∧ s = .slice a V c ∧ OwnB wr (w.heap.size + 1) (.slice a V c) (l ++ [128] ++ List.replicate (zs n) 0 ++ (List.range k).map (szb x8)) ∧ Row wr w.heap.size 24 (vals .u8 (List.replicate 32 0)) ∧ w.heap.size + 2 ≤ wr.heap.size ∧ Below w.heap.size w wr) (fun s _ _ => (intOf s + 1).toNat)
      case atStart => exact ⟨0, U, a, c, by omega, by simp, Lib.hid rfl, rfl, by simpa using HO2.out, RR.out, hsz, BB.out⟩
      case round =>
        clear HO2 RR BB hsz
        obtain ⟨k, V, a, c, hk, rfl, HV, rfl, ho, hr, hsz, hb⟩ := hrel
        have HO := Lib.hid ho; clear ho
        have RR := Lib.hid hr; clear hr
        have BB := Lib.hid hb; clear hb
        have ub : V ≤ 1073741990 := by have := HU.out; have := zl.out; have := HV.out; omega
        by_cases hlt : k < 8
        · have ll : Hid ((l ++ [128] ++ List.replicate (zs n) 0 ++ (List.range k).map (szb x8)).length = V) := Lib.hid (by rw [HV.out, HU.out]; simp [HL.out]; omega)
          have ow : Hid (wr.ownsRow (w.heap.size + 1) 5 1 (.slice a V c) V (vals .u8 (l ++ [128] ++ List.replicate (zs n) 0 ++ (List.range k).map (szb x8)))) := Lib.hid (by have := HO.out; unfold OwnB at this; rwa [ll.out] at this)
          have p0 : 0 ≤ 7 - (k : Int) := by omega
          have p1 : 0 ≤ 8 * (7 - (k : Int)) := by omega
          have hsb := Lib.hid (szb_alt x8 hlt)
          go_wp2_with (at_builtin; refine wpList_append_own _ rfl (.tmp 31) (.tmp 37) 22 rfl (w.heap.size + 1) 5 i0 (.int .u8 0) 1 1 Try.underlying22 hi hz0 hz1 hz2 rfl (by decide) _ _ _ rfl (ow.out.alloc _) ⟨wr.heap.size, 0, none⟩ 1 1 [.int .u8 (x8 / 2 ^ (8 * (7 - k)) % 256)] rfl rfl (one_newb rfl) one_cellb (by unfold maxLen; omega) (by omega) (by rw [World.size_alloc]; omega) ?_; intro v2 w3 O2 G2 _; have OH2 := Lib.hid O2; have GH2 := Lib.hid G2; clear O2 G2)
          have R3 := Lib.hid ((RR.out.alloc (.cells #[.int .u8 (x8 / 2 ^ (8 * (7 - k)) % 256)] 5)).grownO GH2.out (fun e => by have := (ow.out.lt _ e.symm).1; omega))
          have B3 := Lib.hid (below_grownO (BB.out.alloc (o := .cells #[.int .u8 (x8 / 2 ^ (8 * (7 - k)) % 256)] 5) (by omega)) GH2.out (by rw [World.size_alloc]; omega) (by intro k hk; have := (ow.out.lt k hk).1; omega))
          have sz3 : Hid (w.heap.size + 2 ≤ w3.heap.size) := Lib.hid (by have := GH2.out.size; rw [World.size_alloc] at this; omega)
          obtain ⟨va, vc, rfl⟩ := own_slice OH2.out
          have hown : OwnB w3 (w.heap.size + 1) (.slice va (V + 1) vc) (l ++ [128] ++ List.replicate (zs n) 0 ++ (List.range (k + 1)).map (szb x8)) := by
            rw [List.range_succ, List.map_append, ← List.append_assoc]
            have := OwnB.push OH2.out ll.out
            rw [hsb.out] at this
            exact this
          go_roundw
          case rel => exact ⟨k + 1, V + 1, va, vc, by omega, by congr 1; omega, Lib.hid (by have := HV.out; omega), rfl, hown, R3.out, sz3.out, B3.out⟩
          case measure => simp [intOf]; omega
        · have hk8 : k = 8 := by omega
          have ho := HO.out
          rw [hk8] at ho HV
          have hM : l ++ [128] ++ List.replicate (zs n) 0 ++ (List.range 8).map (szb x8) = padded l := by
            unfold padded sz8; rw [← HX8.out, HL.out, Int.mul_comm]
          have hMl : (l ++ [128] ++ List.replicate (zs n) 0 ++ (List.range 8).map (szb x8)).length = V := by rw [HV.out, HU.out]; simp [HL.out]; omega
          rw [hM] at ho hMl
          have hmod := padded_len l
          have HDG : Hid (dig l = outB (runB init (padded l)).1) := Lib.hid rfl
          obtain ⟨M, hMM⟩ : ∃ M, padded l = M := ⟨_, rfl⟩
          rw [hMM] at ho hMl hmod HDG
          clear hM hMM hk8
          rw [hMl] at hmod
          obtain ⟨Q, hQ⟩ : ∃ Q, V = 64 * Q := ⟨V / 64, by omega⟩
          have hQ1 : 0 < V := by have := HV.out; omega
          obtain ⟨g, rfl, hg1, hg2, hg3, hg4, hby⟩ := own_bytes ho hMl hQ1
          have HM := Lib.hid hMl
          have HQ := Lib.hid hQ
          have HY := Lib.hid hby
          clear ho hMl hmod hQ hby HO
          have kneg : ¬ (0 : Int) ≤ 7 - (k : Int) := by omega
          go_wp2
          obtain ⟨wp, rfl⟩ : ∃ wp : World, wp = wr := ⟨_, rfl⟩
          have S0 := Lib.hid (Row.new wp 37 (vals .u32 init))
          have Y0 : Hid (BytesAt (wp.alloc (.cells (vals .u32 init).toArray 37)) g 0 M) := Lib.hid (HY.out.below ((Below.refl wp.heap.size wp).alloc (Nat.le_refl _) _) hg2)
          have R0 := Lib.hid (RR.out.alloc (.cells (vals .u32 init).toArray 37))
          have B0 := Lib.hid (BB.out.alloc (o := .cells (vals .u32 init).toArray 37) (by omega))
          clear HY RR BB
          go_loopw [7] (fun s wr => ∃ (q : Nat) (a b c d e f h p : Int), q ≤ Q ∧ s = .int .i64 (64 * (q : Int)) ∧ Hid (runB init (M.take (64 * q)) = ([a, b, c, d, e, f, h, p], [])) ∧ Row wr wp.heap.size 37 (vals .u32 [a, b, c, d, e, f, h, p]) ∧ BytesAt wr g 0 M ∧ wp.heap.size < wr.heap.size ∧ Row wr w.heap.size 24 (vals .u8 (List.replicate 32 0)) ∧ Below w.heap.size w wr) (fun s _ => 64 * Q - (intOf s).toNat)
          case atStart => exact ⟨0, _, _, _, _, _, _, _, _, by omega, by simp, Lib.hid (by rw [show M.take (64 * 0) = [] from rfl, runB_short (by simp)]; rfl), S0.out, Y0.out, by simp, R0.out, B0.out⟩
          case round =>
            clear S0 Y0 R0 B0
            obtain ⟨q, sa, sb, sc, sd, se, sf, sh, sp, hq, rfl, HI, hs, hy, hsz2, hr, hb⟩ := hrel
            have HS := Lib.hid hs; clear hs
            have HY := Lib.hid hy; clear hy
            have RR := Lib.hid hr; clear hr
            have BB := Lib.hid hb; clear hb
            by_cases hlt : q < Q
            · have hlt2 : 64 * (q : Int) < (V : Int) := by have := HQ.out; omega
              have p0 : 0 ≤ 64 * (q : Int) := by omega
              have p1 : 64 * (q : Int) ≤ 64 * (q : Int) + 64 := by omega
              have p2 : 64 * (q : Int) + 64 ≤ (V : Int) := by have := HQ.out; omega
              have p3 : 64 * (q : Int) + 64 ≤ (c : Int) := by omega
              have p4 : (64 * (q : Int)).toNat = 64 * q := by omega
              have p5 : (64 * (q : Int) + 64).toNat = 64 * q + 64 := by omega
              have p6 : ¬ c = 64 * q := by have := HQ.out; omega
              have p7 : 64 * q + 64 - 64 * q = 64 := by omega
              have k0 := HS.out.cell 0 (v := .int .u32 sa) rfl
              have k1 := HS.out.cell 1 (v := .int .u32 sb) rfl
              have k2 := HS.out.cell 2 (v := .int .u32 sc) rfl
              have k3 := HS.out.cell 3 (v := .int .u32 sd) rfl
              have k4 := HS.out.cell 4 (v := .int .u32 se) rfl
              have k5 := HS.out.cell 5 (v := .int .u32 sf) rfl
              have k6 := HS.out.cell 6 (v := .int .u32 sh) rfl
              have k7 := HS.out.cell 7 (v := .int .u32 sp) rfl
              obtain ⟨X, hX⟩ : ∃ X, (M.drop (64 * q)).take 64 = X := ⟨_, rfl⟩
              have hXl : X.length = 64 := by rw [← hX]; have := HM.out; have := HQ.out; simp; omega
              have HXB : Hid (BytesAt wr g (64 * q) X) := Lib.hid (by
                intro i hi
                have hm := HM.out
                have hqq := HQ.out
                have := HY.out (64 * q + i) (by omega)
                rw [Nat.zero_add] at this
                rw [this, ← hX]
                simp [show i < 64 by omega])
              obtain ⟨ra, rb, rc, rd, re, rf, rg, rp, hblk⟩ := eight (l := blk [sa, sb, sc, sd, se, sf, sh, sp] X) (by rw [blk_len]; rfl)
              have HBC := Lib.hid (fun (W : World) (h1 : g < W.heap.size) (h2 : BytesAt W g (64 * q) X) => blockd_c sa sb sc sd se sf sh sp g (64 * q) (c - 64 * q) X W hXl (by have := HQ.out; omega) h1 h2)
              rw [hblk] at HBC
              have HNX : Hid (runB init (M.take (64 * (q + 1))) = ([ra, rb, rc, rd, re, rf, rg, rp], [])) := Lib.hid (by
                have e1 : M.take (64 * (q + 1)) = M.take (64 * q) ++ X := by rw [← hX, show 64 * (q + 1) = 64 * q + 64 by omega, List.take_add]
                rw [e1, ← runB_append, HI.out, List.nil_append]
                show runB [sa, sb, sc, sd, se, sf, sh, sp] X = _
                have := runB_block (st := [sa, sb, sc, sd, se, sf, sh, sp]) (l := []) hXl
                rw [List.append_nil] at this
                rw [this, runB_short (by simp), hblk])
              have HXL := Lib.hid hXl
              clear hX hXl hblk HI
              have hgr : g < wr.heap.size := by omega
              have pw : IntKind.i64.wrap (64 * (q : Int) + 64) = 64 * (q : Int) + 64 := IntWalk.i64_in _ (by omega)
              go_wp2
              go_region_with (go_at_call 16; refine (HBC.out _ (by exact hgr) (by exact HXB.out)).mono ?_; rintro e w5 ⟨rfl, hb5⟩; have hs5 := Row.below (w := wr.drew) (by exact HS.out) hb5 hsz2; have B5 := Lib.hid ((below_drew1 BB.out).trans (hb5.mono BB.out.size)); have R5 := Lib.hid (Row.below (w := wr.drew) (by exact RR.out) hb5 RR.out.lt); have Y5 := Lib.hid (BytesAt.below (w := wr.drew) (by exact HY.out) hb5 hgr); have z5 := Lib.hid hb5.size; have S5 := Lib.hid hs5; have c0 := hs5.cell 0 (v := .int .u32 sa) rfl; have c1 := hs5.cell 1 (v := .int .u32 sb) rfl; have c2 := hs5.cell 2 (v := .int .u32 sc) rfl; have c3 := hs5.cell 3 (v := .int .u32 sd) rfl; have c4 := hs5.cell 4 (v := .int .u32 se) rfl; have c5 := hs5.cell 5 (v := .int .u32 sf) rfl; have c6 := hs5.cell 6 (v := .int .u32 sh) rfl; have c7 := hs5.cell 7 (v := .int .u32 sp) rfl; have f0 := hs5.frozen 0; have f1 := hs5.frozen 1; have f2 := hs5.frozen 2; have f3 := hs5.frozen 3; have f4 := hs5.frozen 4; have f5 := hs5.frozen 5; have f6 := hs5.frozen 6; have f7 := hs5.frozen 7; clear hb5 hs5)
              all_goals
                go_wp2
                go_roundw
                case rel =>
                  have wz : wr.heap.size ≤ w5.heap.size := z5.out
                  refine ⟨q + 1, ra, rb, rc, rd, re, rf, rg, rp, by omega, by congr 1 <;> omega, HNX, ?_, ?_, ?_, ?_, ?_⟩
                  · exact (((((((S5.out.set 0 _).set 1 _).set 2 _).set 3 _).set 4 _).set 5 _).set 6 _).set 7 _
                  · exact Y5.out.below (Below.set8 (Below.refl wp.heap.size w5) (Nat.le_refl _) _ _ _ _ _ _ _ _) hg2
                  · simp; omega
                  · exact R5.out.other8 (by omega) _ _ _ _ _ _ _ _
                  · exact Below.set8 B5.out (by omega) _ _ _ _ _ _ _ _
                case measure => simp [intOf]; omega
            · have hqQ : q = Q := by omega
              have HIq := HI.out
              rw [hqQ, show M.take (64 * Q) = M from List.take_of_length_le (by rw [HM.out, HQ.out]; exact Nat.le_refl _)] at HIq
              have hdg := HDG.out
              rw [HIq] at hdg
              have HDG2 := Lib.hid hdg
              clear HIq hdg HDG HI HM
              have hge : ¬ 64 * (q : Int) < (V : Int) := by have := HQ.out; omega
              clear HY hqQ HQ HV HU
              go_upto_region 15 with fail
              obtain ⟨w5, hw5⟩ : ∃ w5 : World, w5 = wr.alloc (.cells (vals .u8 (obp [sa, sb, sc, sd, se, sf, sh, sp] 0)).toArray 24) := ⟨_, rfl⟩
              have O0 : Hid (Row w5 wr.heap.size 24 (vals .u8 (obp [sa, sb, sc, sd, se, sf, sh, sp] 0))) := Lib.hid (by rw [hw5]; exact Row.new wr 24 _)
              have RR5 : Hid (Row w5 w.heap.size 24 (vals .u8 (List.replicate 32 0))) := Lib.hid (by rw [hw5]; exact RR.out.alloc _)
              have S5 : Hid (Row w5 wp.heap.size 37 (vals .u32 [sa, sb, sc, sd, se, sf, sh, sp])) := Lib.hid (by rw [hw5]; exact HS.out.alloc _)
              have BB5 : Hid (Below w.heap.size w w5) := Lib.hid (by rw [hw5]; exact BB.out.alloc (by have := RR.out.lt; omega) _)
              have hz4 : Hid (w.heap.size < wr.heap.size) := Lib.hid (by have := RR.out.lt; omega)
              rw [obp_zero] at hw5
              simp only [vals, List.replicate, List.map_cons, List.map_nil] at hw5
              rw [← hw5]
              clear hw5 RR HS BB
              have hst8 : [sa, sb, sc, sd, se, sf, sh, sp].length = 8 := rfl
              obtain ⟨st, hst⟩ : ∃ st, [sa, sb, sc, sd, se, sf, sh, sp] = st := ⟨_, rfl⟩
              rw [hst] at S5 O0 HDG2 hst8
              have H8 := Lib.hid hst8
              clear hst hst8
              obtain ⟨wm, rfl⟩ : ∃ wm : World, wm = wr := ⟨_, rfl⟩
              go_wp2
              go_loopw [9] (fun s wr => ∃ i : Nat, i ≤ 8 ∧ s = .int .i64 i ∧ Row wr wm.heap.size 24 (vals .u8 (obp st i)) ∧ Row wr wp.heap.size 37 (vals .u32 st) ∧ Row wr w.heap.size 24 (vals .u8 (List.replicate 32 0)) ∧ Below w.heap.size w wr) (fun s _ => 8 - (intOf s).toNat)
              case atStart => exact ⟨0, by omega, rfl, O0.out, S5.out, RR5.out, BB5.out⟩
              case round =>
                clear O0 S5 RR5 BB5
                obtain ⟨i, hi, rfl, ho, hs, hr, hb⟩ := hrel
                have HO := Lib.hid ho; clear ho
                have HS := Lib.hid hs; clear hs
                have RR := Lib.hid hr; clear hr
                have BB := Lib.hid hb; clear hb
                by_cases hlt : i < 8
                · obtain ⟨y, hy⟩ : ∃ x, st.getD i 0 = x := ⟨_, rfl⟩
                  have HYY := Lib.hid hy
                  clear hy
                  obtain ⟨wu, rfl⟩ : ∃ wu : World, wu = wr := ⟨_, rfl⟩
                  go_wp2
                  go_loopw [10] (fun s wr => ∃ j : Nat, j ≤ 4 ∧ s = .int .i64 j ∧ Row wr wm.heap.size 24 (obr (vals .u8 (obp st i)) i y j) ∧ Row wr wp.heap.size 37 (vals .u32 st) ∧ Row wr w.heap.size 24 (vals .u8 (List.replicate 32 0)) ∧ Below w.heap.size w wr) (fun s _ => 4 - (intOf s).toNat)
                  case atStart => exact ⟨0, by omega, rfl, HO.out, HS.out, RR.out, BB.out⟩
                  case round =>
                    clear HO HS RR BB
                    obtain ⟨j, hj, rfl, ho, hs, hr, hb⟩ := hrel
                    have HO := Lib.hid ho; clear ho
                    have HS := Lib.hid hs; clear hs
                    have RR := Lib.hid hr; clear hr
                    have BB := Lib.hid hb; clear hb
                    by_cases hlt2 : j < 4
                    · have kk : Hid ((obr (vals .u8 (obp st i)) i y j).length = 32) := Lib.hid (by rw [obr_len, List.length_map, obp_len (by rw [H8.out]; omega)]; omega)
                      have k0 := HO.out.cell (4 * i + j) (List.getElem?_eq_getElem (by rw [kk.out]; omega))
                      generalize (obr (vals .u8 (obp st i)) i y j)[4 * i + j]'_ = y0 at k0
                      have k1 := HS.out.cell i (vals_at (by rw [H8.out]; exact hlt))
                      rw [HYY.out] at k1
                      have f0 := HO.out.frozen (4 * i + j)
                      have b1 : 4 * (i : Int) + (j : Int) < 32 := by omega
                      have b2 : (4 * (i : Int) + (j : Int)).toNat = 4 * i + j := by omega
                      have p1 : 0 ≤ 4 * (i : Int) + (j : Int) := by omega
                      have p2 : 0 ≤ 24 - 8 * (j : Int) := by omega
                      have p3 : (24 - 8 * (j : Int)).toNat = 24 - 8 * j := by omega
                      have ne1 : wp.heap.size ≠ wm.heap.size := by have := hsz2; omega
                      go_wp2
                      go_roundw
                      case rel =>
                        have hh := hz4.out
                        refine ⟨j + 1, by omega, by go_num, ?_, ?_, ?_, ?_⟩
                        · exact HO.out.set (4 * i + j) _
                        · exact HS.out.other _ _ _ ne1
                        · exact RR.out.other _ _ _ (by omega)
                        · exact BB.out.setCell (p := ⟨wm.heap.size, 4 * i + j, none⟩) (by show _ ≤ wm.heap.size; omega) _
                      case measure => simp [intOf]; omega
                    · have hj4 : j = 4 := by omega
                      have ho := HO.out
                      rw [hj4, obr_all H8.out hlt HYY.out] at ho
                      have HO2 := Lib.hid ho
                      clear HO ho hj4
                      go_wp2
                      go_roundw
                      case rel => exact ⟨i + 1, by omega, by go_num, HO2.out, HS.out, RR.out, BB.out⟩
                      case measure => simp [intOf]; omega
                · have hi8 : i = 8 := by omega
                  have ho := HO.out
                  rw [hi8, obp_full H8.out, ← HDG2.out] at ho
                  have LD : Hid ((dig l).length = 32) := Lib.hid (dig_len l)
                  obtain ⟨D, hD⟩ : ∃ D, dig l = D := ⟨_, rfl⟩
                  rw [hD] at ho LD
                  have HD := Lib.hid hD
                  have HO2 := Lib.hid ho
                  clear ho hi8 HO hD HDG2
                  have hs32 : Hid ((Try.prog.info? 24).map (·.size) = some (vals .u8 D).toArray.size) := Lib.hid (by rw [info24]; simp [LD.out])
                  have hz32 : Hid ((vals .u8 (List.replicate 32 0)).toArray.size = (vals .u8 D).toArray.size) := Lib.hid (by simp [LD.out])
                  go_upto_region 22 with fail
                  go_step
                  refine wpList_load_row rfl 24 _ rfl wm.heap.size rfl 24 (vals .u8 D).toArray (0, 0) _ HO2.out Try.underlying24 rfl hs32.out ?_
                  refine wpList_store_row rfl 24 _ _ rfl w.heap.size (vals .u8 D).toArray rfl rfl 24 _ RR.out hs32.out hz32.out vals_one ?_
                  go_wp2_with fail
                  refine bodyPost_ret (v := .agg (vals .u8 D).toArray) (results_cell_row rfl _ _ w.heap.size 24 _ (0, 0) _ rfl (setRow_heap _ _ _ _ _ _ RR.out) Try.underlying24 rfl hs32.out) rfl ⟨by rw [HD.out], ?_⟩
                  exact below_setRow BB.out (Nat.le_refl _) _

end Go.Proofs.Ytacahgcbkgapdaa
