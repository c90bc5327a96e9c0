/- The text of a clause. -/
import Derived.Test.YtljgcjmelmpgoaaDoorQ21
import Derived.Test.YtljgcjmelmpgoaaDoorSh
namespace Go.Proofs.YtljgcjmelmpgoaaDoor
open Go.RowKit
set_option linter.unusedVariables false

open Go.Shelf Go.Lib
/-- what follows a literal's unit -/
def tail2 (o : Bool) : List UInt8 := if o then [32, 111, 110] else [32, 111, 102, 102]
/-- a literal's text -/
def litText (x : Lt) : List UInt8 := 117 :: (Lib.itoa x.1 ++ tail2 x.2)
/-- a clause's text -/
def textL (L : List Lt) : List UInt8 := if L = [] then [101, 109, 112, 116, 121] else Lib.join (L.map litText) [32, 124, 32]
def litStr (x : Lt) : ByteArray := ⟨(litText x).toArray⟩
theorem str_cat (a b : ByteArray) : (a ++ b).data.toList = a.data.toList ++ b.data.toList := by simp
theorem lit_off {u : Int} {su : ByteArray} (h : ByteArray.mk (Lib.itoa u).toArray = su) : (ByteArray.mk #[117] ++ su) ++ ByteArray.mk #[32, 111, 102, 102] = litStr (u, false) := by
  subst h
  apply ByteArray.ext
  apply Array.ext'
  rw [str_cat, str_cat]
  simp [litStr, litText, tail2]
theorem lit_on {u : Int} {su : ByteArray} (h : ByteArray.mk (Lib.itoa u).toArray = su) : (ByteArray.mk #[117] ++ su) ++ ByteArray.mk #[32, 111, 110] = litStr (u, true) := by
  subst h
  apply ByteArray.ext
  apply Array.ext'
  rw [str_cat, str_cat]
  simp [litStr, litText, tail2]
/-- a slice of strings of the call's own -/
def OwnS (w : World) (base g n : Nat) (T : List ByteArray) : Prop := w.ownsRow base 9 1 (.slice (some ⟨g, 0, none⟩) n n) n (T.map Value.string)
theorem OwnS.below {w w' : World} {base g n : Nat} {T : List ByteArray} (h : OwnS w base g n T) (hb : Below w.heap.size w w') : OwnS w' base g n T := by
  obtain ⟨h1, h2⟩ := h
  refine ⟨h1, ?_⟩
  rcases h2 with h2 | ⟨g, cap, cur, hv, hg, hh, r⟩
  · exact .inl h2
  · refine .inr ⟨g, cap, cur, hv, hg, ?_, r⟩
    rw [hb.block g (Array.getElem?_eq_some_iff.1 hh).1]; exact hh
theorem OwnS.cell {w : World} {base g n : Nat} {T : List ByteArray} (h : OwnS w base g n T) {off : Nat} (ho : off = 0) {i : Nat} (hi : i < n) : w.cell? ⟨g, off + i, none⟩ = some (.string (T.getD i ByteArray.empty)) ∧ w.frozen? ⟨g, off + i, none⟩ = false := by
  subst ho
  have hl := h.1
  rw [List.length_map, Nat.mul_one] at hl
  rw [Nat.zero_add]
  refine ⟨?_, World.ownsRow.frozenAt h i⟩
  rw [World.ownsRow.cellAt h i (by omega), List.getElem?_map, List.getElem?_eq_getElem (by omega)]
  rw [List.getD_eq_getElem?_getD, List.getElem?_eq_getElem (by omega)]
  rfl
theorem OwnS.set {w : World} {base g n : Nat} {T : List ByteArray} (h : OwnS w base g n T) {off : Nat} (ho : off = 0) (i : Nat) (s : ByteArray) : OwnS (w.setCell ⟨g, off + i, none⟩ (.string s)) base g n (T.set i s) := by
  subst ho
  unfold OwnS
  rw [List.map_set, Nat.zero_add]
  exact (World.ownsRow.stored h i (.string s)).1
theorem OwnS.base {w : World} {base g n : Nat} {T : List ByteArray} (h : OwnS w base g n T) : base ≤ g ∧ g < w.heap.size ∧ T.length = n := by
  have hl := h.1
  rw [List.length_map, Nat.mul_one] at hl
  have := World.ownsRow.lt h g rfl
  exact ⟨this.1, this.2, hl⟩
theorem info9z : (Tryd.prog.info? 9).map (fun i => (i.zero, i.size, i.bytes)) = some (some (.string ⟨#[]⟩), 1, 16) := by kernel_rfl
theorem wpList_make_strs (w : World) {ops : Array Oper} {rest : List Oper} {o : Oper} {a : Act} {Q : Exit → Act → World → Prop}
    (hg : o.guard = none) (l c : Operand) (t : TypeId) (hop : o.op = Op.makeSlice t l c) (ht : Tryd.prog.underlying t = some (.slice 9))
    (X : Int) (n : Nat) (hl : a.eval l = .int .i64 X) (hc : a.eval c = .int .i64 X) (hX : X = n) (hb : n ≤ 1048576)
    (hK : ∀ w' g off, Hid (off = 0) → Hid (g = w.heap.size) → Hid (OwnS w' w.heap.size g n (List.replicate n ⟨#[]⟩)) → Below w.heap.size w w' → wpList Tryd.prog ops Q rest (a.put o.dst (.slice (some ⟨g, off, none⟩) n n)) w') :
    wpList Tryd.prog ops Q (o :: rest) a w := by
  obtain ⟨i0, hi0, hz0, hz1, hz2⟩ := info_parts info9z
  subst hX
  refine wpList_plain hg fun K hK' => ?_
  obtain ⟨w', hrun, hO, hgr⟩ := run_make_full (P := Tryd.prog) w w.heap.size t 9 i0 (.string ⟨#[]⟩) 1 ht hi0 hz0 hz1 .i64 .i64 n (by rw [hz2]; omega) (by unfold maxLen; omega) (Nat.le_refl _)
  unfold Oper.wp
  simp only [execOp, hop, hl, hc, Sem.run_bind, hrun, Result.andThen_ok, Sem.run_pure]
  refine hK' _ _ (hK w' w.heap.size 0 (Lib.hid rfl) (Lib.hid rfl) (Lib.hid ?_) ((Below.refl w.heap.size w).grown hgr (Nat.le_refl _) (fun k hk => by cases hk)))
  unfold OwnS
  rw [List.map_replicate]
  have e : (madeCells (Value.string ⟨#[]⟩).cells (n * 1)).toList = List.replicate n (Value.string ⟨#[]⟩) := by
    rw [Nat.mul_one]; exact toList_madeCells_one _ _
  rw [← e]; exact hO
theorem itoa_len (u : Int) (h : 0 ≤ u ∧ u < 1024) : (Lib.itoa u).length ≤ 4 := by
  unfold Lib.itoa
  rw [if_neg (by omega)]
  obtain ⟨k, rfl⟩ : ∃ k : Nat, u = k := ⟨u.toNat, by omega⟩
  rw [Int.toNat_natCast]
  have hk : k < 1024 := by omega
  have h1 : ∀ j : Nat, j < 10 → (Lib.decDigits j).length = 1 := fun j hj => by rw [Lib.decDigits, dif_pos hj]; rfl
  have h2 : ∀ j : Nat, j < 100 → (Lib.decDigits j).length ≤ 2 := fun j hj => by
    rw [Lib.decDigits]; split
    · simp
    · rw [List.length_append, h1 _ (by omega)]; simp
  have h3 : ∀ j : Nat, j < 1000 → (Lib.decDigits j).length ≤ 3 := fun j hj => by
    rw [Lib.decDigits]; split
    · simp
    · have := h2 (j / 10) (by omega)
      rw [List.length_append]; simp; omega
  rw [Lib.decDigits]; split
  · simp
  · have := h3 (k / 10) (by omega)
    rw [List.length_append]; simp; omega
theorem litText_len (x : Lt) (h : 0 ≤ x.1 ∧ x.1 < 1024) : (litText x).length ≤ 9 := by
  have := itoa_len x.1 h
  unfold litText tail2
  cases x.2 <;> simp <;> omega
theorem join_len (m : Nat) (sep : List UInt8) : ∀ (xs : List (List UInt8)), (∀ x ∈ xs, x.length ≤ m) → (Lib.join xs sep).length ≤ xs.length * (m + sep.length)
  | [], _ => by simp [Lib.join_nil]
  | x :: r, h => by
    rw [Lib.join_cons]
    have hx := h x (by simp)
    have ht : ∀ (r : List (List UInt8)), (∀ x ∈ r, x.length ≤ m) → (Lib.joinTail sep r).length ≤ r.length * (m + sep.length) := by
      intro r
      induction r with
      | nil => intro _; simp [Lib.joinTail]
      | cons y r ih =>
        intro hr
        have hy := hr y (by simp)
        have := ih (fun z hz => hr z (by simp [hz]))
        unfold Lib.joinTail at this ⊢
        simp only [List.map_cons, List.flatten_cons, List.length_append, List.length_cons, Nat.add_mul, Nat.one_mul]
        omega
    have := ht r (fun z hz => h z (by simp [hz]))
    rw [List.length_append, List.length_cons, Nat.add_mul, Nat.one_mul]
    omega
/-- the library's Itoa can be met from a world on -/
def ItoaOk (w : World) (u : Int) : Prop := ∀ W, Below w.heap.size w W → Calls Tryd.prog 48 #[.int .i64 u] W fun e w' => e = .returned (.string ⟨(Lib.itoa u).toArray⟩) ∧ Below W.heap.size W w'
theorem itoa_small (w : World) (u : Int) (h : 0 ≤ u ∧ u < 100) : ItoaOk w u := by
  intro W _
  obtain ⟨k, rfl⟩ : ∃ k : Nat, u = k := ⟨u.toNat, by omega⟩
  refine (Tryd.strconv_Itoa_small k (by omega) W).mono ?_
  rintro e w' ⟨rfl, rfl⟩
  exact ⟨by unfold Lib.itoa; rw [if_neg (by omega), Int.toNat_natCast], Below.refl _ _⟩
theorem set_done {T : List ByteArray} {L : List Lt} {n i : Nat} (hT : T.length = n) (hi : i < n) (h : ∀ k, k < i → T.getD k ByteArray.empty = litStr (L.getD k d0)) {s : ByteArray} (hs : s = litStr (L.getD i d0)) :
    ∀ k, k < i + 1 → (T.set i s).getD k ByteArray.empty = litStr (L.getD k d0) := fun k hk => by
  by_cases hki : k = i
  · subst hki
    rw [List.getD_eq_getElem?_getD, List.getElem?_set_self (by omega), Option.getD_some, hs]
  · rw [List.getD_eq_getElem?_getD, List.getElem?_set_ne (fun h => hki h.symm), ← List.getD_eq_getElem?_getD]
    exact h k (by omega)
theorem set_set {T : List ByteArray} {i : Nat} {a b : ByteArray} : (T.set i a).set i b = T.set i b := by simp
set_option maxHeartbeats 4000000 in
set_option maxRecDepth 100000 in
theorem text_c (a : Option Addr) (n c : Nat) (L : List Lt) (w : World) (hs : SlL w a n c L) (hn : n ≤ 4000) (hu : ∀ x ∈ L, 0 ≤ x.1 ∧ x.1 < 1024) (hI : ∀ x ∈ L, ItoaOk w x.1) :
    Calls Tryd.prog 30 #[.slice a n c] w fun e w' => e = .returned (.string ⟨(textL L).toArray⟩) ∧ Below w.heap.size w w' := by
  have HS := Lib.hid hs
  have HLN := Lib.hid hs.1
  have HU := Lib.hid hu
  have HI := Lib.hid hI
  clear hs hu hI
  by_cases h0 : n = 0
  · subst h0
    obtain rfl : L = [] := List.eq_nil_of_length_eq_zero HLN.out
    go_enter Tryd.func30, Tryd.ntmps30
    go_wp2
    refine bodyPost_ret (results_tmp rfl _ _ _) rfl ?_
    exact ⟨rfl, Below.refl _ _⟩
  · have hnz : 0 < n := by omega
    have hnb : ((n : Int) == 0) = false := by rw [beq_eq_false_iff_ne]; omega
    have hn0 : ¬ n = 0 := h0
    have HTX : Hid (textL L = Lib.join (L.map litText) [32, 124, 32]) := Lib.hid (by unfold textL; rw [if_neg (by rintro rfl; exact h0 HLN.out.symm)])
    clear h0
    go_enter Tryd.func30, Tryd.ntmps30
    go_wp2_with (at_make; refine wpList_make_strs _ rfl _ _ 62 rfl Tryd.underlying62 _ n rfl rfl rfl (by omega) ?_; intro w1 g off HOFF HG HO1 hb1)
    have B1 := Lib.hid hb1
    clear hb1 hnb hn0
    go_wp2
    go_loopw [4, 5, 14] (fun s4 s5 s wr => ∃ (i : Nat) (T : List ByteArray), i ≤ n ∧ s = .int .i64 (i : Nat) ∧ Hid (OwnS wr w.heap.size g n T) ∧ Hid (Below w.heap.size w wr) ∧ Hid (∀ k, k < i → T.getD k ByteArray.empty = litStr (L.getD k d0))) (fun _ _ s _ => n - (RowKit.intOf s).toNat)
    case atStart => exact ⟨0, List.replicate n ⟨#[]⟩, by omega, rfl, HO1, B1, Lib.hid (fun k hk => absurd hk (Nat.not_lt_zero k))⟩
    case round =>
      obtain ⟨i, T, hi, rfl, HO, HB, HT⟩ := hrel
      obtain ⟨hbg, hgs, hTl⟩ := HO.out.base
      have HBG := Lib.hid hbg
      have HTL := Lib.hid hTl
      clear hTl hbg
      by_cases hlt : i < n
      · obtain ⟨b, boff, rfl, hb, hc⟩ := (HS.out.below HB.out).at (by omega)
        obtain ⟨k0, k1⟩ := hc i hlt
        clear hc
        obtain ⟨u, hu⟩ : ∃ u, (L.getD i d0).1 = u := ⟨_, rfl⟩
        obtain ⟨o, ho⟩ : ∃ o, (L.getD i d0).2 = o := ⟨_, rfl⟩
        rw [hu] at k0
        rw [ho] at k1
        have HE : Hid (L.getD i d0 = (u, o)) := Lib.hid (by rw [← hu, ← ho])
        have HIU : Hid (ItoaOk w u) := Lib.hid (by
          have := HI.out (L.getD i d0) (mem_at (by rw [HLN.out]; exact hlt) rfl)
          rwa [hu] at this)
        have HUB : Hid (0 ≤ u ∧ u < 1024) := Lib.hid (by
          have := HU.out (L.getD i d0) (mem_at (by rw [HLN.out]; exact hlt) rfl)
          rwa [hu] at this)
        obtain ⟨su, hsu⟩ : ∃ s, ByteArray.mk (Lib.itoa u).toArray = s := ⟨_, rfl⟩
        have HSU := Lib.hid hsu
        have hss : su.size ≤ 4 := by
          have := itoa_len u HUB.out
          rw [← hsu]; simpa [ByteArray.size] using this
        clear hu ho hsu
        have hi0 : (0 : Int) ≤ (i : Int) := by omega
        have hi1 : (i : Int) < (n : Int) := by omega
        have BA : Hid (Below w.heap.size w (wr.alloc (.cells #[.int .i64 u, .bool o] 30))) := Lib.hid (HB.out.alloc HB.out.size _)
        have HNW : Hid ((wr.alloc (.cells #[.int .i64 u, .bool o] 30)).heap[wr.heap.size]? = some (.cells #[.int .i64 u, .bool o] 30 (0, 0))) := Lib.hid (heap_alloc_new wr _)
        have SZ : Hid ((wr.alloc (.cells #[.int .i64 u, .bool o] 30)).heap.size = wr.heap.size + 1) := Lib.hid (by simp)
        have OA : Hid (OwnS (wr.alloc (.cells #[.int .i64 u, .bool o] 30)) w.heap.size g n T) := Lib.hid (HO.out.below ((Below.refl _ _).alloc (Nat.le_refl _) _))
        go_wp2_with fail
        refine Calls.mono (HIU.out _ BA.out) ?_
        rintro e w2 ⟨rfl, hb2⟩
        rw [HSU.out]
        have B2 := Lib.hid (BA.out.trans (hb2.mono BA.out.size))
        have O2 := Lib.hid (OA.out.below hb2)
        have hl2 : w2.heap[wr.heap.size]? = some (.cells #[.int .i64 u, .bool o] 30 (0, 0)) := by rw [hb2.block _ (by rw [SZ.out]; omega)]; exact HNW.out
        have hgx : g ≠ wr.heap.size := by omega
        obtain ⟨bx, hbx⟩ : ∃ y, wr.heap.size = y := ⟨_, rfl⟩
        rw [hbx] at hl2 hgx ⊢
        have HL2 := Lib.hid hl2
        have x0 : w2.cell? ⟨bx, 0, none⟩ = some (.int .i64 u) := by rw [cell_of_row w2 bx 0 _ 30 (0, 0) hl2]; rfl
        have x1 : w2.cell? ⟨bx, 1, none⟩ = some (.bool o) := by rw [cell_of_row w2 bx 1 _ 30 (0, 0) hl2]; rfl
        obtain ⟨z0, f0⟩ := O2.out.cell HOFF.out hlt
        have hg1 : ¬ g = bx := hgx
        have hg2 : ¬ bx = g := fun h => hgx h.symm
        have hg3 : bx ≠ g := hg2
        clear hb2 hbx hl2 k0 k1 hb
        cases o with
        | false =>
          have HQ : Hid (∀ k, k < i + 1 → (T.set i ((ByteArray.mk #[117] ++ su) ++ ByteArray.mk #[32, 111, 102, 102])).getD k ByteArray.empty = litStr (L.getD k d0)) := Lib.hid (set_done HTL.out hlt HT.out (by rw [HE.out]; exact lit_off HSU.out))
          go_wp2
          go_roundw
          case rel => exact ⟨i + 1, _, by omega, by go_num, Lib.hid (OwnS.set O2.out HOFF.out i _), Lib.hid (B2.out.setCell (p := ⟨g, off + i, none⟩) HBG.out _), HQ⟩
          case measure => simp [RowKit.intOf]; omega
        | true =>
          have HQ : Hid (∀ k, k < i + 1 → ((T.set i ((ByteArray.mk #[117] ++ su) ++ ByteArray.mk #[32, 111, 102, 102])).set i ((ByteArray.mk #[117] ++ su) ++ ByteArray.mk #[32, 111, 110])).getD k ByteArray.empty = litStr (L.getD k d0)) := Lib.hid (by
            rw [set_set]
            exact set_done HTL.out hlt HT.out (by rw [HE.out]; exact lit_on HSU.out))
          go_wp2_with fail
          refine Calls.mono (HIU.out _ (B2.out.setCell (p := ⟨g, off + i, none⟩) HBG.out _)) ?_
          rintro e w4 ⟨rfl, hb4⟩
          rw [HSU.out]
          have O4 := Lib.hid ((OwnS.set O2.out HOFF.out i _).below hb4)
          have B4 := Lib.hid ((B2.out.setCell (p := ⟨g, off + i, none⟩) HBG.out _).trans (hb4.mono (B2.out.setCell (p := ⟨g, off + i, none⟩) HBG.out _).size))
          obtain ⟨z4, f4⟩ := O4.out.cell HOFF.out hlt
          clear hb4 z0 f0 x0 x1
          go_wp2
          go_roundw
          case rel => exact ⟨i + 1, _, by omega, by go_num, Lib.hid (OwnS.set O4.out HOFF.out i _), Lib.hid (B4.out.setCell (p := ⟨g, off + i, none⟩) HBG.out _), HQ⟩
          case measure => simp [RowKit.intOf]; omega
      · have hin : i = n := by omega
        have hne : ¬ (i : Int) < (n : Int) := by omega
        have HTT : Hid (T.map (·.data.toList) = L.map litText) := Lib.hid (by
          apply List.ext_getElem (by rw [List.length_map, List.length_map, HTL.out, HLN.out])
          intro k h1 h2
          rw [List.length_map] at h1 h2
          have := HT.out k (by rw [HTL.out] at h1; omega)
          rw [List.getD_eq_getElem?_getD, List.getElem?_eq_getElem h1, Option.getD_some, List.getD_eq_getElem?_getD, List.getElem?_eq_getElem h2, Option.getD_some] at this
          rw [List.getElem_map, List.getElem_map, this]
          simp [litStr])
        have HJ : Hid ((Lib.join (T.map (·.data.toList)) [32, 124, 32]).length ≤ 140737488355328) := Lib.hid (by
          rw [HTT.out]
          have := join_len 9 [32, 124, 32] (L.map litText) (fun x hx => by
            obtain ⟨y, hy, rfl⟩ := List.mem_map.1 hx
            exact litText_len y (HU.out y hy))
          rw [List.length_map, HLN.out] at this
          simp at this
          omega)
        have hj := Tryd.strings_Join g off n T ⟨#[32, 124, 32]⟩ wr (fun j x hx => by
          have h1 := (List.getElem?_eq_some_iff.1 hx).1
          have := (HO.out.cell HOFF.out (i := j) (by rw [← HTL.out]; exact h1)).1
          rw [List.getD_eq_getElem?_getD, hx] at this
          exact this) hgs (by rw [HTL.out]; omega) (by rw [HTL.out]; exact Nat.le_refl _) HJ.out
        rw [HTL.out] at hj
        have HJC := Lib.hid hj
        clear hin hj
        go_wp2_with fail
        refine Calls.mono HJC.out ?_
        rintro e w5 ⟨rfl, hb5⟩
        have B5 := Lib.hid (HB.out.trans (hb5.mono HB.out.size))
        clear hb5
        rw [HTT.out]
        rw [← HTX.out]
        go_wp2
        refine bodyPost_ret (results_tmp rfl _ _ _) rfl ?_
        exact ⟨rfl, B5.out⟩

end Go.Proofs.YtljgcjmelmpgoaaDoor
