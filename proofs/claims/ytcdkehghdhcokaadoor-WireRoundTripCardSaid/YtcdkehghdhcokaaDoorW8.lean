/- limbs; AppendNat. -/
import Derived.Test.YtcdkehghdhcokaaDoorWA
namespace Go.Proofs.YtcdkehghdhcokaaDoor.wr
open Go.RowKit
set_option linter.unusedVariables false

/-- a slice of limbs that reads as l -/
def SlW (w : World) (ad : Option Addr) (n cap : Nat) (l : List Int) : Prop :=
  l.length = n ∧ n ≤ cap ∧ cap ≤ 9223372036854775807 ∧ (∀ x ∈ l, 0 ≤ x ∧ x < 4294967296) ∧ (n = 0 ∨ ∃ b off, ad = some ⟨b, off, none⟩ ∧ b < w.heap.size ∧ ∀ i, i < n → w.cell? ⟨b, off + i, none⟩ = some (.int .u32 (l.getD i 0)))
theorem SlW.below {w w' : World} {ad : Option Addr} {n cap : Nat} {l : List Int} (h : SlW w ad n cap l) (hb : Below w.heap.size w w') : SlW w' ad n cap l := by
  obtain ⟨h1, h2, h3, h0, h4⟩ := h
  refine ⟨h1, h2, h3, h0, ?_⟩
  rcases h4 with h4 | ⟨b, off, e, hlt, hc⟩
  · exact .inl h4
  · exact .inr ⟨b, off, e, Nat.lt_of_lt_of_le hlt hb.size, fun i hi => (hb.cell (p := ⟨b, off + i, none⟩) hlt).trans (hc i hi)⟩
theorem SlW.at {w : World} {ad : Option Addr} {n cap : Nat} {l : List Int} (h : SlW w ad n cap l) (hn : 0 < n) : ∃ b off, ad = some ⟨b, off, none⟩ ∧ b < w.heap.size ∧ ∀ i, i < n → w.cell? ⟨b, off + i, none⟩ = some (.int .u32 (l.getD i 0)) := by
  rcases h.2.2.2.2 with h | h
  · omega
  · exact h
/-- a limb's bytes -/
def by4 (x : Int) : List Int := [x % 256, x / 256 % 256, x / 65536 % 256, x / 16777216]
/-- limbs as bytes -/
def nb (L : List Int) : List Int := grp L.length ++ L.flatMap by4
theorem take_snoc {L : List Int} {i : Nat} (h : i < L.length) : L.take (i + 1) = L.take i ++ [L.getD i 0] := by
  rw [List.take_succ_eq_append_getElem h]; simp [h]
theorem by4_len (L : List Int) : (L.flatMap by4).length = L.length * 4 := by
  induction L with
  | nil => rfl
  | cons x L ih => rw [List.flatMap_cons, List.length_append, ih, List.length_cons]; show 4 + _ = _; omega
theorem take_by4 {L : List Int} {i : Nat} (h : i < L.length) : (L.take (i + 1)).flatMap by4 = (L.take i).flatMap by4 ++ by4 (L.getD i 0) := by
  rw [take_snoc h, List.flatMap_append]; simp
theorem nb_len {L : List Int} (h : L.length ≤ 1000) : (nb L).length ≤ 4010 := by
  unfold nb
  rw [List.length_append, by4_len]
  have := grp_len10 (n := L.length) (by omega)
  omega
theorem four_src (w : World) (x : Int) : Src Tryd.prog 1 22 (.slice (some ⟨w.heap.size, 0, none⟩) 4 4) 4 (vals .u8 (by4 x)) (w.alloc (.cells #[.int .u8 (x % 256), .int .u8 (x / 256 % 256), .int .u8 (x / 65536 % 256), .int .u8 (x / 16777216)] 5)) :=
  (SlB.new w (by4 x) #[.int .u8 (x % 256), .int .u8 (x / 256 % 256), .int .u8 (x / 65536 % 256), .int .u8 (x / 16777216)] 4 rfl rfl (by omega)).asSrc Tryd.underlying22
set_option maxHeartbeats 4000000 in
set_option maxRecDepth 100000 in
theorem limbs_c (W : World) (v : Value) (A : List Int) (a : Option Addr) (n c : Nat) (L : List Int) (w : World) (ho : OwnB w W.heap.size v A) (hW : Below W.heap.size W w) (hs : SlW W a n c L) (hA : A.length ≤ 20000) (hn : n ≤ 1000) :
    Calls Tryd.prog 37 #[v, .slice a n c] w fun e w' => ∃ v', e = .returned v' ∧ OwnB w' W.heap.size v' (A ++ nb L) ∧ Below W.heap.size W w' := by
  have HS := Lib.hid hs
  have HW := Lib.hid hW
  have HLN : Hid (L.length = n) := Lib.hid hs.1
  have hnc : n ≤ c := hs.2.1
  have hc63 := hs.2.2.1
  have HG := Lib.hid (group_c W.heap.size v A n w (by omega) (by omega) ho hW.size)
  have G10 := Lib.hid (grp_len10 (n := n) (by omega))
  clear hs hW ho
  go_enter Tryd.func37, Tryd.ntmps37
  go_wp2_with fail
  refine HG.out.mono ?_
  rintro e w1 ⟨v1, rfl, hO, hb⟩
  have O1 := Lib.hid hO
  have B1 := Lib.hid (HW.out.trans hb)
  clear hO hb HG HW
  go_wp2
  go_loopw [0, 14] (fun s0 s1 wr => ∃ (i : Nat) (v' : Value), i ≤ n ∧ s1 = .int .i64 (i : Nat) ∧ s0 = v' ∧ OwnB wr W.heap.size v' (A ++ grp n ++ (L.take i).flatMap by4) ∧ Below W.heap.size W wr) (fun _ s _ => n - (intOf s).toNat)
  case atStart => exact ⟨0, v1, Nat.zero_le _, rfl, rfl, by simpa using O1.out, B1.out⟩
  case round =>
    clear O1 B1
    obtain ⟨i, v', hi, rfl, rfl, ho, hb⟩ := hrel
    have OO := Lib.hid ho
    have BB := Lib.hid hb
    have sz := Lib.hid hb.size
    clear ho hb
    by_cases hlt : i < n
    · obtain ⟨b, off, ea, hbl, hcs⟩ := (HS.out.below BB.out).at (by omega)
      subst ea
      have k0 := hcs i hlt
      have hx := HS.out.2.2.2.1 (L.getD i 0) (by
        have e : L.getD i 0 = L[i]'(by rw [HLN.out]; exact hlt) := by simp [HLN.out, hlt]
        rw [e]
        exact List.getElem_mem _)
      have et := Lib.hid (take_by4 (L := L) (i := i) (by rw [HLN.out]; exact hlt))
      obtain ⟨x, ex⟩ : ∃ x, L.getD i 0 = x := ⟨_, rfl⟩
      rw [ex] at k0 hx et
      obtain ⟨hx0, hx1⟩ := hx
      have LT := Lib.hid (show ((L.take i).flatMap by4).length = i * 4 by rw [by4_len, List.length_take, HLN.out, Nat.min_eq_left hi])
      clear hcs ex hbl
      go_wp2_with (at_builtin; refine wpList_append_bs rfl (.tmp 18) (.tmp 30) 22 22 rfl Tryd.underlying22 W.heap.size _ _ rfl (OO.out.below (Below.newBlock _)) _ 4 (by4 x) rfl (four_src _ _) rfl (by rw [List.length_append, List.length_append, LT.out]; have := G10.out; omega) (by rw [World.size_alloc]; have := sz.out; omega) ?_; intro v2 w2 hO2 hB2; have O2 := Lib.hid hO2; have B2 := Lib.hid ((BB.out.alloc sz.out _).trans hB2); clear hO2 hB2)
      go_roundw
      case rel => exact ⟨i + 1, v2, by omega, by go_num, rfl, by rw [et.out, ← List.append_assoc]; exact O2.out, B2.out⟩
      case measure => simp [intOf]; omega
    · obtain rfl : i = n := by omega
      go_wp2
      refine bodyPost_ret (results_tmp rfl _ _ _) rfl ?_
      refine ⟨_, rfl, ?_, BB.out⟩
      have := OO.out
      rw [List.take_of_length_le (by rw [HLN.out]; exact Nat.le_refl _)] at this
      unfold nb
      rw [HLN.out, ← List.append_assoc]
      exact this
set_option maxHeartbeats 2000000 in
set_option maxRecDepth 100000 in
theorem appendNat_c (a0 : Option Addr) (n0 c0 : Nat) (A : List Int) (a : Option Addr) (n c : Nat) (L : List Int) (w : World) (h0 : SlB w a0 n0 c0 A) (hs : SlW w a n c L) (hn0 : n0 ≤ 3000) (hn : n ≤ 1000) :
    Calls Tryd.prog 17 #[.slice a0 n0 c0, .slice a n c] w fun e w' => Gives w (A ++ nb L) e w' := by
  have H0 := Lib.hid h0
  have g10 := Lib.hid (nb_len (L := L) (by rw [hs.1]; exact hn))
  have HC := Lib.hid (limbs_c w _ [] a n c L w (OwnB.nil _ _) (Below.refl _ _) hs (by simp) hn)
  clear h0 hs
  go_enter Tryd.func17, Tryd.ntmps17
  go_wp2_with fail
  refine HC.out.mono ?_
  rintro e w1 ⟨v, rfl, hO, hb⟩
  rw [List.nil_append] at hO
  obtain ⟨a, c, rfl⟩ := hO.slice
  have B1 := Lib.hid hb
  have S1 := Lib.hid (hO.sl rfl)
  clear hO hb HC
  go_wp2_with fail
  refine (extend_c a0 n0 c0 A a _ c (nb L) w1 (H0.out.below B1.out) S1.out (by have := g10.out; omega)).mono ?_
  rintro e w2 ⟨v, rfl, hO, hb⟩
  have O2 := Lib.hid (hO.le B1.out.size)
  have B2 := Lib.hid (B1.out.trans (hb.mono B1.out.size))
  clear hO hb
  go_wp2
  refine bodyPost_ret (results_tmp rfl _ _ _) rfl ?_
  exact ⟨_, rfl, O2.out, B2.out⟩

end Go.Proofs.YtcdkehghdhcokaaDoor.wr
