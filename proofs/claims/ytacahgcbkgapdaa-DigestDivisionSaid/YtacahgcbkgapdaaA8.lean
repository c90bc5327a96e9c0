/- New; the padding, plain; messages. -/
import Derived.Test.YtacahgcbkgapdaaA7
namespace Go.Proofs.Ytacahgcbkgapdaa
open Go.RowKit
set_option linter.unusedVariables false

def init : List Int := [1779033703, 3144134277, 1013904242, 2773480762, 1359893119, 2600822924, 528734635, 1541459225]
theorem init_len : init.length = 8 := rfl
/-- block H is a hash to which m was written -/
def HMsg (w : World) (H : Nat) (m : List Int) : Prop := HAt w H (runB init m).1 (runB init m).2 m.length
theorem HMsg.below {w w' : World} {H : Nat} {m : List Int} {B : Nat} (h : HMsg w H m) (hb : Below B w w') (hlt : H < B) : HMsg w' H m := HAt.below h hb hlt
theorem HMsg.lt {w : World} {H : Nat} {m : List Int} (h : HMsg w H m) : H < w.heap.size := HAt.lt h
theorem hcells_new (w : World) : HMsg (w.alloc (.cells (hcells init (List.replicate 64 0) 0 0).toArray 41)) w.heap.size [] := by
  unfold HMsg
  rw [runB_short (by simp)]
  exact ⟨rfl, by simp, List.replicate 64 0, by simp, rfl, Row.new w 41 _⟩
set_option maxHeartbeats 1000000 in
set_option maxRecDepth 100000 in
theorem new_c (w : World) : Calls Try.prog 12 #[] w fun e w' => e = .returned (.pointer (some ⟨w.heap.size, 0, none⟩)) ∧ w' = w.alloc (.cells (hcells init (List.replicate 64 0) 0 0).toArray 41) := by
  go_enter Try.func12, Try.ntmps12
  go_upto_region 1 with fail
  go_step
  iterate 3 (first | go_step | go_back)
  refine wpList_buildTo rfl 41 _ rfl (some 2) rfl (hcells init (List.replicate 64 0) 0 0).toArray (by kernel_rfl) ?_
  go_wp2
  go_ret
  exact ⟨rfl, rfl⟩
/-- writing: the message grows -/
theorem write_msg (H b off n cap : Nat) (ad : Option Addr) (m l : List Int) (w : World) (hl : l.length = n) (hn : n ≤ cap) (hc : cap ≤ 9223372036854775807) (hm : (m.length : Int) + n ≤ 1099511627776) (hbH : b ≠ H)
    (hh : HMsg w H m) (had : 0 < n → ad = some ⟨b, off, none⟩) (hby : ∀ i, i < n → w.cell? ⟨b, off + i, none⟩ = some (.int .u8 (l.getD i 0))) :
    Calls Try.prog 13 #[.pointer (some ⟨H, 0, none⟩), .slice ad n cap] w fun e w' => e = .returned (.tuple #[]) ∧ HMsg w' H (m ++ l) ∧ w.grownBy w' (some H) := by
  refine (write_c H b off n cap ad _ _ l _ w hl hn hc (by omega) hm hbH hh had hby).mono ?_
  rintro e w' ⟨rfl, h, hg⟩
  refine ⟨rfl, ?_, hg⟩
  unfold HMsg
  rw [← runB_append]
  rw [show ((m ++ l).length : Int) = (m.length : Int) + n by simp [hl]]
  exact h
theorem runB_mod (st l : List Int) : (runB st l).2.length = l.length % 64 := by
  induction st, l using runB.induct with
  | case1 st l h ih => rw [runB_long h, ih]; simp; omega
  | case2 st l h => rw [runB_short (by omega)]; simp; omega
/-- how many zeros are put behind the one -/
def zs (n : Nat) : Nat := (119 - n % 64) % 64
/-- byte number i of the length in bits -/
def szb (x : Int) (i : Nat) : Int := x / 2 ^ (56 - 8 * i) % 256
def sz8 (x : Int) : List Int := (List.range 8).map (szb x)
/-- the message, padded -/
def padded (m : List Int) : List Int := m ++ [128] ++ List.replicate (zs m.length) 0 ++ sz8 (m.length * 8)
theorem padded_len (m : List Int) : (padded m).length % 64 = 0 := by
  simp [padded, sz8, zs]; omega
/-- the bytes of a word -/
def wb (x : Int) : List Int := [x / 16777216 % 256, x / 65536 % 256, x / 256 % 256, x % 256]
def outB (st : List Int) : List Int := (st.map wb).flatten
theorem outB_len (st : List Int) : (outB st).length = 4 * st.length := by
  unfold outB
  induction st with
  | nil => rfl
  | cons x st ih => simp [wb] at ih ⊢; omega
/-- the digest -/
def dig (m : List Int) : List Int := outB (runB init (padded m)).1
theorem dig_len (m : List Int) : (dig m).length = 32 := by
  unfold dig; rw [outB_len, runB_state]; rfl
theorem info41 : (Try.prog.info? 41).map (·.size) = some 74 := by kernel_rfl
theorem info24 : (Try.prog.info? 24).map (·.size) = some 32 := by kernel_rfl
theorem hcells_len {st B : List Int} {u t : Int} (hs : st.length = 8) (hb : B.length = 64) : (hcells st B u t).length = 74 := by simp [hcells, hs, hb]
theorem hcells_one {st B : List Int} {u t : Int} : ∀ v ∈ hcells st B u t, v.oneCell' = true := fun v hv => by
  simp only [hcells, vals, List.mem_append, List.mem_map, List.mem_cons, List.not_mem_nil, or_false] at hv
  rcases hv with (⟨x, _, rfl⟩ | ⟨x, _, rfl⟩) | rfl | rfl <;> rfl

end Go.Proofs.Ytacahgcbkgapdaa
