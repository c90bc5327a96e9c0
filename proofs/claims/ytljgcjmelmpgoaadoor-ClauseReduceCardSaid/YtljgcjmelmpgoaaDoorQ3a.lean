/- Literals are compared. -/
import Derived.Test.YtljgcjmelmpgoaaDoorQ2
import Derived.Laws.StructEq
namespace Go.Proofs.YtljgcjmelmpgoaaDoor
open Go.RowKit
set_option linter.unusedVariables false

theorem eqg30 : Tryd.prog.eqGuardType Tryd.prog.depth 30 = false := by kernel_rfl
theorem sth30 : Tryd.prog.stoodInHeld 30 = false := by kernel_rfl
theorem und30 : Tryd.prog.underlying 30 = some (.struct (Tryd.prog.fieldsOf 30)) := by kernel_rfl
theorem lit_eql (w : World) (u v : Int) (o q : Bool) : (binOp .eql 30 (.agg #[.int .i64 u, .bool o]) (.agg #[.int .i64 v, .bool q])).run Tryd.prog w = .ok (.bool (decide (((u, o) : Int × Bool) = (v, q)))) w := by
  rw [run_eql_struct, run_equalIn_agg w 9999 30 _ _ und30 sth30]
  have e : decide (((u, o) : Int × Bool) = (v, q)) = (u == v && o == q) := by
    rw [Bool.eq_iff_iff]; simp
  rw [e]
  cases h : (u == v)
  · simp [Op.eqFields, go_sem, h]
  · simp [Op.eqFields, go_sem, h]
    cases o <;> cases q <;> simp
theorem lit_neq (w : World) (u v : Int) (o q : Bool) : (binOp .neq 30 (.agg #[.int .i64 u, .bool o]) (.agg #[.int .i64 v, .bool q])).run Tryd.prog w = .ok (.bool (!decide (((u, o) : Int × Bool) = (v, q)))) w := by
  rw [run_neq_struct, run_equalIn_agg w 9999 30 _ _ und30 sth30]
  have e : decide (((u, o) : Int × Bool) = (v, q)) = (u == v && o == q) := by
    rw [Bool.eq_iff_iff]; simp
  rw [e]
  cases h : (u == v)
  · simp [Op.eqFields, go_sem, h]
  · simp [Op.eqFields, go_sem, h]
    cases o <;> cases q <;> simp
/-- the test's own fact, for a walk -/
theorem lit_eq_yes {u v : Int} {o q : Bool} (h : ((u, o) : Int × Bool) = (v, q)) (w : World) : (binOp .eql 30 (.agg #[.int .i64 u, .bool o]) (.agg #[.int .i64 v, .bool q])).run Tryd.prog w = .ok (.bool true) w := by rw [lit_eql, decide_eq_true h]
theorem lit_eq_no {u v : Int} {o q : Bool} (h : ((u, o) : Int × Bool) ≠ (v, q)) (w : World) : (binOp .eql 30 (.agg #[.int .i64 u, .bool o]) (.agg #[.int .i64 v, .bool q])).run Tryd.prog w = .ok (.bool false) w := by rw [lit_eql, decide_eq_false h]
theorem lit_ne_yes {u v : Int} {o q : Bool} (h : ((u, o) : Int × Bool) = (v, q)) (w : World) : (binOp .neq 30 (.agg #[.int .i64 u, .bool o]) (.agg #[.int .i64 v, .bool q])).run Tryd.prog w = .ok (.bool false) w := by rw [lit_neq, decide_eq_true h]; rfl
theorem lit_ne_no {u v : Int} {o q : Bool} (h : ((u, o) : Int × Bool) ≠ (v, q)) (w : World) : (binOp .neq 30 (.agg #[.int .i64 u, .bool o]) (.agg #[.int .i64 v, .bool q])).run Tryd.prog w = .ok (.bool true) w := by rw [lit_neq, decide_eq_false h]; rfl

end Go.Proofs.YtljgcjmelmpgoaaDoor
