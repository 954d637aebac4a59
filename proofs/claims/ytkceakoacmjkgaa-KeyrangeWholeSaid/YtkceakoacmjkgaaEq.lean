/-
  What '==' says of two ranges, and of two bounds.
-/
import Derived.Test.YtkceakoacmjkgaaLaw
import Derived.Laws.StructEq
import Derived.KernelRfl
namespace Go.Proofs.Ytkceakoacmjkgaa
open Go.RowKit

theorem eqRange (a b c d : ByteArray) (w : World) : (Op.equalIn 10000 24 (.agg #[.string a, .string b]) (.agg #[.string c, .string d])).run Try.prog w = .ok (a.toList == c.toList && b.toList == d.toList) w := by
  have u9 := Try.underlying9
  have a9 := Try.isAgg9
  have z9 := Try.sizeOf9
  have hS : Try.prog.underlying 24 = some (.struct (Try.prog.fieldsOf 24)) := by kernel_rfl
  have hp : Try.prog.stoodInHeld 24 = false := by kernel_rfl
  rw [show (10000 : Nat) = 9999 + 1 from rfl, run_equalIn_agg w 9999 24 _ _ hS hp]
  simp only [Program.fieldsOf, Try.underlying24]
  go_simp
  by_cases h1 : a.toList = c.toList <;> by_cases h2 : b.toList = d.toList <;> simp [h1, h2]

theorem eqBound (a c : ByteArray) (x y : Bool) (w : World) : (Op.equalIn 10000 47 (.agg #[.string a, .bool x]) (.agg #[.string c, .bool y])).run Try.prog w = .ok (a.toList == c.toList && x == y) w := by
  have u9 := Try.underlying9
  have a9 := Try.isAgg9
  have z9 := Try.sizeOf9
  have u4 := Try.underlying4
  have a4 := Try.isAgg4
  have z4 := Try.sizeOf4
  have hS : Try.prog.underlying 47 = some (.struct (Try.prog.fieldsOf 47)) := by kernel_rfl
  have hp : Try.prog.stoodInHeld 47 = false := by kernel_rfl
  rw [show (10000 : Nat) = 9999 + 1 from rfl, run_equalIn_agg w 9999 47 _ _ hS hp]
  simp only [Program.fieldsOf, Try.underlying47]
  go_simp
  by_cases h1 : a.toList = c.toList <;> cases x <;> cases y <;> simp [h1]

theorem neqRange_is (a b c d : ByteArray) (v : Bool) (h : (!(a.toList == c.toList && b.toList == d.toList)) = v) (w : World) : (binOp .neq 24 (.agg #[.string a, .string b]) (.agg #[.string c, .string d])).run Try.prog w = .ok (.bool v) w := by
  rw [run_neq_struct, eqRange, ← h]; rfl
theorem eqlRange_is (a b c d : ByteArray) (v : Bool) (h : (a.toList == c.toList && b.toList == d.toList) = v) (w : World) : (binOp .eql 24 (.agg #[.string a, .string b]) (.agg #[.string c, .string d])).run Try.prog w = .ok (.bool v) w := by
  rw [run_eql_struct, eqRange, ← h]; rfl
theorem neqBound_is (a c : ByteArray) (x y v : Bool) (h : (!(a.toList == c.toList && x == y)) = v) (w : World) : (binOp .neq 47 (.agg #[.string a, .bool x]) (.agg #[.string c, .bool y])).run Try.prog w = .ok (.bool v) w := by
  rw [run_neq_struct, eqBound, ← h]; rfl

theorem fieldBound (k : ByteArray) (x : Bool) (w : World) : (Instr.field 47 (.agg #[.string k, .bool x]) 1).run Try.prog w = .ok (.bool x) w := by kernel_rfl
end Go.Proofs.Ytkceakoacmjkgaa
