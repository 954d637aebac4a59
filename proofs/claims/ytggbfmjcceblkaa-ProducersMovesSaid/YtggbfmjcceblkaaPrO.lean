/-
  Proved here: ProducersMoves returns true for every two tables and every two lists they are moved by, and its argument reads afterwards as before. Conditions: none.
-/
import Derived.Test.YtggbfmjcceblkaaPrM
import Derived.Test.YtggbfmjcceblkaaDaM
import Derived.Test.YtggbfmjcceblkaaLaw
namespace Go.Proofs.Ytggbfmjcceblkaa
open Go.ChangeShapes Go.WideShapes Go.ChangeAt Go.RowKit
theorem producersMovesAll : Ty.alls [.st (.pair (.sl 32 (.st (.pair (.int .u64) (.pair (.int .u64) (.pair .bool (.pair (.int .u64) .unit)))))) (.pair (.sl 32 (.st (.pair (.int .u64) (.pair (.int .u64) (.pair .bool (.pair (.int .u64) .unit)))))) (.pair (.sl 8 (.int .u64)) (.pair (.sl 8 (.int .u64)) .unit))))] fun xs => FC Try.prog 5 [] xs ⟨[], [], .im (.val (.bool true))⟩ := by
  obtain ⟨fu, hfu⟩ : ∃ fu : Nat, 9223372036854775807 * 9223372036854775807 < fu := ⟨_, Nat.lt_succ_self _⟩
  exact law_of (by rfl) (g5 fu) (fun (x : List Pr × List Pr × List Int × List Int) hx => by
    obtain ⟨a, b, ta, tb⟩ := x
    have hA : a.length * 32 ≤ 140737488351232 := hx.1.1
    have hB : b.length * 32 ≤ 140737488351232 := hx.2.1.1
    have hT : ta.length ≤ 9223372036854775807 := hx.2.2.1.2.1
    have hU : tb.length ≤ 9223372036854775807 := hx.2.2.2.2.1
    exact p5_is a b ta tb (fun z hz => (hx.1.2.2 z hz).2.2.2.1) (fun z hz => (hx.2.1.2.2 z hz).2.2.2.1) hA hB hT hU (by omega))

set_option maxRecDepth 100000 in
theorem producersMoves_lifted (os : Os) (started : os.Started) (H : Type) (enc : TypeId × Value → H) :
    ReturnsInHanded {} Try.checked os 5 .any (Rows.producersMovesSpec.pre6 enc Try.prog Try.f5 Rows.producersMovesRow.domain false) (Rows.producersMovesSpec.post enc Try.prog Try.f5 false true false false) :=
  law_lifted (C := Try.checked) ownK laidOut started (by kernel_rfl) Try.func5
    (ChangeSpec.witness6 (enc := enc) (C := Try.checked) false ⟨#[], #[.agg #[.slice none 0 0, .slice none 0 0, .slice none 0 0, .slice none 0 0]], []⟩ 8 (by kernel_rfl) (by kernel_rfl) (by kernel_rfl) (by kernel_rfl))
    rfl rfl Try.underlying4 (of_decide_eq_true (by kernel_rfl)) (fun l hl => by match l, hl with | [_], _ => rfl)
    [.st (.pair (.sl 32 (.st (.pair (.int .u64) (.pair (.int .u64) (.pair .bool (.pair (.int .u64) .unit)))))) (.pair (.sl 32 (.st (.pair (.int .u64) (.pair (.int .u64) (.pair .bool (.pair (.int .u64) .unit)))))) (.pair (.sl 8 (.int .u64)) (.pair (.sl 8 (.int .u64)) .unit))))] rfl (by kernel_rfl) producersMovesAll

theorem producersMoves_holds : Rows.ProducersMovesSaid :=
  OpenClaim.holds_of_wide 5 Try.f5 rfl rfl rfl rfl rfl rfl rfl ⟨rfl, rfl, rfl, rfl, rfl⟩ rfl rfl rfl rfl rfl (by kernel_rfl) Try.func5 (by kernel_rfl)
    (of_decide_eq_true (by kernel_rfl)) (by unfold Func.isWrapper; first | (rw [if_pos (by decide +kernel)]; kernel_rfl) | (rw [if_neg (by decide +kernel)]; exact ⟨rfl, rfl⟩))
    (fun os started H enc _ => producersMoves_lifted os started H enc)
#print axioms producersMoves_holds
end Go.Proofs.Ytggbfmjcceblkaa
