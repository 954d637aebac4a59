/-
  Proved here: ProducersTables returns true for every list of producers and every list of numbers, and its arguments read afterwards as before. Conditions: none.
-/
import Derived.Test.YtggbfmjcceblkaaPrM
import Derived.Test.YtggbfmjcceblkaaDaM
import Derived.Test.YtggbfmjcceblkaaLaw
namespace Go.Proofs.Ytggbfmjcceblkaa
open Go.ChangeShapes Go.WideShapes Go.ChangeAt Go.RowKit
theorem producersTablesAll : Ty.alls [.sl 32 (.st (.pair (.int .u64) (.pair (.int .u64) (.pair .bool (.pair (.int .u64) .unit))))), .sl 24 (.st (.pair (.int .u64) (.pair (.int .u64) (.pair (.int .u64) .unit))))] fun xs => FC Try.prog 4 [] xs ⟨[], [], .im (.val (.bool true))⟩ := by
  obtain ⟨fu, hfu⟩ : ∃ fu : Nat, 9223372036854775807 * 9223372036854775807 < fu := ⟨_, Nat.lt_succ_self _⟩
  exact law_of (by rfl) (g4 fu) (fun (l : List Pr) hl (n : List Nu) hn => by
    have hA : l.length * 32 ≤ 140737488351232 := hl.1
    have hN : n.length * 24 ≤ 140737488351232 := hn.1
    exact p4_is l n hA hN (by omega))

set_option maxRecDepth 100000 in
theorem producersTables_lifted (os : Os) (started : os.Started) (H : Type) (enc : TypeId × Value → H) :
    ReturnsInHanded {} Try.checked os 4 .any (Rows.producersTablesSpec.pre6 enc Try.prog Try.f4 Rows.producersTablesRow.domain false) (Rows.producersTablesSpec.post enc Try.prog Try.f4 false true false false) :=
  law_lifted (C := Try.checked) ownK laidOut started (by kernel_rfl) Try.func4
    (ChangeSpec.witness6 (enc := enc) (C := Try.checked) false ⟨#[], #[.slice none 0 0, .slice none 0 0], []⟩ 8 (by kernel_rfl) (by kernel_rfl) (by kernel_rfl) (by kernel_rfl))
    rfl rfl Try.underlying4 (of_decide_eq_true (by kernel_rfl)) (fun l hl => by match l, hl with | [_, _], _ => rfl)
    [.sl 32 (.st (.pair (.int .u64) (.pair (.int .u64) (.pair .bool (.pair (.int .u64) .unit))))), .sl 24 (.st (.pair (.int .u64) (.pair (.int .u64) (.pair (.int .u64) .unit))))] rfl (by kernel_rfl) producersTablesAll

theorem producersTables_holds : Rows.ProducersTablesSaid :=
  OpenClaim.holds_of_wide 4 Try.f4 rfl rfl rfl rfl rfl rfl rfl ⟨rfl, rfl, rfl, rfl, rfl⟩ rfl rfl rfl rfl rfl (by kernel_rfl) Try.func4 (by kernel_rfl)
    (of_decide_eq_true (by kernel_rfl)) (by unfold Func.isWrapper; first | (rw [if_pos (by decide +kernel)]; kernel_rfl) | (rw [if_neg (by decide +kernel)]; exact ⟨rfl, rfl⟩))
    (fun os started H enc _ => producersTables_lifted os started H enc)
#print axioms producersTables_holds
end Go.Proofs.Ytggbfmjcceblkaa
