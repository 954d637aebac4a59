/-
  Proved here: ProducersApart returns true for every two lists of numbers, and its arguments read afterwards as before. Conditions: none.
-/
import Derived.Test.YtggbfmjcceblkaaPrJ
import Derived.Test.YtggbfmjcceblkaaDaM
import Derived.Test.YtggbfmjcceblkaaLaw
namespace Go.Proofs.Ytggbfmjcceblkaa
open Go.ChangeShapes Go.WideShapes Go.ChangeAt Go.RowKit
theorem producersApartAll : Ty.alls [.sl 24 (.st (.pair (.int .u64) (.pair (.int .u64) (.pair (.int .u64) .unit)))), .sl 24 (.st (.pair (.int .u64) (.pair (.int .u64) (.pair (.int .u64) .unit))))] fun xs => FC Try.prog 8 [] xs ⟨[], [], .im (.val (.bool true))⟩ := by
  obtain ⟨fu, hfu⟩ : ∃ fu : Nat, 9223372036854775807 * 9223372036854775807 < fu := ⟨_, Nat.lt_succ_self _⟩
  exact law_of (by rfl) (g8 fu) (fun (a : List Nu) ha (b : List Nu) hb => by
    have hA : a.length * 24 ≤ 140737488351232 := ha.1
    have hB : b.length * 24 ≤ 140737488351232 := hb.1
    exact p8_is a b hA hB (by omega))

set_option maxRecDepth 100000 in
theorem producersApart_lifted (os : Os) (started : os.Started) (H : Type) (enc : TypeId × Value → H) :
    ReturnsInHanded {} Try.checked os 8 .any (Rows.producersApartSpec.pre6 enc Try.prog Try.f8 Rows.producersApartRow.domain false) (Rows.producersApartSpec.post enc Try.prog Try.f8 false true false false) :=
  law_lifted (C := Try.checked) ownK laidOut started (by kernel_rfl) Try.func8
    (ChangeSpec.witness6 (enc := enc) (C := Try.checked) false ⟨#[], #[.slice none 0 0, .slice none 0 0], []⟩ 8 (by kernel_rfl) (by kernel_rfl) (by kernel_rfl) (by kernel_rfl))
    rfl rfl Try.underlying4 (of_decide_eq_true (by kernel_rfl)) (fun l hl => by match l, hl with | [_, _], _ => rfl)
    [.sl 24 (.st (.pair (.int .u64) (.pair (.int .u64) (.pair (.int .u64) .unit)))), .sl 24 (.st (.pair (.int .u64) (.pair (.int .u64) (.pair (.int .u64) .unit))))] rfl (by kernel_rfl) producersApartAll

theorem producersApart_holds : Rows.ProducersApartSaid :=
  OpenClaim.holds_of_wide 8 Try.f8 rfl rfl rfl rfl rfl rfl rfl ⟨rfl, rfl, rfl, rfl, rfl⟩ rfl rfl rfl rfl rfl (by kernel_rfl) Try.func8 (by kernel_rfl)
    (of_decide_eq_true (by kernel_rfl)) (by unfold Func.isWrapper; first | (rw [if_pos (by decide +kernel)]; kernel_rfl) | (rw [if_neg (by decide +kernel)]; exact ⟨rfl, rfl⟩))
    (fun os started H enc _ => producersApart_lifted os started H enc)
#print axioms producersApart_holds
end Go.Proofs.Ytggbfmjcceblkaa
