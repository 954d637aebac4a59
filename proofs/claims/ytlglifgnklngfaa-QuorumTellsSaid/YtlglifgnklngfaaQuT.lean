/-
  Proved here: QuorumTells returns true for every three lists, and its arguments read afterwards as before. Conditions: none.
-/
import Derived.Test.YtlglifgnklngfaaQuL
import Derived.Test.YtlglifgnklngfaaDaM
import Derived.Test.YtlglifgnklngfaaLaw
namespace Go.Proofs.Ytlglifgnklngfaa
open Go.ChangeShapes Go.WideShapes Go.ChangeAt Go.RowKit
theorem quorumTellsAll : Ty.alls [.sl 8 (.int .i64), .sl 8 (.int .i64), .sl 16 (.st (.pair (.int .i64) (.pair .bool .unit)))] fun xs => FC Try.prog 3 [] xs ⟨[], [], .im (.val (.bool true))⟩ := by
  obtain ⟨fu, hfu⟩ : ∃ fu : Nat, 9223372036854775807 * 9223372036854775807 < fu := ⟨_, Nat.lt_succ_self _⟩
  exact law_of (by rfl) (g3 fu) (fun (a : List Int) ha (c : List Int) hc (f : List Ba) hf => by
    have hA : a.length * 8 ≤ 140737488351232 := ha.1
    exact p3_is a c f (by omega) hc.2.1 hf.2.1 (by have h2 : c.length ≤ 9223372036854775807 := hc.2.1; have h3 : f.length ≤ 9223372036854775807 := hf.2.1; omega))

set_option maxRecDepth 100000 in
theorem quorumTells_lifted (os : Os) (started : os.Started) (H : Type) (enc : TypeId × Value → H) :
    ReturnsInHanded {} Try.checked os 3 .any (Rows.quorumTellsSpec.pre6 enc Try.prog Try.f3 Rows.quorumTellsRow.domain false) (Rows.quorumTellsSpec.post enc Try.prog Try.f3 false true false false) :=
  law_lifted (C := Try.checked) ownK laidOut started (by kernel_rfl) Try.func3
    (ChangeSpec.witness6 (enc := enc) (C := Try.checked) false ⟨#[], #[.slice none 0 0, .slice none 0 0, .slice none 0 0], []⟩ 8 (by kernel_rfl) (by kernel_rfl) (by kernel_rfl) (by kernel_rfl))
    rfl rfl Try.underlying4 (of_decide_eq_true (by kernel_rfl)) (fun l hl => by match l, hl with | [_, _, _], _ => rfl)
    [.sl 8 (.int .i64), .sl 8 (.int .i64), .sl 16 (.st (.pair (.int .i64) (.pair .bool .unit)))] rfl (by kernel_rfl) quorumTellsAll

theorem quorumTells_holds : Rows.QuorumTellsSaid :=
  OpenClaim.holds_of_wide 3 Try.f3 rfl rfl rfl rfl rfl rfl rfl ⟨rfl, rfl, rfl, rfl, rfl⟩ rfl rfl rfl rfl rfl (by kernel_rfl) Try.func3 (by kernel_rfl)
    (of_decide_eq_true (by kernel_rfl)) (by unfold Func.isWrapper; first | (rw [if_pos (by decide +kernel)]; kernel_rfl) | (rw [if_neg (by decide +kernel)]; exact ⟨rfl, rfl⟩))
    (fun os started H enc _ => quorumTells_lifted os started H enc)
#print axioms quorumTells_holds
end Go.Proofs.Ytlglifgnklngfaa
