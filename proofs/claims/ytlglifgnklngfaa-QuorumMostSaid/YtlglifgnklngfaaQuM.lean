/-
  Proved here: QuorumMost returns true for every number. Conditions: none.
-/
import Derived.Test.YtlglifgnklngfaaQuL
import Derived.Test.YtlglifgnklngfaaDaM
import Derived.Test.YtlglifgnklngfaaLaw
namespace Go.Proofs.Ytlglifgnklngfaa
open Go.ChangeShapes Go.WideShapes Go.ChangeAt Go.RowKit
theorem quorumMostAll : Ty.alls [.int .i64] fun xs => FC Try.prog 4 [] xs ⟨[], [], .im (.val (.bool true))⟩ := by
  obtain ⟨fu, hfu⟩ : ∃ fu : Nat, 9223372036854775807 * 9223372036854775807 < fu := ⟨_, Nat.lt_succ_self _⟩
  exact law_of (by rfl) (g4 fu) (fun (a : Int) _ => p4_is a (by omega))

set_option maxRecDepth 100000 in
theorem quorumMost_lifted (os : Os) (started : os.Started) (H : Type) (enc : TypeId × Value → H) :
    ReturnsInHanded {} Try.checked os 4 .any (Rows.quorumMostSpec.pre6 enc Try.prog Try.f4 Rows.quorumMostRow.domain false) (Rows.quorumMostSpec.post enc Try.prog Try.f4 false true false false) :=
  law_lifted (C := Try.checked) ownK laidOut started (by kernel_rfl) Try.func4
    (ChangeSpec.witness6 (enc := enc) (C := Try.checked) false ⟨#[], #[.int .i64 0], []⟩ 8 (by kernel_rfl) (by kernel_rfl) (by kernel_rfl) (by kernel_rfl))
    rfl rfl Try.underlying4 (of_decide_eq_true (by kernel_rfl)) (fun l hl => by match l, hl with | [_], _ => rfl)
    [.int .i64] rfl (by kernel_rfl) quorumMostAll

theorem quorumMost_holds : Rows.QuorumMostSaid :=
  OpenClaim.holds_of_wide 4 Try.f4 rfl rfl rfl rfl rfl rfl rfl ⟨rfl, rfl, rfl, rfl, rfl⟩ rfl rfl rfl rfl rfl (by kernel_rfl) Try.func4 (by kernel_rfl)
    (of_decide_eq_true (by kernel_rfl)) (by unfold Func.isWrapper; first | (rw [if_pos (by decide +kernel)]; kernel_rfl) | (rw [if_neg (by decide +kernel)]; exact ⟨rfl, rfl⟩))
    (fun os started H enc _ => quorumMost_lifted os started H enc)
#print axioms quorumMost_holds
end Go.Proofs.Ytlglifgnklngfaa
