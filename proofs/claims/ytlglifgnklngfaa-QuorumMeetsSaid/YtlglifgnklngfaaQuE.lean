/-
  Proved here: QuorumMeets returns true for every three lists of nodes and every node, and its arguments read afterwards as before. Conditions: none.
-/
import Derived.Test.YtlglifgnklngfaaQuL
import Derived.Test.YtlglifgnklngfaaDaM
import Derived.Test.YtlglifgnklngfaaLaw
namespace Go.Proofs.Ytlglifgnklngfaa
open Go.ChangeShapes Go.WideShapes Go.ChangeAt Go.RowKit
theorem quorumMeetsAll : Ty.alls [.sl 8 (.int .i64), .int .i64, .sl 8 (.int .i64), .sl 8 (.int .i64)] fun xs => FC Try.prog 6 [] xs ⟨[], [], .im (.val (.bool true))⟩ := by
  obtain ⟨fu, hfu⟩ : ∃ fu : Nat, 9223372036854775807 * 9223372036854775807 < fu := ⟨_, Nat.lt_succ_self _⟩
  exact law_of (by rfl) (g6 fu) (fun (a : List Int) ha (c : Int) _ (f : List Int) hf (h : List Int) hh => by
    have hA : a.length * 8 ≤ 140737488351232 := ha.1
    exact p6_is a c f h (by omega) hf.2.1 hh.2.1 (by have h2 : f.length ≤ 9223372036854775807 := hf.2.1; have h3 : h.length ≤ 9223372036854775807 := hh.2.1; omega))

set_option maxRecDepth 100000 in
theorem quorumMeets_lifted (os : Os) (started : os.Started) (H : Type) (enc : TypeId × Value → H) :
    ReturnsInHanded {} Try.checked os 6 .any (Rows.quorumMeetsSpec.pre6 enc Try.prog Try.f6 Rows.quorumMeetsRow.domain false) (Rows.quorumMeetsSpec.post enc Try.prog Try.f6 false true false false) :=
  law_lifted (C := Try.checked) ownK laidOut started (by kernel_rfl) Try.func6
    (ChangeSpec.witness6 (enc := enc) (C := Try.checked) false ⟨#[], #[.slice none 0 0, .int .i64 0, .slice none 0 0, .slice none 0 0], []⟩ 8 (by kernel_rfl) (by kernel_rfl) (by kernel_rfl) (by kernel_rfl))
    rfl rfl Try.underlying4 (of_decide_eq_true (by kernel_rfl)) (fun l hl => by match l, hl with | [_, _, _, _], _ => rfl)
    [.sl 8 (.int .i64), .int .i64, .sl 8 (.int .i64), .sl 8 (.int .i64)] rfl (by kernel_rfl) quorumMeetsAll

theorem quorumMeets_holds : Rows.QuorumMeetsSaid :=
  OpenClaim.holds_of_wide 6 Try.f6 rfl rfl rfl rfl rfl rfl rfl ⟨rfl, rfl, rfl, rfl, rfl⟩ rfl rfl rfl rfl rfl (by kernel_rfl) Try.func6 (by kernel_rfl)
    (of_decide_eq_true (by kernel_rfl)) (by unfold Func.isWrapper; first | (rw [if_pos (by decide +kernel)]; kernel_rfl) | (rw [if_neg (by decide +kernel)]; exact ⟨rfl, rfl⟩))
    (fun os started H enc _ => quorumMeets_lifted os started H enc)
#print axioms quorumMeets_holds
end Go.Proofs.Ytlglifgnklngfaa
