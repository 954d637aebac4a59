/-
  Proved here: QuorumOrder returns true for every two lists of nodes and every list of peers, and its arguments read afterwards as before. Conditions: none.
-/
import Derived.Test.YtlglifgnklngfaaQcL
import Derived.Test.YtlglifgnklngfaaDaM
import Derived.Test.YtlglifgnklngfaaLaw
namespace Go.Proofs.Ytlglifgnklngfaa
open Go.ChangeShapes Go.WideShapes Go.ChangeAt Go.RowKit
theorem quorumOrderAll : Ty.alls [.sl 8 (.int .i64), .sl 8 (.int .i64), .sl 24 (.st (.pair (.int .i64) (.pair (.int .u64) (.pair (.int .u64) .unit))))] fun xs => FC Try.prog 9 [] xs ⟨[], [], .im (.val (.bool true))⟩ := by
  obtain ⟨fu, hfu⟩ : ∃ fu : Nat, 9223372036854775807 * 9223372036854775807 < fu := ⟨_, Nat.lt_succ_self _⟩
  exact law_of (by rfl) (g9 fu) (fun (a : List Int) ha (b : List Int) hb (c : List Pe) hc => by
    have hA : a.length * 8 ≤ 140737488351232 := ha.1
    have hB : b.length * 8 ≤ 140737488351232 := hb.1
    have hC : c.length * 24 ≤ 140737488351232 := hc.1
    have hN : ∀ p : Pe, p ∈ c → 0 ≤ p.2.2 := fun p hp => (hc.2.2 p hp).2.2.1
    exact p9_is a b c (by omega) (by omega) (by omega) hN (by omega))

set_option maxRecDepth 100000 in
theorem quorumOrder_lifted (os : Os) (started : os.Started) (H : Type) (enc : TypeId × Value → H) :
    ReturnsInHanded {} Try.checked os 9 .any (Rows.quorumOrderSpec.pre6 enc Try.prog Try.f9 Rows.quorumOrderRow.domain false) (Rows.quorumOrderSpec.post enc Try.prog Try.f9 false true false false) :=
  law_lifted (C := Try.checked) ownK laidOut started (by kernel_rfl) Try.func9
    (ChangeSpec.witness6 (enc := enc) (C := Try.checked) false ⟨#[], #[.slice none 0 0, .slice none 0 0, .slice none 0 0], []⟩ 8 (by kernel_rfl) (by kernel_rfl) (by kernel_rfl) (by kernel_rfl))
    rfl rfl Try.underlying4 (of_decide_eq_true (by kernel_rfl)) (fun l hl => by match l, hl with | [_, _, _], _ => rfl)
    [.sl 8 (.int .i64), .sl 8 (.int .i64), .sl 24 (.st (.pair (.int .i64) (.pair (.int .u64) (.pair (.int .u64) .unit))))] rfl (by kernel_rfl) quorumOrderAll

theorem quorumOrder_holds : Rows.QuorumOrderSaid :=
  OpenClaim.holds_of_wide 9 Try.f9 rfl rfl rfl rfl rfl rfl rfl ⟨rfl, rfl, rfl, rfl, rfl⟩ rfl rfl rfl rfl rfl (by kernel_rfl) Try.func9 (by kernel_rfl)
    (of_decide_eq_true (by kernel_rfl)) (by unfold Func.isWrapper; first | (rw [if_pos (by decide +kernel)]; kernel_rfl) | (rw [if_neg (by decide +kernel)]; exact ⟨rfl, rfl⟩))
    (fun os started H enc _ => quorumOrder_lifted os started H enc)
#print axioms quorumOrder_holds
end Go.Proofs.Ytlglifgnklngfaa
