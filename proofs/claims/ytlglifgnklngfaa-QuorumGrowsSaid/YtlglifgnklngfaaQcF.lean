/-
  Proved here: QuorumGrows returns true for every list of nodes, every list of peers, every place and every number, and its arguments read afterwards as before. Conditions: none.
-/
import Derived.Test.YtlglifgnklngfaaQcL
import Derived.Test.YtlglifgnklngfaaDaM
import Derived.Test.YtlglifgnklngfaaLaw
namespace Go.Proofs.Ytlglifgnklngfaa
open Go.ChangeShapes Go.WideShapes Go.ChangeAt Go.RowKit
theorem quorumGrowsAll : Ty.alls [.sl 8 (.int .i64), .sl 24 (.st (.pair (.int .i64) (.pair (.int .u64) (.pair (.int .u64) .unit)))), .int .i64, .int .u64] fun xs => FC Try.prog 8 [] xs ⟨[], [], .im (.val (.bool true))⟩ := by
  obtain ⟨fu, hfu⟩ : ∃ fu : Nat, 9223372036854775807 * 9223372036854775807 < fu := ⟨_, Nat.lt_succ_self _⟩
  exact law_of (by rfl) (g8 fu) (fun (a : List Int) ha (c : List Pe) hc (f : Int) _ (h : Int) hh => by
    have hA : a.length * 8 ≤ 140737488351232 := ha.1
    have hC : c.length * 24 ≤ 140737488351232 := hc.1
    have hN : ∀ p : Pe, p ∈ c → 0 ≤ p.2.2 := fun p hp => (hc.2.2 p hp).2.2.1
    exact p8_is a c f h (by omega) (by omega) hN hh.1 (by omega))

set_option maxRecDepth 100000 in
theorem quorumGrows_lifted (os : Os) (started : os.Started) (H : Type) (enc : TypeId × Value → H) :
    ReturnsInHanded {} Try.checked os 8 .any (Rows.quorumGrowsSpec.pre6 enc Try.prog Try.f8 Rows.quorumGrowsRow.domain false) (Rows.quorumGrowsSpec.post enc Try.prog Try.f8 false true false false) :=
  law_lifted (C := Try.checked) ownK laidOut started (by kernel_rfl) Try.func8
    (ChangeSpec.witness6 (enc := enc) (C := Try.checked) false ⟨#[], #[.slice none 0 0, .slice none 0 0, .int .i64 0, .int .u64 0], []⟩ 8 (by kernel_rfl) (by kernel_rfl) (by kernel_rfl) (by kernel_rfl))
    rfl rfl Try.underlying4 (of_decide_eq_true (by kernel_rfl)) (fun l hl => by match l, hl with | [_, _, _, _], _ => rfl)
    [.sl 8 (.int .i64), .sl 24 (.st (.pair (.int .i64) (.pair (.int .u64) (.pair (.int .u64) .unit)))), .int .i64, .int .u64] rfl (by kernel_rfl) quorumGrowsAll

theorem quorumGrows_holds : Rows.QuorumGrowsSaid :=
  OpenClaim.holds_of_wide 8 Try.f8 rfl rfl rfl rfl rfl rfl rfl ⟨rfl, rfl, rfl, rfl, rfl⟩ rfl rfl rfl rfl rfl (by kernel_rfl) Try.func8 (by kernel_rfl)
    (of_decide_eq_true (by kernel_rfl)) (by unfold Func.isWrapper; first | (rw [if_pos (by decide +kernel)]; kernel_rfl) | (rw [if_neg (by decide +kernel)]; exact ⟨rfl, rfl⟩))
    (fun os started H enc _ => quorumGrows_lifted os started H enc)
#print axioms quorumGrows_holds
end Go.Proofs.Ytlglifgnklngfaa
