/-
  Proved here: ProducersOnce returns true for every list of numbers, and its argument reads afterwards as before. Conditions: none.
-/
import Derived.Test.YtggbfmjcceblkaaPrD
import Derived.Test.YtggbfmjcceblkaaDaM
import Derived.Test.YtggbfmjcceblkaaLaw
namespace Go.Proofs.Ytggbfmjcceblkaa
open Go.ChangeShapes Go.WideShapes Go.ChangeAt Go.RowKit
theorem producersOnceAll : Ty.alls [.sl 24 (.st (.pair (.int .u64) (.pair (.int .u64) (.pair (.int .u64) .unit))))] fun xs => FC Try.prog 6 [] xs ⟨[], [], .im (.val (.bool true))⟩ := by
  obtain ⟨fu, hfu⟩ : ∃ fu : Nat, 9223372036854775807 * 9223372036854775807 < fu := ⟨_, Nat.lt_succ_self _⟩
  exact law_of (by rfl) (g6 fu) (fun (n : List Nu) hn => p6_is n hn.1 (by have h : n.length ≤ 9223372036854775807 := hn.2.1; show n.length + 1000 < fu; omega))

set_option maxRecDepth 100000 in
theorem producersOnce_lifted (os : Os) (started : os.Started) (H : Type) (enc : TypeId × Value → H) :
    ReturnsInHanded {} Try.checked os 6 .any (Rows.producersOnceSpec.pre6 enc Try.prog Try.f6 Rows.producersOnceRow.domain false) (Rows.producersOnceSpec.post enc Try.prog Try.f6 false true false false) :=
  law_lifted (C := Try.checked) ownK laidOut started (by kernel_rfl) Try.func6
    (ChangeSpec.witness6 (enc := enc) (C := Try.checked) false ⟨#[], #[.slice none 0 0], []⟩ 8 (by kernel_rfl) (by kernel_rfl) (by kernel_rfl) (by kernel_rfl))
    rfl rfl Try.underlying4 (of_decide_eq_true (by kernel_rfl)) (fun l hl => by match l, hl with | [_], _ => rfl)
    [.sl 24 (.st (.pair (.int .u64) (.pair (.int .u64) (.pair (.int .u64) .unit))))] rfl (by kernel_rfl) producersOnceAll

theorem producersOnce_holds : Rows.ProducersOnceSaid :=
  OpenClaim.holds_of_wide 6 Try.f6 rfl rfl rfl rfl rfl rfl rfl ⟨rfl, rfl, rfl, rfl, rfl⟩ rfl rfl rfl rfl rfl (by kernel_rfl) Try.func6 (by kernel_rfl)
    (of_decide_eq_true (by kernel_rfl)) (by unfold Func.isWrapper; first | (rw [if_pos (by decide +kernel)]; kernel_rfl) | (rw [if_neg (by decide +kernel)]; exact ⟨rfl, rfl⟩))
    (fun os started H enc _ => producersOnce_lifted os started H enc)
#print axioms producersOnce_holds
end Go.Proofs.Ytggbfmjcceblkaa
