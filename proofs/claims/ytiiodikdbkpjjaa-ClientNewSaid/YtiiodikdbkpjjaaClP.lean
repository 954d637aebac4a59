/-
  Proved here: ClientNew returns true for every number, list of servers and producer, and its arguments read afterwards as before. Conditions: none.
-/
import Derived.Test.YtiiodikdbkpjjaaClD
import Derived.Test.YtiiodikdbkpjjaaDaM
import Derived.Test.YtiiodikdbkpjjaaLaw
namespace Go.Proofs.Ytiiodikdbkpjjaa
open Go.ChangeShapes Go.WideShapes Go.ChangeAt Go.RowKit
theorem clientNewAll : Ty.alls [.int .i64, .sl 8 (.int .i64), .int .u64] fun xs => FC Try.prog 3 [] xs ⟨[], [], .im (.val (.bool true))⟩ := by
  obtain ⟨fu, hfu⟩ : ∃ fu : Nat, 9223372036854775807 * 9223372036854775807 < fu := ⟨_, Nat.lt_succ_self _⟩
  exact law_of (by rfl) (g3 fu) (fun (id : Int) _ (sv : List Int) hsv (pr : Int) _ => p3_is id sv pr hsv.1 (by omega))

set_option maxRecDepth 100000 in
theorem clientNew_lifted (os : Os) (started : os.Started) (H : Type) (enc : TypeId × Value → H) :
    ReturnsInHanded {} Try.checked os 3 .any (Rows.clientNewSpec.pre6 enc Try.prog Try.f3 Rows.clientNewRow.domain false) (Rows.clientNewSpec.post enc Try.prog Try.f3 false true false false) :=
  law_lifted (C := Try.checked) ownK laidOut started (by kernel_rfl) Try.func3
    (ChangeSpec.witness6 (enc := enc) (C := Try.checked) false ⟨#[], #[.int .i64 0, .slice none 0 0, .int .u64 0], []⟩ 8 (by kernel_rfl) (by kernel_rfl) (by kernel_rfl) (by kernel_rfl))
    rfl rfl Try.underlying4 (of_decide_eq_true (by kernel_rfl)) (fun l hl => by match l, hl with | [_, _, _], _ => rfl)
    [.int .i64, .sl 8 (.int .i64), .int .u64] rfl (by kernel_rfl) clientNewAll

theorem clientNew_holds : Rows.ClientNewSaid :=
  OpenClaim.holds_of_wide 3 Try.f3 rfl rfl rfl rfl rfl rfl rfl ⟨rfl, rfl, rfl, rfl, rfl⟩ rfl rfl rfl rfl rfl (by kernel_rfl) Try.func3 (by kernel_rfl)
    (of_decide_eq_true (by kernel_rfl)) (by unfold Func.isWrapper; first | (rw [if_pos (by decide +kernel)]; kernel_rfl) | (rw [if_neg (by decide +kernel)]; exact ⟨rfl, rfl⟩))
    (fun os started H enc _ => clientNew_lifted os started H enc)
#print axioms clientNew_holds
end Go.Proofs.Ytiiodikdbkpjjaa
