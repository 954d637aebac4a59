/-
  Proved here: LineageNames returns true. Conditions: none.
-/
import Derived.Test.YtmjmhobeiamgiaaPtK
import Derived.Test.YtmjmhobeiamgiaaDaM
import Derived.Test.YtmjmhobeiamgiaaLaw
namespace Go.Proofs.Ytmjmhobeiamgiaa
open Go.ChangeShapes Go.WideShapes Go.ChangeAt Go.RowKit
set_option maxRecDepth 100000 in
theorem lineageNames_is : p3 600 () = some ((), true) := by kernel_rfl
theorem lineageNamesAll : Ty.alls [] fun xs => FC Try.prog 3 [] xs ⟨[], [], .im (.val (.bool true))⟩ := by
  exact law_of (by rfl) (g3 600) lineageNames_is

set_option maxRecDepth 100000 in
theorem lineageNames_lifted (os : Os) (started : os.Started) (H : Type) (enc : TypeId × Value → H) :
    ReturnsInHanded {} Try.checked os 3 .any (Rows.lineageNamesSpec.pre6 enc Try.prog Try.f3 Rows.lineageNamesRow.domain false) (Rows.lineageNamesSpec.post enc Try.prog Try.f3 false true false false) :=
  law_lifted (C := Try.checked) ownK laidOut started (by kernel_rfl) Try.func3
    (ChangeSpec.witness6 (enc := enc) (C := Try.checked) false ⟨#[], #[], []⟩ 8 (by kernel_rfl) (by kernel_rfl) (by kernel_rfl) (by kernel_rfl))
    rfl rfl Try.underlying4 (of_decide_eq_true (by kernel_rfl)) (fun l hl => by match l, hl with | [], _ => rfl)
    [] rfl (by kernel_rfl) lineageNamesAll

theorem lineageNames_holds : Rows.LineageNamesSaid :=
  OpenClaim.holds_of_wide 3 Try.f3 rfl rfl rfl rfl rfl rfl rfl ⟨rfl, rfl, rfl, rfl, rfl⟩ rfl rfl rfl rfl rfl (by kernel_rfl) Try.func3 (by kernel_rfl)
    (of_decide_eq_true (by kernel_rfl)) (by unfold Func.isWrapper; first | (rw [if_pos (by decide +kernel)]; kernel_rfl) | (rw [if_neg (by decide +kernel)]; exact ⟨rfl, rfl⟩))
    (fun os started H enc _ => lineageNames_lifted os started H enc)
#print axioms lineageNames_holds
end Go.Proofs.Ytmjmhobeiamgiaa
