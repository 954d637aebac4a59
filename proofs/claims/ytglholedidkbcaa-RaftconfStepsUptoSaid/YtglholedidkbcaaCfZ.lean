/-
  Proved here: RaftconfSteps returns true for every two configurations, and its arguments read afterwards as before. Conditions: each argument and each list in it of small bulk (2^20 at most in all).
-/
import Derived.Test.YtglholedidkbcaaUp
import Derived.Test.YtglholedidkbcaaCfL
import Derived.Test.YtglholedidkbcaaDaM
import Derived.Test.YtglholedidkbcaaLaw
namespace Go.Proofs.Ytglholedidkbcaa
open Go.ChangeShapes Go.WideShapes Go.ChangeAt Go.RowKit
theorem raftconfStepsAll : Ty.alls [.st (.pair (.sl 134217727 (.int .i64)) (.pair (.sl 134217727 (.int .i64)) .unit)), .st (.pair (.sl 134217727 (.int .i64)) (.pair (.sl 134217727 (.int .i64)) .unit))] fun xs => FC Try.prog 7 [] xs ⟨[], [], .im (.val (.bool true))⟩ := by
  obtain ⟨fu, hfu⟩ : ∃ fu : Nat, 16777216 < fu := ⟨_, Nat.lt_succ_self _⟩
  exact law_of (by rfl) (g7 fu) (fun (a : D_api_Conf) ha (c : D_api_Conf) hc => by
    obtain ⟨a1, a2⟩ := a
    have ha1 : a1.length * 134217727 ≤ 140737488351232 := ha.1.1
    have ha2 : a2.length * 134217727 ≤ 140737488351232 := ha.2.1
    obtain ⟨c1, c2⟩ := c
    have hc1 : c1.length * 134217727 ≤ 140737488351232 := hc.1.1
    have hc2 : c2.length * 134217727 ≤ 140737488351232 := hc.2.1
    exact p7_is a1 a2 c1 c2 (by omega) (by omega) (by omega) (by omega) (by omega))

set_option maxRecDepth 100000 in
theorem raftconfSteps_liftedU (os : Os) (started : os.Started) (H : Type) (enc : TypeId × Value → H) (F : Stop.Interp) :
    ReturnsInHanded {} Try.checked os 7 .any ((Rows.OpenSpec.upto Rows.raftconfStepsSpec).pre6 enc Try.prog Try.f7 Rows.raftconfStepsUptoRow.domain false) (((Rows.OpenSpec.upto Rows.raftconfStepsSpec).at F).post enc Try.prog Try.f7 false true false false) :=
  law_liftedU (C := Try.checked) ownK laidOut started (by kernel_rfl) Try.func7
    (witnessU (s := Rows.OpenSpec.upto Rows.raftconfStepsSpec) (k := Rows.uptoSmall) (enc := enc) (C := Try.checked) rfl false ⟨#[], #[.agg #[.slice none 0 0, .slice none 0 0], .agg #[.slice none 0 0, .slice none 0 0]], []⟩ 8 (by kernel_rfl) (by kernel_rfl) (by kernel_rfl) (by kernel_rfl) (by kernel_rfl))
    rfl rfl Try.underlying4 (of_decide_eq_true (by kernel_rfl)) (fun l hl => by match l, hl with | [_, _], _ => rfl)
    [.st (.pair (.sl 8 (.int .i64)) (.pair (.sl 8 (.int .i64)) .unit)), .st (.pair (.sl 8 (.int .i64)) (.pair (.sl 8 (.int .i64)) .unit))] rfl (by kernel_rfl) (by kernel_rfl) raftconfStepsAll F

theorem raftconfSteps_holdsU : Rows.RaftconfStepsUptoSaid :=
  OpenClaim.holds_of_cond 7 Try.f7 rfl rfl rfl rfl rfl rfl rfl ⟨rfl, rfl, rfl, rfl, rfl⟩ rfl rfl rfl rfl rfl (by kernel_rfl) Try.func7 (by kernel_rfl)
    (of_decide_eq_true (by kernel_rfl)) (by unfold Func.isWrapper; first | (rw [if_pos (by decide +kernel)]; kernel_rfl) | (rw [if_neg (by decide +kernel)]; exact ⟨rfl, rfl⟩))
    (fun os started H enc _ F => raftconfSteps_liftedU os started H enc F)
#print axioms raftconfSteps_holdsU
end Go.Proofs.Ytglholedidkbcaa
