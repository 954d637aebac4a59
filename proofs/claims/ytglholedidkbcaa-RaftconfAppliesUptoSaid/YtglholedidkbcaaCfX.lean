/-
  Proved here: RaftconfApplies returns true for every configuration and every list of changes, and its arguments read afterwards as before. Conditions: each argument and each list in it of small bulk (2^20 at most in all).
-/
import Derived.Test.YtglholedidkbcaaUp
import Derived.Test.YtglholedidkbcaaCfL
import Derived.Test.YtglholedidkbcaaDaM
import Derived.Test.YtglholedidkbcaaLaw
namespace Go.Proofs.Ytglholedidkbcaa
open Go.ChangeShapes Go.WideShapes Go.ChangeAt Go.RowKit
theorem raftconfAppliesAll : Ty.alls [.st (.pair (.sl 134217727 (.int .i64)) (.pair (.sl 134217727 (.int .i64)) .unit)), .sl 134217727 (.st (.pair (.int .i64) (.pair (.int .i64) .unit)))] fun xs => FC Try.prog 4 [] xs ⟨[], [], .im (.val (.bool true))⟩ := by
  obtain ⟨fu, hfu⟩ : ∃ fu : Nat, 16777216 < fu := ⟨_, Nat.lt_succ_self _⟩
  exact law_of (by rfl) (g4 fu) (fun (a : D_api_Conf) ha (c : List D_api_Change) hc => by
    obtain ⟨a1, a2⟩ := a
    have ha1 : a1.length * 134217727 ≤ 140737488351232 := ha.1.1
    have ha2 : a2.length * 134217727 ≤ 140737488351232 := ha.2.1
    have hc1 : c.length * 134217727 ≤ 140737488351232 := hc.1
    exact p4_is a1 a2 c (by omega) (by omega) (by omega) (by omega))

set_option maxRecDepth 100000 in
theorem raftconfApplies_liftedU (os : Os) (started : os.Started) (H : Type) (enc : TypeId × Value → H) (F : Stop.Interp) :
    ReturnsInHanded {} Try.checked os 4 .any ((Rows.OpenSpec.upto Rows.raftconfAppliesSpec).pre6 enc Try.prog Try.f4 Rows.raftconfAppliesUptoRow.domain false) (((Rows.OpenSpec.upto Rows.raftconfAppliesSpec).at F).post enc Try.prog Try.f4 false true false false) :=
  law_liftedU (C := Try.checked) ownK laidOut started (by kernel_rfl) Try.func4
    (witnessU (s := Rows.OpenSpec.upto Rows.raftconfAppliesSpec) (k := Rows.uptoSmall) (enc := enc) (C := Try.checked) rfl false ⟨#[], #[.agg #[.slice none 0 0, .slice none 0 0], .slice none 0 0], []⟩ 8 (by kernel_rfl) (by kernel_rfl) (by kernel_rfl) (by kernel_rfl) (by kernel_rfl))
    rfl rfl Try.underlying4 (of_decide_eq_true (by kernel_rfl)) (fun l hl => by match l, hl with | [_, _], _ => rfl)
    [.st (.pair (.sl 8 (.int .i64)) (.pair (.sl 8 (.int .i64)) .unit)), .sl 16 (.st (.pair (.int .i64) (.pair (.int .i64) .unit)))] rfl (by kernel_rfl) (by kernel_rfl) raftconfAppliesAll F

theorem raftconfApplies_holdsU : Rows.RaftconfAppliesUptoSaid :=
  OpenClaim.holds_of_cond 4 Try.f4 rfl rfl rfl rfl rfl rfl rfl ⟨rfl, rfl, rfl, rfl, rfl⟩ rfl rfl rfl rfl rfl (by kernel_rfl) Try.func4 (by kernel_rfl)
    (of_decide_eq_true (by kernel_rfl)) (by unfold Func.isWrapper; first | (rw [if_pos (by decide +kernel)]; kernel_rfl) | (rw [if_neg (by decide +kernel)]; exact ⟨rfl, rfl⟩))
    (fun os started H enc _ F => raftconfApplies_liftedU os started H enc F)
#print axioms raftconfApplies_holdsU
end Go.Proofs.Ytglholedidkbcaa
