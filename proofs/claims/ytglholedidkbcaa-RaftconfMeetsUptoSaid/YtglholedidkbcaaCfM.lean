/-
  Proved here: RaftconfMeets returns true for every configuration, every change and every two lists of nodes, and its arguments read afterwards as before. Conditions: each argument and each list in it of small bulk (2^20 at most in all).
-/
import Derived.Test.YtglholedidkbcaaUp
import Derived.Test.YtglholedidkbcaaCfL
import Derived.Test.YtglholedidkbcaaDaM
import Derived.Test.YtglholedidkbcaaLaw
namespace Go.Proofs.Ytglholedidkbcaa
open Go.ChangeShapes Go.WideShapes Go.ChangeAt Go.RowKit
theorem raftconfMeetsAll : Ty.alls [.st (.pair (.sl 134217727 (.int .i64)) (.pair (.sl 134217727 (.int .i64)) .unit)), .st (.pair (.int .i64) (.pair (.int .i64) .unit)), .sl 134217727 (.int .i64), .sl 134217727 (.int .i64)] fun xs => FC Try.prog 5 [] xs ⟨[], [], .im (.val (.bool true))⟩ := by
  obtain ⟨fu, hfu⟩ : ∃ fu : Nat, 16777216 < fu := ⟨_, Nat.lt_succ_self _⟩
  exact law_of (by rfl) (g5 fu) (fun (a : D_api_Conf) ha (x : D_api_Change) _ (c : List Int) hc (f : List Int) hf => by
    obtain ⟨a1, a2⟩ := a
    have ha1 : a1.length * 134217727 ≤ 140737488351232 := ha.1.1
    have ha2 : a2.length * 134217727 ≤ 140737488351232 := ha.2.1
    have hc1 : c.length * 134217727 ≤ 140737488351232 := hc.1
    have hf1 : f.length * 134217727 ≤ 140737488351232 := hf.1
    exact p5_is a1 a2 c f x.1 x.2 (by omega) (by omega) (by omega) (by omega) (by omega))

set_option maxRecDepth 100000 in
theorem raftconfMeets_liftedU (os : Os) (started : os.Started) (H : Type) (enc : TypeId × Value → H) (F : Stop.Interp) :
    ReturnsInHanded {} Try.checked os 5 .any ((Rows.OpenSpec.upto Rows.raftconfMeetsSpec).pre6 enc Try.prog Try.f5 Rows.raftconfMeetsUptoRow.domain false) (((Rows.OpenSpec.upto Rows.raftconfMeetsSpec).at F).post enc Try.prog Try.f5 false true false false) :=
  law_liftedU (C := Try.checked) ownK laidOut started (by kernel_rfl) Try.func5
    (witnessU (s := Rows.OpenSpec.upto Rows.raftconfMeetsSpec) (k := Rows.uptoSmall) (enc := enc) (C := Try.checked) rfl false ⟨#[], #[.agg #[.slice none 0 0, .slice none 0 0], .agg #[.int .i64 0, .int .i64 0], .slice none 0 0, .slice none 0 0], []⟩ 8 (by kernel_rfl) (by kernel_rfl) (by kernel_rfl) (by kernel_rfl) (by kernel_rfl))
    rfl rfl Try.underlying4 (of_decide_eq_true (by kernel_rfl)) (fun l hl => by match l, hl with | [_, _, _, _], _ => rfl)
    [.st (.pair (.sl 8 (.int .i64)) (.pair (.sl 8 (.int .i64)) .unit)), .st (.pair (.int .i64) (.pair (.int .i64) .unit)), .sl 8 (.int .i64), .sl 8 (.int .i64)] rfl (by kernel_rfl) (by kernel_rfl) raftconfMeetsAll F

theorem raftconfMeets_holdsU : Rows.RaftconfMeetsUptoSaid :=
  OpenClaim.holds_of_cond 5 Try.f5 rfl rfl rfl rfl rfl rfl rfl ⟨rfl, rfl, rfl, rfl, rfl⟩ rfl rfl rfl rfl rfl (by kernel_rfl) Try.func5 (by kernel_rfl)
    (of_decide_eq_true (by kernel_rfl)) (by unfold Func.isWrapper; first | (rw [if_pos (by decide +kernel)]; kernel_rfl) | (rw [if_neg (by decide +kernel)]; exact ⟨rfl, rfl⟩))
    (fun os started H enc _ F => raftconfMeets_liftedU os started H enc F)
#print axioms raftconfMeets_holdsU
end Go.Proofs.Ytglholedidkbcaa
