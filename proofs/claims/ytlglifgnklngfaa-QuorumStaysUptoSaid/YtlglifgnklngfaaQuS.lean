/-
  Proved here: QuorumStays returns true for every list of nodes and every two lists of ballots, and its arguments read afterwards as before. Conditions: each argument and each list in it of small bulk (2^20 at most in all).
-/
import Derived.Test.YtlglifgnklngfaaUp
import Derived.Test.YtlglifgnklngfaaQuL
import Derived.Test.YtlglifgnklngfaaDaM
import Derived.Test.YtlglifgnklngfaaLaw
namespace Go.Proofs.Ytlglifgnklngfaa
open Go.ChangeShapes Go.WideShapes Go.ChangeAt Go.RowKit
theorem quorumStaysAll : Ty.alls [.sl 134217727 (.int .i64), .sl 134217727 (.st (.pair (.int .i64) (.pair .bool .unit))), .sl 134217727 (.st (.pair (.int .i64) (.pair .bool .unit)))] fun xs => FC Try.prog 7 [] xs ⟨[], [], .im (.val (.bool true))⟩ := by
  obtain ⟨fu, hfu⟩ : ∃ fu : Nat, 4194304 < fu := ⟨_, Nat.lt_succ_self _⟩
  exact law_of (by rfl) (g7 fu) (fun (a : List Int) ha (c : List Ba) hc (f : List Ba) hf => by
    have hA : a.length * 134217727 ≤ 140737488351232 := ha.1
    have hC : c.length * 134217727 ≤ 140737488351232 := hc.1
    have hF : f.length * 134217727 ≤ 140737488351232 := hf.1
    exact p7_is a c f (by omega) (by omega) (by omega))

set_option maxRecDepth 100000 in
theorem quorumStays_liftedU (os : Os) (started : os.Started) (H : Type) (enc : TypeId × Value → H) (F : Stop.Interp) :
    ReturnsInHanded {} Try.checked os 7 .any ((Rows.OpenSpec.upto Rows.quorumStaysSpec).pre6 enc Try.prog Try.f7 Rows.quorumStaysUptoRow.domain false) (((Rows.OpenSpec.upto Rows.quorumStaysSpec).at F).post enc Try.prog Try.f7 false true false false) :=
  law_liftedU (C := Try.checked) ownK laidOut started (by kernel_rfl) Try.func7
    (witnessU (s := Rows.OpenSpec.upto Rows.quorumStaysSpec) (k := Rows.uptoSmall) (enc := enc) (C := Try.checked) rfl false ⟨#[], #[.slice none 0 0, .slice none 0 0, .slice none 0 0], []⟩ 8 (by kernel_rfl) (by kernel_rfl) (by kernel_rfl) (by kernel_rfl) (by kernel_rfl))
    rfl rfl Try.underlying4 (of_decide_eq_true (by kernel_rfl)) (fun l hl => by match l, hl with | [_, _, _], _ => rfl)
    [.sl 8 (.int .i64), .sl 16 (.st (.pair (.int .i64) (.pair .bool .unit))), .sl 16 (.st (.pair (.int .i64) (.pair .bool .unit)))] rfl (by kernel_rfl) (by kernel_rfl) quorumStaysAll F

theorem quorumStays_holdsU : Rows.QuorumStaysUptoSaid :=
  OpenClaim.holds_of_cond 7 Try.f7 rfl rfl rfl rfl rfl rfl rfl ⟨rfl, rfl, rfl, rfl, rfl⟩ rfl rfl rfl rfl rfl (by kernel_rfl) Try.func7 (by kernel_rfl)
    (of_decide_eq_true (by kernel_rfl)) (by unfold Func.isWrapper; first | (rw [if_pos (by decide +kernel)]; kernel_rfl) | (rw [if_neg (by decide +kernel)]; exact ⟨rfl, rfl⟩))
    (fun os started H enc _ F => quorumStays_liftedU os started H enc F)
#print axioms quorumStays_holdsU
end Go.Proofs.Ytlglifgnklngfaa
