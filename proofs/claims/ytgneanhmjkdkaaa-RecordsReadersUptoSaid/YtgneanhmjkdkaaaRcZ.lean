/-
  Proved here: RecordsReaders returns true for every argument, and it reads afterwards as before. Conditions: the argument and each list in it of small bulk (2^20 at most in all).
-/
import Derived.Test.YtgneanhmjkdkaaaUp
import Derived.Test.YtgneanhmjkdkaaaRcL
import Derived.Test.YtgneanhmjkdkaaaDaM
import Derived.Test.YtgneanhmjkdkaaaLaw
namespace Go.Proofs.Ytgneanhmjkdkaaa
open Go.ChangeShapes Go.WideShapes Go.ChangeAt Go.RowKit
theorem recordsReadersAll : Ty.alls [.st (.pair (.sl 134217727 (.st (.pair .txt (.pair (.int .u64) .unit)))) (.pair (.sl 134217727 (.st (.pair .txt (.pair (.int .u64) .unit)))) (.pair (.st (.pair .txt (.pair (.int .u64) .unit))) (.pair (.int .u64) (.pair (.sl 134217727 (.int .u64)) (.pair (.sl 134217727 (.int .u64)) .unit))))))] fun xs => FC Try.prog 7 [] xs ⟨[], [], .im (.val (.bool true))⟩ := by
  obtain ⟨fu, hfu⟩ : ∃ fu : Nat, 16777216 < fu := ⟨_, Nat.lt_succ_self _⟩
  exact law_of (by rfl) (g7 fu) (fun p hp => by
    obtain ⟨a, c, ⟨f, h⟩, i, j, k⟩ := p
    have oa : okL a := ⟨lenOk14 hp.1.1, fun x hx => ⟨(hp.1.2.2 x hx).1, inK_u64 (hp.1.2.2 x hx).2⟩⟩
    have oc : okL c := ⟨lenOk14 hp.2.1.1, fun x hx => ⟨(hp.2.1.2.2 x hx).1, inK_u64 (hp.2.1.2.2 x hx).2⟩⟩
    exact p7_is a c f h i j k oa oc hp.2.2.1.1 (lenOk14 hp.2.2.2.2.1.1) (lenOk14 hp.2.2.2.2.2.1) (by omega))

set_option maxRecDepth 100000 in
theorem recordsReaders_liftedU (os : Os) (started : os.Started) (H : Type) (enc : TypeId × Value → H) (F : Stop.Interp) :
    ReturnsInHanded {} Try.checked os 7 .any ((Rows.OpenSpec.upto Rows.recordsReadersSpec).pre6 enc Try.prog Try.f7 Rows.recordsReadersUptoRow.domain false) (((Rows.OpenSpec.upto Rows.recordsReadersSpec).at F).post enc Try.prog Try.f7 false true false false) :=
  law_liftedU (C := Try.checked) ownK laidOut started (by kernel_rfl) Try.func7
    (witnessU (s := Rows.OpenSpec.upto Rows.recordsReadersSpec) (k := Rows.uptoSmall) (enc := enc) (C := Try.checked) rfl false ⟨#[], #[.agg #[.slice none 0 0, .slice none 0 0, .string ⟨#[]⟩, .int .u64 0, .int .u64 0, .slice none 0 0, .slice none 0 0]], []⟩ 8 (by kernel_rfl) (by kernel_rfl) (by kernel_rfl) (by kernel_rfl) (by kernel_rfl))
    rfl rfl Try.underlying4 (of_decide_eq_true (by kernel_rfl)) (fun l hl => by match l, hl with | [_], _ => rfl)
    [.st (.pair (.sl 24 (.st (.pair .str (.pair (.int .u64) .unit)))) (.pair (.sl 24 (.st (.pair .str (.pair (.int .u64) .unit)))) (.pair (.st (.pair .str (.pair (.int .u64) .unit))) (.pair (.int .u64) (.pair (.sl 8 (.int .u64)) (.pair (.sl 8 (.int .u64)) .unit))))))] rfl (by kernel_rfl) (by kernel_rfl) recordsReadersAll F

theorem recordsReaders_holdsU : Rows.RecordsReadersUptoSaid :=
  OpenClaim.holds_of_cond 7 Try.f7 rfl rfl rfl rfl rfl rfl rfl ⟨rfl, rfl, rfl, rfl, rfl⟩ rfl rfl rfl rfl rfl (by kernel_rfl) Try.func7 (by kernel_rfl)
    (of_decide_eq_true (by kernel_rfl)) (by unfold Func.isWrapper; first | (rw [if_pos (by decide +kernel)]; kernel_rfl) | (rw [if_neg (by decide +kernel)]; exact ⟨rfl, rfl⟩))
    (fun os started H enc _ F => recordsReaders_liftedU os started H enc F)
#print axioms recordsReaders_holdsU
end Go.Proofs.Ytgneanhmjkdkaaa
