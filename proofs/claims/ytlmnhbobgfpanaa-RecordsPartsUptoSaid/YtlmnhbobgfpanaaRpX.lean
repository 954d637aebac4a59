/-
  Proved here: RecordsParts returns true for every two lists of records and every range, and its arguments read afterwards as before. Conditions: each argument and each list in it of small bulk (2^20 at most in all).
-/
import Derived.Test.YtlmnhbobgfpanaaUp
import Derived.Test.YtlmnhbobgfpanaaRpB
import Derived.Test.YtlmnhbobgfpanaaDaM
import Derived.Test.YtlmnhbobgfpanaaLaw
namespace Go.Proofs.Ytlmnhbobgfpanaa
open Go.ChangeShapes Go.WideShapes Go.ChangeAt Go.RowKit
theorem len20 {α : Type} {l : List α} (h : l.length * 134217727 ≤ 140737488351232) : l.length ≤ 1048576 := by omega
theorem recordsPartsAll : Ty.alls [.sl 134217727 (.st (.pair (.int .u64) (.pair .txt (.pair (.sl 134217727 (.int .u8)) (.pair (.int .u64) (.pair (.int .u64) .unit)))))), .sl 134217727 (.st (.pair (.int .u64) (.pair .txt (.pair (.sl 134217727 (.int .u8)) (.pair (.int .u64) (.pair (.int .u64) .unit)))))), .st (.pair .txt (.pair .txt .unit))] fun xs => FC Try.prog 4 [] xs ⟨[], [], .im (.val (.bool true))⟩ := by
  obtain ⟨fu, hfu⟩ : ∃ fu : Nat, 16777216 < fu := ⟨_, Nat.lt_succ_self _⟩
  exact law_of (by rfl) (g4 fu) (fun (a : List Rd) ha (b : List Rd) hb (r : D_api_Range) _ => by
    obtain ⟨f, h⟩ := r
    exact p4_is a b f h (len20 ha.1) (len20 hb.1) (fun x hx => len20 (ha.2.2 x hx).2.2.1.1) (fun x hx => len20 (hb.2.2 x hx).2.2.1.1) (by omega))

set_option maxRecDepth 100000 in
theorem recordsParts_liftedU (os : Os) (started : os.Started) (H : Type) (enc : TypeId × Value → H) (F : Stop.Interp) :
    ReturnsInHanded {} Try.checked os 4 .any ((Rows.OpenSpec.upto Rows.recordsPartsSpec).pre6 enc Try.prog Try.f4 Rows.recordsPartsUptoRow.domain false) (((Rows.OpenSpec.upto Rows.recordsPartsSpec).at F).post enc Try.prog Try.f4 false true false false) :=
  law_liftedU (C := Try.checked) ownK laidOut started (by kernel_rfl) Try.func4
    (witnessU (s := Rows.OpenSpec.upto Rows.recordsPartsSpec) (k := Rows.uptoSmall) (enc := enc) (C := Try.checked) rfl false ⟨#[], #[.slice none 0 0, .slice none 0 0, .agg #[.string ⟨#[]⟩, .string ⟨#[]⟩]], []⟩ 8 (by kernel_rfl) (by kernel_rfl) (by kernel_rfl) (by kernel_rfl) (by kernel_rfl))
    rfl rfl Try.underlying4 (of_decide_eq_true (by kernel_rfl)) (fun l hl => by match l, hl with | [_, _, _], _ => rfl)
    [.sl 64 (.st (.pair (.int .u64) (.pair .str (.pair (.sl 1 (.int .u8)) (.pair (.int .u64) (.pair (.int .u64) .unit)))))), .sl 64 (.st (.pair (.int .u64) (.pair .str (.pair (.sl 1 (.int .u8)) (.pair (.int .u64) (.pair (.int .u64) .unit)))))), .st (.pair .str (.pair .str .unit))] rfl (by kernel_rfl) (by kernel_rfl) recordsPartsAll F

theorem recordsParts_holdsU : Rows.RecordsPartsUptoSaid :=
  OpenClaim.holds_of_cond 4 Try.f4 rfl rfl rfl rfl rfl rfl rfl ⟨rfl, rfl, rfl, rfl, rfl⟩ rfl rfl rfl rfl rfl (by kernel_rfl) Try.func4 (by kernel_rfl)
    (of_decide_eq_true (by kernel_rfl)) (by unfold Func.isWrapper; first | (rw [if_pos (by decide +kernel)]; kernel_rfl) | (rw [if_neg (by decide +kernel)]; exact ⟨rfl, rfl⟩))
    (fun os started H enc _ F => recordsParts_liftedU os started H enc F)
#print axioms recordsParts_holdsU
end Go.Proofs.Ytlmnhbobgfpanaa
