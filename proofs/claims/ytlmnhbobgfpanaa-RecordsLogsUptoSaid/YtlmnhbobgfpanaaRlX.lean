/-
  Proved here: RecordsLogs returns true for every argument, and it reads afterwards as before. Conditions: each argument and each list in it of small bulk (2^20 at most in all).
-/
import Derived.Test.YtlmnhbobgfpanaaUp
import Derived.Test.YtlmnhbobgfpanaaRlB
import Derived.Test.YtlmnhbobgfpanaaDaM
import Derived.Test.YtlmnhbobgfpanaaLaw
namespace Go.Proofs.Ytlmnhbobgfpanaa
open Go.ChangeShapes Go.WideShapes Go.ChangeAt Go.RowKit
theorem len20 {α : Type} {l : List α} (h : l.length * 134217727 ≤ 140737488351232) : l.length ≤ 1048576 := by omega
theorem inK_u16 {x : Int} (h : inK .u16 x) : 0 ≤ x ∧ x < 65536 := by
  have h1 : (0 : Int) ≤ x := h.1
  have h2 : x ≤ 65535 := h.2
  exact ⟨h1, by omega⟩
theorem recordsLogsAll : Ty.alls [.st (.pair (.sl 134217727 (.st (.pair (.int .u64) (.pair .txt (.pair (.sl 134217727 (.int .u8)) (.pair (.int .u64) (.pair (.int .u64) .unit))))))) (.pair (.int .u16) (.pair (.st (.pair (.int .u64) (.pair .txt (.pair (.sl 134217727 (.int .u8)) (.pair (.int .u64) (.pair (.int .u64) .unit)))))) (.pair (.int .u64) (.pair (.int .i64) .unit)))))] fun xs => FC Try.prog 3 [] xs ⟨[], [], .im (.val (.bool true))⟩ := by
  obtain ⟨fu, hfu⟩ : ∃ fu : Nat, 16777216 < fu := ⟨_, Nat.lt_succ_self _⟩
  exact law_of (by rfl) (g3 fu) (fun p hp => by
    obtain ⟨a, c, x, l, m⟩ := p
    have hc := inK_u16 hp.2.1
    exact p3_is a c x l m (len20 hp.1.1) (fun x hx => len20 (hp.1.2.2 x hx).2.2.1.1) hc.1 hc.2 hp.2.2.2.1.1 (by omega))

set_option maxRecDepth 100000 in
theorem recordsLogs_liftedU (os : Os) (started : os.Started) (H : Type) (enc : TypeId × Value → H) (F : Stop.Interp) :
    ReturnsInHanded {} Try.checked os 3 .any ((Rows.OpenSpec.upto Rows.recordsLogsSpec).pre6 enc Try.prog Try.f3 Rows.recordsLogsUptoRow.domain false) (((Rows.OpenSpec.upto Rows.recordsLogsSpec).at F).post enc Try.prog Try.f3 false true false false) :=
  law_liftedU (C := Try.checked) ownK laidOut started (by kernel_rfl) Try.func3
    (witnessU (s := Rows.OpenSpec.upto Rows.recordsLogsSpec) (k := Rows.uptoSmall) (enc := enc) (C := Try.checked) rfl false ⟨#[], #[.agg #[.slice none 0 0, .int .u16 0, .int .u64 0, .string ⟨#[]⟩, .slice none 0 0, .int .u64 0, .int .u64 0, .int .u64 0, .int .i64 0]], []⟩ 8 (by kernel_rfl) (by kernel_rfl) (by kernel_rfl) (by kernel_rfl) (by kernel_rfl))
    rfl rfl Try.underlying4 (of_decide_eq_true (by kernel_rfl)) (fun l hl => by match l, hl with | [_], _ => rfl)
    [.st (.pair (.sl 64 (.st (.pair (.int .u64) (.pair .str (.pair (.sl 1 (.int .u8)) (.pair (.int .u64) (.pair (.int .u64) .unit))))))) (.pair (.int .u16) (.pair (.st (.pair (.int .u64) (.pair .str (.pair (.sl 1 (.int .u8)) (.pair (.int .u64) (.pair (.int .u64) .unit)))))) (.pair (.int .u64) (.pair (.int .i64) .unit)))))] rfl (by kernel_rfl) (by kernel_rfl) recordsLogsAll F

theorem recordsLogs_holdsU : Rows.RecordsLogsUptoSaid :=
  OpenClaim.holds_of_cond 3 Try.f3 rfl rfl rfl rfl rfl rfl rfl ⟨rfl, rfl, rfl, rfl, rfl⟩ rfl rfl rfl rfl rfl (by kernel_rfl) Try.func3 (by kernel_rfl)
    (of_decide_eq_true (by kernel_rfl)) (by unfold Func.isWrapper; first | (rw [if_pos (by decide +kernel)]; kernel_rfl) | (rw [if_neg (by decide +kernel)]; exact ⟨rfl, rfl⟩))
    (fun os started H enc _ F => recordsLogs_liftedU os started H enc F)
#print axioms recordsLogs_holdsU
end Go.Proofs.Ytlmnhbobgfpanaa
