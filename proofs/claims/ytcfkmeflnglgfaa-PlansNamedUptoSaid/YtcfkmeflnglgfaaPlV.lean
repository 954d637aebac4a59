/-
  Proved here: PlansNamed returns true for every two plans, whatever is seen, and its arguments read afterwards as before. Conditions: each argument and each list in it of small bulk (2^20 at most in all).
-/
import Derived.Test.YtcfkmeflnglgfaaUp
import Derived.Test.YtcfkmeflnglgfaaPlL
import Derived.Test.YtcfkmeflnglgfaaDaM
import Derived.Test.YtcfkmeflnglgfaaLaw
namespace Go.Proofs.Ytcfkmeflnglgfaa
open Go.ChangeShapes Go.WideShapes Go.ChangeAt Go.RowKit
theorem plansNamedAll : Ty.alls [.st (.pair (.int .u64) (.pair (.int .i64) (.pair .txt (.pair (.int .u64) (.pair (.int .u64) (.pair .txt (.pair (.sl 134217727 (.int .u64)) (.pair (.sl 134217727 (.int .i64)) (.pair (.int .i64) (.pair (.int .i64) (.pair (.int .i64) .unit))))))))))), .st (.pair (.sl 134217727 (.int .u64)) (.pair (.sl 134217727 (.st (.pair (.int .u64) (.pair (.int .i64) .unit)))) (.pair (.sl 134217727 (.st (.pair (.int .u64) (.pair (.int .i64) .unit)))) (.pair (.st (.pair (.sl 134217727 (.int .i64)) (.pair (.sl 134217727 (.int .i64)) .unit))) (.pair (.int .i64) (.pair .bool .unit)))))), .st (.pair (.int .u64) (.pair (.int .i64) (.pair .txt (.pair (.int .u64) (.pair (.int .u64) (.pair .txt (.pair (.sl 134217727 (.int .u64)) (.pair (.sl 134217727 (.int .i64)) (.pair (.int .i64) (.pair (.int .i64) (.pair (.int .i64) .unit)))))))))))] fun xs => FC Try.prog 7 [] xs ⟨[], [], .im (.val (.bool true))⟩ := by
  obtain ⟨fu, hfu⟩ : ∃ fu : Nat, 16777216 < fu := ⟨_, Nat.lt_succ_self _⟩
  exact law_of (by rfl) (g7 fu) (fun (p : D_api_Plan) hp (z : D_api_Seen) hz (v : D_api_Plan) _ => by
    obtain ⟨a, c, f, h, i, j, k, l, m, n, o⟩ := p
    have hk : k.length * 134217727 ≤ 140737488351232 := hp.2.2.2.2.2.2.1.1
    have hl : l.length * 134217727 ≤ 140737488351232 := hp.2.2.2.2.2.2.2.1.1
    obtain ⟨q, s, t, ⟨u, w⟩, x, y⟩ := z
    have hq : q.length * 134217727 ≤ 140737488351232 := hz.1.1
    have hs : s.length * 134217727 ≤ 140737488351232 := hz.2.1.1
    have ht : t.length * 134217727 ≤ 140737488351232 := hz.2.2.1.1
    have hu : u.length * 134217727 ≤ 140737488351232 := hz.2.2.2.1.1.1
    have hw : w.length * 134217727 ≤ 140737488351232 := hz.2.2.2.1.2.1
    obtain ⟨a2, c2, f2, h2, i2, j2, k2, l2, m2, n2, o2⟩ := v
    exact p7_is a c f h i j k l m n o q s t u w x y a2 c2 f2 h2 i2 j2 k2 l2 m2 n2 o2 (by omega) (by omega) (by omega) (by omega) (by omega) (by omega) (by omega))

set_option maxRecDepth 100000 in
theorem plansNamed_liftedU (os : Os) (started : os.Started) (H : Type) (enc : TypeId × Value → H) (F : Stop.Interp) :
    ReturnsInHanded {} Try.checked os 7 .any ((Rows.OpenSpec.upto Rows.plansNamedSpec).pre6 enc Try.prog Try.f7 Rows.plansNamedUptoRow.domain false) (((Rows.OpenSpec.upto Rows.plansNamedSpec).at F).post enc Try.prog Try.f7 false true false false) :=
  law_liftedU (C := Try.checked) ownK laidOut started (by kernel_rfl) Try.func7
    (witnessU (s := Rows.OpenSpec.upto Rows.plansNamedSpec) (k := Rows.uptoSmall) (enc := enc) (C := Try.checked) rfl false ⟨#[], #[.agg #[.int .u64 0, .int .i64 0, .string ⟨#[]⟩, .int .u64 0, .int .u64 0, .string ⟨#[]⟩, .slice none 0 0, .slice none 0 0, .int .i64 0, .int .i64 0, .int .i64 0], .agg #[.slice none 0 0, .slice none 0 0, .slice none 0 0, .slice none 0 0, .slice none 0 0, .int .i64 0, .bool false], .agg #[.int .u64 0, .int .i64 0, .string ⟨#[]⟩, .int .u64 0, .int .u64 0, .string ⟨#[]⟩, .slice none 0 0, .slice none 0 0, .int .i64 0, .int .i64 0, .int .i64 0]], []⟩ 8 (by kernel_rfl) (by kernel_rfl) (by kernel_rfl) (by kernel_rfl) (by kernel_rfl))
    rfl rfl Try.underlying4 (of_decide_eq_true (by kernel_rfl)) (fun l hl => by match l, hl with | [_, _, _], _ => rfl)
    [.st (.pair (.int .u64) (.pair (.int .i64) (.pair .str (.pair (.int .u64) (.pair (.int .u64) (.pair .str (.pair (.sl 8 (.int .u64)) (.pair (.sl 8 (.int .i64)) (.pair (.int .i64) (.pair (.int .i64) (.pair (.int .i64) .unit))))))))))), .st (.pair (.sl 8 (.int .u64)) (.pair (.sl 16 (.st (.pair (.int .u64) (.pair (.int .i64) .unit)))) (.pair (.sl 16 (.st (.pair (.int .u64) (.pair (.int .i64) .unit)))) (.pair (.st (.pair (.sl 8 (.int .i64)) (.pair (.sl 8 (.int .i64)) .unit))) (.pair (.int .i64) (.pair .bool .unit)))))), .st (.pair (.int .u64) (.pair (.int .i64) (.pair .str (.pair (.int .u64) (.pair (.int .u64) (.pair .str (.pair (.sl 8 (.int .u64)) (.pair (.sl 8 (.int .i64)) (.pair (.int .i64) (.pair (.int .i64) (.pair (.int .i64) .unit)))))))))))] rfl (by kernel_rfl) (by kernel_rfl) plansNamedAll F

theorem plansNamed_holdsU : Rows.PlansNamedUptoSaid :=
  OpenClaim.holds_of_cond 7 Try.f7 rfl rfl rfl rfl rfl rfl rfl ⟨rfl, rfl, rfl, rfl, rfl⟩ rfl rfl rfl rfl rfl (by kernel_rfl) Try.func7 (by kernel_rfl)
    (of_decide_eq_true (by kernel_rfl)) (by unfold Func.isWrapper; first | (rw [if_pos (by decide +kernel)]; kernel_rfl) | (rw [if_neg (by decide +kernel)]; exact ⟨rfl, rfl⟩))
    (fun os started H enc _ F => plansNamed_liftedU os started H enc F)
#print axioms plansNamed_holdsU
end Go.Proofs.Ytcfkmeflnglgfaa
