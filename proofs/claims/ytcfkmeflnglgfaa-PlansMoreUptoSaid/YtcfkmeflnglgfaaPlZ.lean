/-
  Proved here: PlansMore returns true for every plan, whatever is seen, and whatever more is, and its arguments read afterwards as before. Conditions: each argument and each list in it of small bulk (2^20 at most in all).
-/
import Derived.Test.YtcfkmeflnglgfaaUp
import Derived.Test.YtcfkmeflnglgfaaPlL
import Derived.Test.YtcfkmeflnglgfaaDaM
import Derived.Test.YtcfkmeflnglgfaaLaw
namespace Go.Proofs.Ytcfkmeflnglgfaa
open Go.ChangeShapes Go.WideShapes Go.ChangeAt Go.RowKit
theorem plansMoreAll : Ty.alls [.st (.pair (.int .u64) (.pair (.int .i64) (.pair .txt (.pair (.int .u64) (.pair (.int .u64) (.pair .txt (.pair (.sl 134217727 (.int .u64)) (.pair (.sl 134217727 (.int .i64)) (.pair (.int .i64) (.pair (.int .i64) (.pair (.int .i64) .unit))))))))))), .st (.pair (.sl 134217727 (.int .u64)) (.pair (.sl 134217727 (.st (.pair (.int .u64) (.pair (.int .i64) .unit)))) (.pair (.sl 134217727 (.st (.pair (.int .u64) (.pair (.int .i64) .unit)))) (.pair (.st (.pair (.sl 134217727 (.int .i64)) (.pair (.sl 134217727 (.int .i64)) .unit))) (.pair (.int .i64) (.pair .bool .unit)))))), .st (.pair (.sl 134217727 (.int .u64)) (.pair (.sl 134217727 (.st (.pair (.int .u64) (.pair (.int .i64) .unit)))) (.pair (.sl 134217727 (.st (.pair (.int .u64) (.pair (.int .i64) .unit)))) (.pair (.st (.pair (.sl 134217727 (.int .i64)) (.pair (.sl 134217727 (.int .i64)) .unit))) (.pair (.int .i64) (.pair .bool .unit))))))] fun xs => FC Try.prog 6 [] xs ⟨[], [], .im (.val (.bool true))⟩ := by
  obtain ⟨fu, hfu⟩ : ∃ fu : Nat, 16777216 < fu := ⟨_, Nat.lt_succ_self _⟩
  exact law_of (by rfl) (g6 fu) (fun (p : D_api_Plan) hp (z : D_api_Seen) hz (v : D_api_Seen) hv => by
    obtain ⟨a, c, f, h, i, j, k, l, m, n, o⟩ := p
    have hk : k.length * 134217727 ≤ 140737488351232 := hp.2.2.2.2.2.2.1.1
    have hl : l.length * 134217727 ≤ 140737488351232 := hp.2.2.2.2.2.2.2.1.1
    obtain ⟨q, s, t, ⟨u, w⟩, x, y⟩ := z
    have hq : q.length * 134217727 ≤ 140737488351232 := hz.1.1
    have hs : s.length * 134217727 ≤ 140737488351232 := hz.2.1.1
    have ht : t.length * 134217727 ≤ 140737488351232 := hz.2.2.1.1
    have hu : u.length * 134217727 ≤ 140737488351232 := hz.2.2.2.1.1.1
    have hw : w.length * 134217727 ≤ 140737488351232 := hz.2.2.2.1.2.1
    obtain ⟨q2, s2, t2, ⟨u2, w2⟩, x2, y2⟩ := v
    have hq2 : q2.length * 134217727 ≤ 140737488351232 := hv.1.1
    have hs2 : s2.length * 134217727 ≤ 140737488351232 := hv.2.1.1
    have ht2 : t2.length * 134217727 ≤ 140737488351232 := hv.2.2.1.1
    have hu2 : u2.length * 134217727 ≤ 140737488351232 := hv.2.2.2.1.1.1
    have hw2 : w2.length * 134217727 ≤ 140737488351232 := hv.2.2.2.1.2.1
    exact p6_is a c f h i j k l m n o q s t u w x y q2 s2 t2 u2 w2 x2 y2 (by omega) (by omega) (by omega) (by omega) (by omega) (by omega) (by omega) (by omega) (by omega) (by omega))

set_option maxRecDepth 100000 in
theorem plansMore_liftedU (os : Os) (started : os.Started) (H : Type) (enc : TypeId × Value → H) (F : Stop.Interp) :
    ReturnsInHanded {} Try.checked os 6 .any ((Rows.OpenSpec.upto Rows.plansMoreSpec).pre6 enc Try.prog Try.f6 Rows.plansMoreUptoRow.domain false) (((Rows.OpenSpec.upto Rows.plansMoreSpec).at F).post enc Try.prog Try.f6 false true false false) :=
  law_liftedU (C := Try.checked) ownK laidOut started (by kernel_rfl) Try.func6
    (witnessU (s := Rows.OpenSpec.upto Rows.plansMoreSpec) (k := Rows.uptoSmall) (enc := enc) (C := Try.checked) rfl false ⟨#[], #[.agg #[.int .u64 0, .int .i64 0, .string ⟨#[]⟩, .int .u64 0, .int .u64 0, .string ⟨#[]⟩, .slice none 0 0, .slice none 0 0, .int .i64 0, .int .i64 0, .int .i64 0], .agg #[.slice none 0 0, .slice none 0 0, .slice none 0 0, .slice none 0 0, .slice none 0 0, .int .i64 0, .bool false], .agg #[.slice none 0 0, .slice none 0 0, .slice none 0 0, .slice none 0 0, .slice none 0 0, .int .i64 0, .bool false]], []⟩ 8 (by kernel_rfl) (by kernel_rfl) (by kernel_rfl) (by kernel_rfl) (by kernel_rfl))
    rfl rfl Try.underlying4 (of_decide_eq_true (by kernel_rfl)) (fun l hl => by match l, hl with | [_, _, _], _ => rfl)
    [.st (.pair (.int .u64) (.pair (.int .i64) (.pair .str (.pair (.int .u64) (.pair (.int .u64) (.pair .str (.pair (.sl 8 (.int .u64)) (.pair (.sl 8 (.int .i64)) (.pair (.int .i64) (.pair (.int .i64) (.pair (.int .i64) .unit))))))))))), .st (.pair (.sl 8 (.int .u64)) (.pair (.sl 16 (.st (.pair (.int .u64) (.pair (.int .i64) .unit)))) (.pair (.sl 16 (.st (.pair (.int .u64) (.pair (.int .i64) .unit)))) (.pair (.st (.pair (.sl 8 (.int .i64)) (.pair (.sl 8 (.int .i64)) .unit))) (.pair (.int .i64) (.pair .bool .unit)))))), .st (.pair (.sl 8 (.int .u64)) (.pair (.sl 16 (.st (.pair (.int .u64) (.pair (.int .i64) .unit)))) (.pair (.sl 16 (.st (.pair (.int .u64) (.pair (.int .i64) .unit)))) (.pair (.st (.pair (.sl 8 (.int .i64)) (.pair (.sl 8 (.int .i64)) .unit))) (.pair (.int .i64) (.pair .bool .unit))))))] rfl (by kernel_rfl) (by kernel_rfl) plansMoreAll F

theorem plansMore_holdsU : Rows.PlansMoreUptoSaid :=
  OpenClaim.holds_of_cond 6 Try.f6 rfl rfl rfl rfl rfl rfl rfl ⟨rfl, rfl, rfl, rfl, rfl⟩ rfl rfl rfl rfl rfl (by kernel_rfl) Try.func6 (by kernel_rfl)
    (of_decide_eq_true (by kernel_rfl)) (by unfold Func.isWrapper; first | (rw [if_pos (by decide +kernel)]; kernel_rfl) | (rw [if_neg (by decide +kernel)]; exact ⟨rfl, rfl⟩))
    (fun os started H enc _ F => plansMore_liftedU os started H enc F)
#print axioms plansMore_holdsU
end Go.Proofs.Ytcfkmeflnglgfaa
