/-
  Proved here: RaftsnapTakes returns true for every part that has come, all messages and every configuration, and its arguments read afterwards as before. Conditions: each argument and each list in it of small bulk (2^20 at most in all).
-/
import Derived.Test.YtcioafdngcmkiaaUp
import Derived.Test.YtcioafdngcmkiaaSoB
import Derived.Test.YtcioafdngcmkiaaDaM
import Derived.Test.YtcioafdngcmkiaaLaw
namespace Go.Proofs.Ytcioafdngcmkiaa
open Go.ChangeShapes Go.WideShapes Go.ChangeAt Go.RowKit
theorem raftsnapTakesAll : Ty.alls [.st (.pair (.int .u64) (.pair (.int .u64) (.pair (.sl 134217727 (.int .u8)) .unit))), .sl 134217727 (.st (.pair (.int .i64) (.pair (.int .i64) (.pair (.int .i64) (.pair (.int .u64) (.pair (.int .u64) (.pair (.int .u64) (.pair (.sl 134217727 (.st (.pair (.int .u64) (.pair (.int .u64) (.pair (.int .i64) (.pair (.sl 134217727 (.int .u8)) (.pair (.st (.pair (.sl 134217727 (.int .i64)) (.pair (.sl 134217727 (.int .i64)) .unit))) .unit))))))) (.pair (.int .u64) (.pair (.bool) (.pair (.int .u64) (.pair (.st (.pair (.sl 134217727 (.int .i64)) (.pair (.sl 134217727 (.int .i64)) .unit))) (.pair (.sl 134217727 (.int .u8)) (.pair (.bool) (.unit))))))))))))))), .st (.pair (.sl 134217727 (.int .i64)) (.pair (.sl 134217727 (.int .i64)) .unit))] fun xs => FC Try.prog 4 [] xs ⟨[], [], .im (.val (.bool true))⟩ := by
  obtain ⟨fu, hfu⟩ : ∃ fu : Nat, 140737488355330 < fu := ⟨_, Nat.lt_succ_self _⟩
  exact law_of (by rfl) (g4 fu) (fun x hx (l : List D_api_Msg) hl y hy => by
    obtain ⟨(i : Int), (t : Int), (d : List Int)⟩ := x
    obtain ⟨(v : List Int), (w : List Int)⟩ := y
    have h1 : d.length * 134217727 ≤ 140737488351232 := hx.2.2.1
    have h2 : l.length * 134217727 ≤ 140737488351232 := hl.1
    have h3 : v.length * 134217727 ≤ 140737488351232 := hy.1.1
    have h4 : w.length * 134217727 ≤ 140737488351232 := hy.2.1
    refine p4_is i t d l v w (by omega) (by omega) (fun m hm => ?_) (by omega) (by omega) (by omega)
    have k := hl.2.2 m hm
    have h5 : m.2.2.2.2.2.2.2.2.2.2.2.1.length * 134217727 ≤ 140737488351232 := k.2.2.2.2.2.2.2.2.2.2.2.1.1
    omega)

set_option maxRecDepth 100000 in
theorem raftsnapTakes_liftedU (os : Os) (started : os.Started) (H : Type) (enc : TypeId × Value → H) (F : Stop.Interp) :
    ReturnsInHanded {} Try.checked os 4 .any ((Rows.OpenSpec.upto Rows.raftsnapTakesSpec).pre6 enc Try.prog Try.f4 Rows.raftsnapTakesUptoRow.domain false) (((Rows.OpenSpec.upto Rows.raftsnapTakesSpec).at F).post enc Try.prog Try.f4 false true false false) :=
  law_liftedU (C := Try.checked) ownK laidOut started (by kernel_rfl) Try.func4
    (witnessU (s := Rows.OpenSpec.upto Rows.raftsnapTakesSpec) (k := Rows.uptoSmall) (enc := enc) (C := Try.checked) rfl false ⟨#[], #[.agg #[.int .u64 0, .int .u64 0, .slice none 0 0], .slice none 0 0, .agg #[.slice none 0 0, .slice none 0 0]], []⟩ 8 (by kernel_rfl) (by kernel_rfl) (by kernel_rfl) (by kernel_rfl) (by kernel_rfl))
    rfl rfl Try.underlying4 (of_decide_eq_true (by kernel_rfl)) (fun l hl => by match l, hl with | [_, _, _], _ => rfl)
    [.st (.pair (.int .u64) (.pair (.int .u64) (.pair (.sl 1 (.int .u8)) .unit))), .sl 176 (.st (.pair (.int .i64) (.pair (.int .i64) (.pair (.int .i64) (.pair (.int .u64) (.pair (.int .u64) (.pair (.int .u64) (.pair (.sl 96 (.st (.pair (.int .u64) (.pair (.int .u64) (.pair (.int .i64) (.pair (.sl 1 (.int .u8)) (.pair (.st (.pair (.sl 8 (.int .i64)) (.pair (.sl 8 (.int .i64)) .unit))) .unit))))))) (.pair (.int .u64) (.pair (.bool) (.pair (.int .u64) (.pair (.st (.pair (.sl 8 (.int .i64)) (.pair (.sl 8 (.int .i64)) .unit))) (.pair (.sl 1 (.int .u8)) (.pair (.bool) (.unit))))))))))))))), .st (.pair (.sl 8 (.int .i64)) (.pair (.sl 8 (.int .i64)) .unit))] rfl (by kernel_rfl) (by kernel_rfl) raftsnapTakesAll F

theorem raftsnapTakes_holdsU : Rows.RaftsnapTakesUptoSaid :=
  OpenClaim.holds_of_cond 4 Try.f4 rfl rfl rfl rfl rfl rfl rfl ⟨rfl, rfl, rfl, rfl, rfl⟩ rfl rfl rfl rfl rfl (by kernel_rfl) Try.func4 (by kernel_rfl)
    (of_decide_eq_true (by kernel_rfl)) (by unfold Func.isWrapper; first | (rw [if_pos (by decide +kernel)]; kernel_rfl) | (rw [if_neg (by decide +kernel)]; exact ⟨rfl, rfl⟩))
    (fun os started H enc _ F => raftsnapTakes_liftedU os started H enc F)
#print axioms raftsnapTakes_holdsU
end Go.Proofs.Ytcioafdngcmkiaa
