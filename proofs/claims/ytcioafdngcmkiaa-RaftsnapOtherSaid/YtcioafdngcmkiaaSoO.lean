/-
  Proved here: RaftsnapOther returns true for every two snapshots and every number, and its arguments read afterwards as before. Conditions: none.
-/
import Derived.Test.YtcioafdngcmkiaaSoB
import Derived.Test.YtcioafdngcmkiaaDaM
import Derived.Test.YtcioafdngcmkiaaLaw
namespace Go.Proofs.Ytcioafdngcmkiaa
open Go.ChangeShapes Go.WideShapes Go.ChangeAt Go.RowKit
theorem raftsnapOtherAll : Ty.alls [.st (.pair (.int .u64) (.pair (.int .u64) (.pair (.st (.pair (.sl 8 (.int .i64)) (.pair (.sl 8 (.int .i64)) .unit))) (.pair (.sl 1 (.int .u8)) .unit)))), .st (.pair (.int .u64) (.pair (.int .u64) (.pair (.st (.pair (.sl 8 (.int .i64)) (.pair (.sl 8 (.int .i64)) .unit))) (.pair (.sl 1 (.int .u8)) .unit)))), .int .i64] fun xs => FC Try.prog 6 [] xs ⟨[], [], .im (.val (.bool true))⟩ := by
  obtain ⟨fu, hfu⟩ : ∃ fu : Nat, 140737488355330 < fu := ⟨_, Nat.lt_succ_self _⟩
  exact law_of (by rfl) (g6 fu) (fun x hx y hy (k : Int) hk => by
    obtain ⟨(i : Int), (t : Int), ⟨(v : List Int), (l : List Int)⟩, (d : List Int)⟩ := x
    obtain ⟨(i' : Int), (t' : Int), ⟨(v' : List Int), (l' : List Int)⟩, (d' : List Int)⟩ := y
    have h1 : v.length * 8 ≤ 140737488351232 := hx.2.2.1.1.1
    have h2 : l.length * 8 ≤ 140737488351232 := hx.2.2.1.2.1
    have h3 : d.length * 1 ≤ 140737488351232 := hx.2.2.2.1
    have k1 : v'.length * 8 ≤ 140737488351232 := hy.2.2.1.1.1
    have k2 : l'.length * 8 ≤ 140737488351232 := hy.2.2.1.2.1
    have k3 : d'.length * 1 ≤ 140737488351232 := hy.2.2.2.1
    exact p6_is i t v l d i' t' v' l' d' k (by omega) (by omega) (by omega) (by omega) (by omega) (by omega) hfu)

set_option maxRecDepth 100000 in
theorem raftsnapOther_lifted (os : Os) (started : os.Started) (H : Type) (enc : TypeId × Value → H) :
    ReturnsInHanded {} Try.checked os 6 .any (Rows.raftsnapOtherSpec.pre6 enc Try.prog Try.f6 Rows.raftsnapOtherRow.domain false) (Rows.raftsnapOtherSpec.post enc Try.prog Try.f6 false true false false) :=
  law_lifted (C := Try.checked) ownK laidOut started (by kernel_rfl) Try.func6
    (ChangeSpec.witness6 (enc := enc) (C := Try.checked) false ⟨#[], #[.agg #[.int .u64 0, .int .u64 0, .slice none 0 0, .slice none 0 0, .slice none 0 0], .agg #[.int .u64 0, .int .u64 0, .slice none 0 0, .slice none 0 0, .slice none 0 0], .int .i64 0], []⟩ 8 (by kernel_rfl) (by kernel_rfl) (by kernel_rfl) (by kernel_rfl))
    rfl rfl Try.underlying4 (of_decide_eq_true (by kernel_rfl)) (fun l hl => by match l, hl with | [_, _, _], _ => rfl)
    [.st (.pair (.int .u64) (.pair (.int .u64) (.pair (.st (.pair (.sl 8 (.int .i64)) (.pair (.sl 8 (.int .i64)) .unit))) (.pair (.sl 1 (.int .u8)) .unit)))), .st (.pair (.int .u64) (.pair (.int .u64) (.pair (.st (.pair (.sl 8 (.int .i64)) (.pair (.sl 8 (.int .i64)) .unit))) (.pair (.sl 1 (.int .u8)) .unit)))), .int .i64] rfl (by kernel_rfl) raftsnapOtherAll

theorem raftsnapOther_holds : Rows.RaftsnapOtherSaid :=
  OpenClaim.holds_of_wide 6 Try.f6 rfl rfl rfl rfl rfl rfl rfl ⟨rfl, rfl, rfl, rfl, rfl⟩ rfl rfl rfl rfl rfl (by kernel_rfl) Try.func6 (by kernel_rfl)
    (of_decide_eq_true (by kernel_rfl)) (by unfold Func.isWrapper; first | (rw [if_pos (by decide +kernel)]; kernel_rfl) | (rw [if_neg (by decide +kernel)]; exact ⟨rfl, rfl⟩))
    (fun os started H enc _ => raftsnapOther_lifted os started H enc)
#print axioms raftsnapOther_holds
end Go.Proofs.Ytcioafdngcmkiaa
