/-
  Proved here: RecordsWhole returns true for every list of records, and it reads afterwards as before. Conditions: each argument and each list in it of small bulk (2^20 at most in all).
-/
import Derived.Test.YtgneanhmjkdkaaaUp
import Derived.Test.YtgneanhmjkdkaaaRjWw
import Derived.Test.YtgneanhmjkdkaaaDaM
import Derived.Test.YtgneanhmjkdkaaaLaw
namespace Go.Proofs.Ytgneanhmjkdkaaa
open Go.ChangeShapes Go.WideShapes Go.ChangeAt Go.RowKit
theorem len20 {α : Type} {l : List α} (h : l.length * 134217727 ≤ 140737488351232) : l.length ≤ 1048576 := by omega
theorem inK_u16 {x : Int} (h : inK .u16 x) : 0 ≤ x ∧ x < 65536 := by
  have h1 : (0 : Int) ≤ x := h.1
  have h2 : x ≤ 65535 := h.2
  exact ⟨h1, by omega⟩
theorem recordsWholeAll : Ty.alls [.sl 134217727 (.st (.pair (.int .u64) (.pair .txt (.pair (.sl 134217727 (.int .u8)) (.pair (.int .u64) (.pair (.int .u64) .unit))))))] fun xs => FC Try.prog 10 [] xs ⟨[], [], .im (.val (.bool true))⟩ := by
  obtain ⟨fu, hfu⟩ : ∃ fu : Nat, 16777216 < fu := ⟨_, Nat.lt_succ_self _⟩
  exact law_of (by rfl) (g10 fu) (fun (l : List Rd) hl => by
    exact p10_is l (len20 hl.1) (fun x hx => len20 (hl.2.2 x hx).2.2.1.1) (by omega))

set_option maxRecDepth 100000 in
theorem recordsWhole_liftedU (os : Os) (started : os.Started) (H : Type) (enc : TypeId × Value → H) (F : Stop.Interp) :
    ReturnsInHanded {} Try.checked os 10 .any ((Rows.OpenSpec.upto Rows.recordsWholeSpec).pre6 enc Try.prog Try.f10 Rows.recordsWholeUptoRow.domain false) (((Rows.OpenSpec.upto Rows.recordsWholeSpec).at F).post enc Try.prog Try.f10 false true false false) :=
  law_liftedU (C := Try.checked) ownK laidOut started (by kernel_rfl) Try.func10
    (witnessU (s := Rows.OpenSpec.upto Rows.recordsWholeSpec) (k := Rows.uptoSmall) (enc := enc) (C := Try.checked) rfl false ⟨#[], #[.slice none 0 0], []⟩ 8 (by kernel_rfl) (by kernel_rfl) (by kernel_rfl) (by kernel_rfl) (by kernel_rfl))
    rfl rfl Try.underlying4 (of_decide_eq_true (by kernel_rfl)) (fun l hl => by match l, hl with | [_], _ => rfl)
    [.sl 64 (.st (.pair (.int .u64) (.pair .str (.pair (.sl 1 (.int .u8)) (.pair (.int .u64) (.pair (.int .u64) .unit))))))] rfl (by kernel_rfl) (by kernel_rfl) recordsWholeAll F

theorem recordsWhole_holdsU : Rows.RecordsWholeUptoSaid :=
  OpenClaim.holds_of_cond 10 Try.f10 rfl rfl rfl rfl rfl rfl rfl ⟨rfl, rfl, rfl, rfl, rfl⟩ rfl rfl rfl rfl rfl (by kernel_rfl) Try.func10 (by kernel_rfl)
    (of_decide_eq_true (by kernel_rfl)) (by unfold Func.isWrapper; first | (rw [if_pos (by decide +kernel)]; kernel_rfl) | (rw [if_neg (by decide +kernel)]; exact ⟨rfl, rfl⟩))
    (fun os started H enc _ F => recordsWhole_liftedU os started H enc F)
#print axioms recordsWhole_holdsU
end Go.Proofs.Ytgneanhmjkdkaaa
