/-
  Proved here: RecordsFull returns true for every two numbers of 16 bits, and its arguments read afterwards as before. Conditions: the arguments of small bulk (2^20 at most in all; two numbers always are).
-/
import Derived.Test.YtgneanhmjkdkaaaUp
import Derived.Test.YtgneanhmjkdkaaaRjWf
import Derived.Test.YtgneanhmjkdkaaaDaM
import Derived.Test.YtgneanhmjkdkaaaLaw
namespace Go.Proofs.Ytgneanhmjkdkaaa
open Go.ChangeShapes Go.WideShapes Go.ChangeAt Go.RowKit
theorem len20 {α : Type} {l : List α} (h : l.length * 134217727 ≤ 140737488351232) : l.length ≤ 1048576 := by omega
theorem inK_u16 {x : Int} (h : inK .u16 x) : 0 ≤ x ∧ x < 65536 := by
  have h1 : (0 : Int) ≤ x := h.1
  have h2 : x ≤ 65535 := h.2
  exact ⟨h1, by omega⟩
theorem recordsFullAll : Ty.alls [.int .u16, .int .u16] fun xs => FC Try.prog 6 [] xs ⟨[], [], .im (.val (.bool true))⟩ := by
  obtain ⟨fu, hfu⟩ : ∃ fu : Nat, 16777216 < fu := ⟨_, Nat.lt_succ_self _⟩
  exact law_of (by rfl) (g6 fu) (fun (a : Int) ha (c : Int) hc => by
    have ha := inK_u16 ha
    have hc := inK_u16 hc
    exact p6_is a c ha.1 ha.2 hc.1 hc.2 (by omega))

set_option maxRecDepth 100000 in
theorem recordsFull_liftedU (os : Os) (started : os.Started) (H : Type) (enc : TypeId × Value → H) (F : Stop.Interp) :
    ReturnsInHanded {} Try.checked os 6 .any ((Rows.OpenSpec.upto Rows.recordsFullSpec).pre6 enc Try.prog Try.f6 Rows.recordsFullUptoRow.domain false) (((Rows.OpenSpec.upto Rows.recordsFullSpec).at F).post enc Try.prog Try.f6 false true false false) :=
  law_liftedU (C := Try.checked) ownK laidOut started (by kernel_rfl) Try.func6
    (witnessU (s := Rows.OpenSpec.upto Rows.recordsFullSpec) (k := Rows.uptoSmall) (enc := enc) (C := Try.checked) rfl false ⟨#[], #[.int .u16 0, .int .u16 0], []⟩ 8 (by kernel_rfl) (by kernel_rfl) (by kernel_rfl) (by kernel_rfl) (by kernel_rfl))
    rfl rfl Try.underlying4 (of_decide_eq_true (by kernel_rfl)) (fun l hl => by match l, hl with | [_, _], _ => rfl)
    [.int .u16, .int .u16] rfl (by kernel_rfl) (by kernel_rfl) recordsFullAll F

theorem recordsFull_holdsU : Rows.RecordsFullUptoSaid :=
  OpenClaim.holds_of_cond 6 Try.f6 rfl rfl rfl rfl rfl rfl rfl ⟨rfl, rfl, rfl, rfl, rfl⟩ rfl rfl rfl rfl rfl (by kernel_rfl) Try.func6 (by kernel_rfl)
    (of_decide_eq_true (by kernel_rfl)) (by unfold Func.isWrapper; first | (rw [if_pos (by decide +kernel)]; kernel_rfl) | (rw [if_neg (by decide +kernel)]; exact ⟨rfl, rfl⟩))
    (fun os started H enc _ F => recordsFull_liftedU os started H enc F)
#print axioms recordsFull_holdsU
end Go.Proofs.Ytgneanhmjkdkaaa
