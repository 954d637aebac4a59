/-
  Proved here: LineageBack returns true for any state and any key: what is parted and joined again has all that it had; its arguments read afterwards as before. Conditions: what it is given is of small bulk (2^20 at most in all).
-/
import Derived.Test.YtmjmhobeiamgiaaUp
import Derived.Test.YtmjmhobeiamgiaaLnBk
import Derived.Test.YtmjmhobeiamgiaaDaM
import Derived.Test.YtmjmhobeiamgiaaLaw
namespace Go.Proofs.Ytmjmhobeiamgiaa
open Go.ChangeShapes Go.WideShapes Go.ChangeAt Go.RowKit
/-- What is handed in is of bounded size. -/
theorem bnd_of {lo up : ByteArray} {e z : Int} {r : List Rd} {ps : List Pr} {cs : List Cn} (h : (Ty.up (.st (.pair (.st (.pair (.str) (.pair (.str) (.unit)))) (.pair (.int .u64) (.pair (.int .u64) (.pair (.sl 64 (.st (.pair (.int .u64) (.pair (.str) (.pair (.sl 1 (.int .u8)) (.pair (.int .u64) (.pair (.int .u64) (.unit)))))))) (.pair (.sl 32 (.st (.pair (.int .u64) (.pair (.int .u64) (.pair (.bool) (.pair (.int .u64) (.unit))))))) (.pair (.sl 24 (.st (.pair (.str) (.pair (.int .u64) (.unit))))) (.unit))))))))).okD ((lo, up), e, z, r, ps, cs)) :
    bndS (lo, up, e, z, r, ps, cs, ()) ∧ r.length ≤ 1048576 ∧ 0 ≤ e ∧ e < 18446744073709551616 ∧ ∀ x ∈ r, x.2.2.1.length ≤ 1048576 := by
  obtain ⟨_, h0, _, h1, h2, h3⟩ := h
  have a1 : r.length * 134217727 ≤ 140737488351232 := h1.1
  have a2 : ps.length * 134217727 ≤ 140737488351232 := h2.1
  have a3 : cs.length * 134217727 ≤ 140737488351232 := h3.1
  have a4 : (0 : Int) ≤ e := h0.1
  have a5 : e ≤ 18446744073709551615 := h0.2
  refine ⟨⟨by omega, by omega, ⟨by omega, fun y hy => ⟨Nat.le_trans (h3.2.2 y hy).1 (by decide), (h3.2.2 y hy).2.1, Int.lt_of_le_of_lt (h3.2.2 y hy).2.2 (by decide)⟩⟩, fun y hy => (h2.2.2 y hy).2.2.2.1⟩, by omega, a4, by omega, fun x hx => ?_⟩
  have a6 : x.2.2.1.length * 134217727 ≤ 140737488351232 := (h1.2.2 x hx).2.2.1.1
  omega
theorem lineageBackAll : Ty.alls [.st (.pair (.st (.pair (.txt) (.pair (.txt) (.unit)))) (.pair (.int .u64) (.pair (.int .u64) (.pair (.sl 134217727 (.st (.pair (.int .u64) (.pair (.txt) (.pair (.sl 134217727 (.int .u8)) (.pair (.int .u64) (.pair (.int .u64) (.unit)))))))) (.pair (.sl 134217727 (.st (.pair (.int .u64) (.pair (.int .u64) (.pair (.bool) (.pair (.int .u64) (.unit))))))) (.pair (.sl 134217727 (.st (.pair (.txt) (.pair (.int .u64) (.unit))))) (.unit))))))), .txt] fun xs => FC Try.prog 7 [] xs ⟨[], [], .im (.val (.bool true))⟩ := by
  obtain ⟨fu, hfu⟩ : ∃ fu : Nat, 140737488355328 < fu := ⟨_, Nat.lt_succ_self _⟩
  exact law_of (by rfl) (g7 fu) (fun x hx (key : ByteArray) _ => by
    obtain ⟨⟨(lo : ByteArray), (up : ByteArray)⟩, (e : Int), (z : Int), (r : List Rd), (ps : List Pr), (cs : List Cn)⟩ := x
    obtain ⟨b1, b2, b3, b4, b5⟩ := bnd_of hx
    exact p7_is (lo, up, e, z, r, ps, cs, ()) key b1 b2 b3 b4 (by omega))

set_option maxRecDepth 100000 in
theorem lineageBack_liftedU (os : Os) (started : os.Started) (H : Type) (enc : TypeId × Value → H) (F : Stop.Interp) :
    ReturnsInHanded {} Try.checked os 7 .any ((Rows.OpenSpec.upto Rows.lineageBackSpec).pre6 enc Try.prog Try.f7 Rows.lineageBackUptoRow.domain false) (((Rows.OpenSpec.upto Rows.lineageBackSpec).at F).post enc Try.prog Try.f7 false true false false) :=
  law_liftedU (C := Try.checked) ownK laidOut started (by kernel_rfl) Try.func7
    (witnessU (s := Rows.OpenSpec.upto Rows.lineageBackSpec) (k := Rows.uptoSmall) (enc := enc) (C := Try.checked) rfl false ⟨#[], #[.agg #[.string ⟨#[]⟩, .string ⟨#[]⟩, .int .u64 0, .int .u64 0, .slice none 0 0, .slice none 0 0, .slice none 0 0], .string ⟨#[]⟩], []⟩ 8 (by kernel_rfl) (by kernel_rfl) (by kernel_rfl) (by kernel_rfl) (by kernel_rfl))
    rfl rfl Try.underlying4 (of_decide_eq_true (by kernel_rfl)) (fun l hl => by match l, hl with | [_, _], _ => rfl)
    [.st (.pair (.st (.pair (.str) (.pair (.str) (.unit)))) (.pair (.int .u64) (.pair (.int .u64) (.pair (.sl 64 (.st (.pair (.int .u64) (.pair (.str) (.pair (.sl 1 (.int .u8)) (.pair (.int .u64) (.pair (.int .u64) (.unit)))))))) (.pair (.sl 32 (.st (.pair (.int .u64) (.pair (.int .u64) (.pair (.bool) (.pair (.int .u64) (.unit))))))) (.pair (.sl 24 (.st (.pair (.str) (.pair (.int .u64) (.unit))))) (.unit))))))), .str] rfl (by kernel_rfl) (by kernel_rfl) lineageBackAll F

theorem lineageBack_holdsU : Rows.LineageBackUptoSaid :=
  OpenClaim.holds_of_cond 7 Try.f7 rfl rfl rfl rfl rfl rfl rfl ⟨rfl, rfl, rfl, rfl, rfl⟩ rfl rfl rfl rfl rfl (by kernel_rfl) Try.func7 (by kernel_rfl)
    (of_decide_eq_true (by kernel_rfl)) (by unfold Func.isWrapper; first | (rw [if_pos (by decide +kernel)]; kernel_rfl) | (rw [if_neg (by decide +kernel)]; exact ⟨rfl, rfl⟩))
    (fun os started H enc _ F => lineageBack_liftedU os started H enc F)
#print axioms lineageBack_holdsU
end Go.Proofs.Ytmjmhobeiamgiaa
