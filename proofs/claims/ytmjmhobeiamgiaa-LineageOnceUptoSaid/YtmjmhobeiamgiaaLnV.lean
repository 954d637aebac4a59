/-
  Proved here: LineageOnce returns true for any two states and any key: what is not new to a state is not new to any that is made of it; its arguments read afterwards as before. Conditions: what it is given is of small bulk (2^20 at most in all).
-/
import Derived.Test.YtmjmhobeiamgiaaUp
import Derived.Test.YtmjmhobeiamgiaaLnW
import Derived.Test.YtmjmhobeiamgiaaDaM
import Derived.Test.YtmjmhobeiamgiaaLaw
namespace Go.Proofs.Ytmjmhobeiamgiaa
open Go.ChangeShapes Go.WideShapes Go.ChangeAt Go.RowKit
/-- What is handed in is of bounded size. -/
theorem bnd_of {lo up : ByteArray} {e z : Int} {r : List Rd} {ps : List Pr} {cs : List Cn} (h : (Ty.up (.st (.pair (.st (.pair (.str) (.pair (.str) (.unit)))) (.pair (.int .u64) (.pair (.int .u64) (.pair (.sl 64 (.st (.pair (.int .u64) (.pair (.str) (.pair (.sl 1 (.int .u8)) (.pair (.int .u64) (.pair (.int .u64) (.unit)))))))) (.pair (.sl 32 (.st (.pair (.int .u64) (.pair (.int .u64) (.pair (.bool) (.pair (.int .u64) (.unit))))))) (.pair (.sl 24 (.st (.pair (.str) (.pair (.int .u64) (.unit))))) (.unit))))))))).okD ((lo, up), e, z, r, ps, cs)) :
    bndS (lo, up, e, z, r, ps, cs, ()) ∧ r.length ≤ 1048576 ∧ 0 ≤ e ∧ e < 18446744073709551616 ∧ ∀ x ∈ r, x.2.2.1.length ≤ 1048576 := by
  obtain ⟨_, h0, _, h1, h2, h3⟩ := h
  have a1 : r.length * 134217727 ≤ 140737488351232 := h1.1
  have a2 : ps.length * 134217727 ≤ 140737488351232 := h2.1
  have a3 : cs.length * 134217727 ≤ 140737488351232 := h3.1
  have a4 : (0 : Int) ≤ e := h0.1
  have a5 : e ≤ 18446744073709551615 := h0.2
  refine ⟨⟨by omega, by omega, ⟨by omega, fun y hy => ⟨Nat.le_trans (h3.2.2 y hy).1 (by decide), (h3.2.2 y hy).2.1, Int.lt_of_le_of_lt (h3.2.2 y hy).2.2 (by decide)⟩⟩, fun y hy => (h2.2.2 y hy).2.2.2.1⟩, by omega, a4, by omega, fun x hx => ?_⟩
  have a6 : x.2.2.1.length * 134217727 ≤ 140737488351232 := (h1.2.2 x hx).2.2.1.1
  omega
theorem seq_of {lo up : ByteArray} {e z : Int} {r : List Rd} {ps : List Pr} {cs : List Cn} (h : (Ty.up (.st (.pair (.st (.pair (.str) (.pair (.str) (.unit)))) (.pair (.int .u64) (.pair (.int .u64) (.pair (.sl 64 (.st (.pair (.int .u64) (.pair (.str) (.pair (.sl 1 (.int .u8)) (.pair (.int .u64) (.pair (.int .u64) (.unit)))))))) (.pair (.sl 32 (.st (.pair (.int .u64) (.pair (.int .u64) (.pair (.bool) (.pair (.int .u64) (.unit))))))) (.pair (.sl 24 (.st (.pair (.str) (.pair (.int .u64) (.unit))))) (.unit))))))))).okD ((lo, up), e, z, r, ps, cs)) : ∀ x ∈ ps, 0 ≤ x.2.1 ∧ x.2.1 < 18446744073709551616 := fun x hx => by
  obtain ⟨_, _, _, _, h2, _⟩ := h
  have h3 : (0 : Int) ≤ x.2.1 := (h2.2.2 x hx).2.1.1
  have h4 : x.2.1 ≤ 18446744073709551615 := (h2.2.2 x hx).2.1.2
  exact ⟨h3, by omega⟩
theorem lineageOnceAll : Ty.alls [.st (.pair (.st (.pair (.txt) (.pair (.txt) (.unit)))) (.pair (.int .u64) (.pair (.int .u64) (.pair (.sl 134217727 (.st (.pair (.int .u64) (.pair (.txt) (.pair (.sl 134217727 (.int .u8)) (.pair (.int .u64) (.pair (.int .u64) (.unit)))))))) (.pair (.sl 134217727 (.st (.pair (.int .u64) (.pair (.int .u64) (.pair (.bool) (.pair (.int .u64) (.unit))))))) (.pair (.sl 134217727 (.st (.pair (.txt) (.pair (.int .u64) (.unit))))) (.unit))))))), .txt, .st (.pair (.st (.pair (.txt) (.pair (.txt) (.unit)))) (.pair (.int .u64) (.pair (.int .u64) (.pair (.sl 134217727 (.st (.pair (.int .u64) (.pair (.txt) (.pair (.sl 134217727 (.int .u8)) (.pair (.int .u64) (.pair (.int .u64) (.unit)))))))) (.pair (.sl 134217727 (.st (.pair (.int .u64) (.pair (.int .u64) (.pair (.bool) (.pair (.int .u64) (.unit))))))) (.pair (.sl 134217727 (.st (.pair (.txt) (.pair (.int .u64) (.unit))))) (.unit)))))))] fun xs => FC Try.prog 6 [] xs ⟨[], [], .im (.val (.bool true))⟩ := by
  obtain ⟨fu, hfu⟩ : ∃ fu : Nat, 140737488355328 < fu := ⟨_, Nat.lt_succ_self _⟩
  exact law_of (by rfl) (g6 fu) (fun x hx (key : ByteArray) _ y hy => by
    obtain ⟨⟨(lo : ByteArray), (up : ByteArray)⟩, (e : Int), (z : Int), (r : List Rd), (ps : List Pr), (cs : List Cn)⟩ := x
    obtain ⟨⟨(lo' : ByteArray), (up' : ByteArray)⟩, (e' : Int), (z' : Int), (r' : List Rd), (ps' : List Pr), (cs' : List Cn)⟩ := y
    obtain ⟨b1, b2, b3, b4, b5⟩ := bnd_of hx
    obtain ⟨c1, c2, c3, c4, c5⟩ := bnd_of hy
    exact p6_is (lo, up, e, z, r, ps, cs, ()) (lo', up', e', z', r', ps', cs', ()) key b1 c1 b2 c2 b5 c5 b3 b4 c3 c4 (seq_of hx) (seq_of hy) (by omega))

set_option maxRecDepth 100000 in
theorem lineageOnce_liftedU (os : Os) (started : os.Started) (H : Type) (enc : TypeId × Value → H) (F : Stop.Interp) :
    ReturnsInHanded {} Try.checked os 6 .any ((Rows.OpenSpec.upto Rows.lineageOnceSpec).pre6 enc Try.prog Try.f6 Rows.lineageOnceUptoRow.domain false) (((Rows.OpenSpec.upto Rows.lineageOnceSpec).at F).post enc Try.prog Try.f6 false true false false) :=
  law_liftedU (C := Try.checked) ownK laidOut started (by kernel_rfl) Try.func6
    (witnessU (s := Rows.OpenSpec.upto Rows.lineageOnceSpec) (k := Rows.uptoSmall) (enc := enc) (C := Try.checked) rfl false ⟨#[], #[.agg #[.string ⟨#[]⟩, .string ⟨#[]⟩, .int .u64 0, .int .u64 0, .slice none 0 0, .slice none 0 0, .slice none 0 0], .string ⟨#[]⟩, .agg #[.string ⟨#[]⟩, .string ⟨#[]⟩, .int .u64 0, .int .u64 0, .slice none 0 0, .slice none 0 0, .slice none 0 0]], []⟩ 8 (by kernel_rfl) (by kernel_rfl) (by kernel_rfl) (by kernel_rfl) (by kernel_rfl))
    rfl rfl Try.underlying4 (of_decide_eq_true (by kernel_rfl)) (fun l hl => by match l, hl with | [_, _, _], _ => rfl)
    [.st (.pair (.st (.pair (.str) (.pair (.str) (.unit)))) (.pair (.int .u64) (.pair (.int .u64) (.pair (.sl 64 (.st (.pair (.int .u64) (.pair (.str) (.pair (.sl 1 (.int .u8)) (.pair (.int .u64) (.pair (.int .u64) (.unit)))))))) (.pair (.sl 32 (.st (.pair (.int .u64) (.pair (.int .u64) (.pair (.bool) (.pair (.int .u64) (.unit))))))) (.pair (.sl 24 (.st (.pair (.str) (.pair (.int .u64) (.unit))))) (.unit))))))), .str, .st (.pair (.st (.pair (.str) (.pair (.str) (.unit)))) (.pair (.int .u64) (.pair (.int .u64) (.pair (.sl 64 (.st (.pair (.int .u64) (.pair (.str) (.pair (.sl 1 (.int .u8)) (.pair (.int .u64) (.pair (.int .u64) (.unit)))))))) (.pair (.sl 32 (.st (.pair (.int .u64) (.pair (.int .u64) (.pair (.bool) (.pair (.int .u64) (.unit))))))) (.pair (.sl 24 (.st (.pair (.str) (.pair (.int .u64) (.unit))))) (.unit)))))))] rfl (by kernel_rfl) (by kernel_rfl) lineageOnceAll F

theorem lineageOnce_holdsU : Rows.LineageOnceUptoSaid :=
  OpenClaim.holds_of_cond 6 Try.f6 rfl rfl rfl rfl rfl rfl rfl ⟨rfl, rfl, rfl, rfl, rfl⟩ rfl rfl rfl rfl rfl (by kernel_rfl) Try.func6 (by kernel_rfl)
    (of_decide_eq_true (by kernel_rfl)) (by unfold Func.isWrapper; first | (rw [if_pos (by decide +kernel)]; kernel_rfl) | (rw [if_neg (by decide +kernel)]; exact ⟨rfl, rfl⟩))
    (fun os started H enc _ F => lineageOnce_liftedU os started H enc F)
#print axioms lineageOnce_holdsU
end Go.Proofs.Ytmjmhobeiamgiaa
