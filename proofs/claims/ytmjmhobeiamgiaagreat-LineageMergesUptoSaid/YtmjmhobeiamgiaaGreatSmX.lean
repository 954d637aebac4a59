/-
  Proved here: LineageMerges returns true for any two states: what becomes of two states that are joined is the document's, what came out may be written over, and the states stay; its arguments read afterwards as before. Conditions: what it is given is of small bulk (2^20 at most in all).
-/
import Derived.Test.YtmjmhobeiamgiaaGreatUp
import Derived.Test.YtmjmhobeiamgiaaGreatSmW
import Derived.Test.YtmjmhobeiamgiaaGreatDaM
import Derived.Test.YtmjmhobeiamgiaaGreatLaw
namespace Go.Proofs.YtmjmhobeiamgiaaGreat
open Go.ChangeShapes Go.WideShapes Go.ChangeAt Go.RowKit
theorem int_u {x : Int} (h : 0 ≤ x ∧ x ≤ 18446744073709551615) : isU x := ⟨h.1, by omega⟩
/-- What is handed in is of bounded size. -/
theorem fit_of {lo up : ByteArray} {e z : Int} {r : List Rd} {ps : List Pr} {cs : List Cn} (h : (Ty.up (.st (.pair (.st (.pair (.str) (.pair (.str) (.unit)))) (.pair (.int .u64) (.pair (.int .u64) (.pair (.sl 64 (.st (.pair (.int .u64) (.pair (.str) (.pair (.sl 1 (.int .u8)) (.pair (.int .u64) (.pair (.int .u64) (.unit)))))))) (.pair (.sl 32 (.st (.pair (.int .u64) (.pair (.int .u64) (.pair (.bool) (.pair (.int .u64) (.unit))))))) (.pair (.sl 24 (.st (.pair (.str) (.pair (.int .u64) (.unit))))) (.unit))))))))).okD ((lo, up), e, z, r, ps, cs)) : fitS (lo, up, e, z, r, ps, cs, ()) := by
 obtain ⟨hr, h0, hz, h1, h2, h3⟩ := h
 have a1 : r.length * 134217727 ≤ 140737488351232 := h1.1
 have a2 : ps.length * 134217727 ≤ 140737488351232 := h2.1
 have a3 : cs.length * 134217727 ≤ 140737488351232 := h3.1
 refine ⟨Nat.le_trans hr.1 (by decide), Nat.le_trans hr.2 (by decide), int_u h0, int_u hz, ⟨by omega, fun x hx => ?_⟩, ⟨by omega, fun y hy => ?_⟩, by omega, fun y hy => ?_⟩
 ·obtain ⟨b1, b2, b3, b4, b5⟩ := h1.2.2 x hx
  have a6 : x.2.2.1.length * 134217727 ≤ 140737488351232 := b3.1
  exact ⟨int_u b1, Nat.le_trans b2 (by decide), by omega, int_u b4, int_u b5⟩
 ·obtain ⟨b1, b2, b3, b4⟩ := h2.2.2 y hy
  exact ⟨int_u b1, int_u b2, int_u b4⟩
 ·obtain ⟨b1, b2⟩ := h3.2.2 y hy
  exact ⟨Nat.le_trans b1 (by decide), int_u b2⟩
theorem lineageMergesAll : Ty.alls [.st (.pair (.st (.pair (.txt) (.pair (.txt) (.unit)))) (.pair (.int .u64) (.pair (.int .u64) (.pair (.sl 134217727 (.st (.pair (.int .u64) (.pair (.txt) (.pair (.sl 134217727 (.int .u8)) (.pair (.int .u64) (.pair (.int .u64) (.unit)))))))) (.pair (.sl 134217727 (.st (.pair (.int .u64) (.pair (.int .u64) (.pair (.bool) (.pair (.int .u64) (.unit))))))) (.pair (.sl 134217727 (.st (.pair (.txt) (.pair (.int .u64) (.unit))))) (.unit))))))), .st (.pair (.st (.pair (.txt) (.pair (.txt) (.unit)))) (.pair (.int .u64) (.pair (.int .u64) (.pair (.sl 134217727 (.st (.pair (.int .u64) (.pair (.txt) (.pair (.sl 134217727 (.int .u8)) (.pair (.int .u64) (.pair (.int .u64) (.unit)))))))) (.pair (.sl 134217727 (.st (.pair (.int .u64) (.pair (.int .u64) (.pair (.bool) (.pair (.int .u64) (.unit))))))) (.pair (.sl 134217727 (.st (.pair (.txt) (.pair (.int .u64) (.unit))))) (.unit)))))))] fun xs => FC Tryz.prog 3 [] xs ⟨[], [], .im (.val (.bool true))⟩ := by
 obtain ⟨fu, hfu⟩ : ∃ fu : Nat, 140737488355328 < fu := ⟨_, Nat.lt_succ_self _⟩
 exact law_of (by rfl) (g3 fu) (fun x hx y hy => by
  obtain ⟨⟨(lo : ByteArray), (up : ByteArray)⟩, (e : Int), (z : Int), (r : List Rd), (ps : List Pr), (cs : List Cn)⟩ := x
  obtain ⟨⟨(lo' : ByteArray), (up' : ByteArray)⟩, (e' : Int), (z' : Int), (r' : List Rd), (ps' : List Pr), (cs' : List Cn)⟩ := y
  exact p3_is (fit_of hx) (fit_of hy) (by omega))
set_option maxRecDepth 100000 in
theorem lineageMerges_liftedU (os : Os) (started : os.Started) (H : Type) (enc : TypeId × Value → H) (F : Stop.Interp) :
  ReturnsInHanded {} Tryz.checked os 3 .any ((Rows.OpenSpec.upto Rows.lineageMergesSpec).pre6 enc Tryz.prog Tryz.f3 Rows.lineageMergesUptoRow.domain false) (((Rows.OpenSpec.upto Rows.lineageMergesSpec).at F).post enc Tryz.prog Tryz.f3 false true false false) :=
 law_liftedU (C := Tryz.checked) ownK laidOut started (by kernel_rfl) Tryz.func3
  (witnessU (s := Rows.OpenSpec.upto Rows.lineageMergesSpec) (k := Rows.uptoSmall) (enc := enc) (C := Tryz.checked) rfl false ⟨#[], #[.agg #[.string ⟨#[]⟩, .string ⟨#[]⟩, .int .u64 0, .int .u64 0, .slice none 0 0, .slice none 0 0, .slice none 0 0], .agg #[.string ⟨#[]⟩, .string ⟨#[]⟩, .int .u64 0, .int .u64 0, .slice none 0 0, .slice none 0 0, .slice none 0 0]], []⟩ 8 (by kernel_rfl) (by kernel_rfl) (by kernel_rfl) (by kernel_rfl) (by kernel_rfl))
  rfl rfl Tryz.underlying4 (of_decide_eq_true (by kernel_rfl)) (fun l hl => by match l, hl with | [_, _], _ => rfl)
  [.st (.pair (.st (.pair (.str) (.pair (.str) (.unit)))) (.pair (.int .u64) (.pair (.int .u64) (.pair (.sl 64 (.st (.pair (.int .u64) (.pair (.str) (.pair (.sl 1 (.int .u8)) (.pair (.int .u64) (.pair (.int .u64) (.unit)))))))) (.pair (.sl 32 (.st (.pair (.int .u64) (.pair (.int .u64) (.pair (.bool) (.pair (.int .u64) (.unit))))))) (.pair (.sl 24 (.st (.pair (.str) (.pair (.int .u64) (.unit))))) (.unit))))))), .st (.pair (.st (.pair (.str) (.pair (.str) (.unit)))) (.pair (.int .u64) (.pair (.int .u64) (.pair (.sl 64 (.st (.pair (.int .u64) (.pair (.str) (.pair (.sl 1 (.int .u8)) (.pair (.int .u64) (.pair (.int .u64) (.unit)))))))) (.pair (.sl 32 (.st (.pair (.int .u64) (.pair (.int .u64) (.pair (.bool) (.pair (.int .u64) (.unit))))))) (.pair (.sl 24 (.st (.pair (.str) (.pair (.int .u64) (.unit))))) (.unit)))))))] rfl (by kernel_rfl) (by kernel_rfl) lineageMergesAll F
theorem lineageMerges_holdsU : Rows.LineageMergesUptoSaid :=
 OpenClaim.holds_of_cond 3 Tryz.f3 rfl rfl rfl rfl rfl rfl rfl ⟨rfl, rfl, rfl, rfl, rfl⟩ rfl rfl rfl rfl rfl (by kernel_rfl) Tryz.func3 (by kernel_rfl)
  (of_decide_eq_true (by kernel_rfl)) (by unfold Func.isWrapper; first | (rw [if_pos (by decide +kernel)]; kernel_rfl) | (rw [if_neg (by decide +kernel)]; exact ⟨rfl, rfl⟩))
  (fun os started H enc _ F => lineageMerges_liftedU os started H enc F)
#print axioms lineageMerges_holdsU
end Go.Proofs.YtmjmhobeiamgiaaGreat
