/-
  Proved here: RaftlogCompacts returns true for every log, every number and all bytes, and its arguments read afterwards as before. Conditions: each argument and each list in it of small bulk (2^20 at most in all).
-/
import Derived.Test.YtdblllnnccaccaaUp
import Derived.Test.YtdblllnnccaccaaCcW
import Derived.Test.YtdblllnnccaccaaDaM
import Derived.Test.YtdblllnnccaccaaLaw
namespace Go.Proofs.Ytdblllnnccaccaa
open Go.ChangeShapes Go.WideShapes Go.ChangeAt Go.RowKit
theorem small_of {l : List En} (h : (Ty.up (.sl 96 (.st (.pair (.int .u64) (.pair (.int .u64) (.pair (.int .i64) (.pair (.sl 1 (.int .u8)) (.pair (.st (.pair (.sl 8 (.int .i64)) (.pair (.sl 8 (.int .i64)) .unit))) .unit)))))))).okD l) : small 1048576 l := by
  have h1 : l.length * 134217727 ≤ 140737488351232 := h.1
  refine ⟨by omega, fun x hx => ?_⟩
  have k := h.2.2 x hx
  have k1 : x.2.2.2.1.length * 134217727 ≤ 140737488351232 := k.2.2.2.1.1
  have k2 : x.2.2.2.2.1.length * 134217727 ≤ 140737488351232 := k.2.2.2.2.1.1
  have k3 : x.2.2.2.2.2.length * 134217727 ≤ 140737488351232 := k.2.2.2.2.2.1
  exact ⟨by omega, by omega, by omega⟩
theorem log_of {x : D_api_Log} (h : (Ty.up (.st (.pair (.st (.pair (.int .u64) (.pair (.int .u64) (.pair (.st (.pair (.sl 8 (.int .i64)) (.pair (.sl 8 (.int .i64)) .unit))) (.pair (.sl 1 (.int .u8)) .unit))))) (.pair (.sl 96 (.st (.pair (.int .u64) (.pair (.int .u64) (.pair (.int .i64) (.pair (.sl 1 (.int .u8)) (.pair (.st (.pair (.sl 8 (.int .i64)) (.pair (.sl 8 (.int .i64)) .unit))) .unit))))))) .unit)))).okD x) : 0 ≤ x.1.1 ∧ smallB x.1.2.2.1.1 x.1.2.2.1.2 x.1.2.2.2 ∧ small 1048576 x.2 := by
  have k0 : 0 ≤ x.1.1 := h.1.1.1
  have k1 : x.1.2.2.1.1.length * 134217727 ≤ 140737488351232 := h.1.2.2.1.1.1
  have k2 : x.1.2.2.1.2.length * 134217727 ≤ 140737488351232 := h.1.2.2.1.2.1
  have k3 : x.1.2.2.2.length * 134217727 ≤ 140737488351232 := h.1.2.2.2.1
  exact ⟨k0, ⟨by omega, by omega, by omega⟩, small_of h.2⟩
theorem raftlogCompactsAll : Ty.alls [.st (.pair (.st (.pair (.int .u64) (.pair (.int .u64) (.pair (.st (.pair (.sl 134217727 (.int .i64)) (.pair (.sl 134217727 (.int .i64)) .unit))) (.pair (.sl 134217727 (.int .u8)) .unit))))) (.pair (.sl 134217727 (.st (.pair (.int .u64) (.pair (.int .u64) (.pair (.int .i64) (.pair (.sl 134217727 (.int .u8)) (.pair (.st (.pair (.sl 134217727 (.int .i64)) (.pair (.sl 134217727 (.int .i64)) .unit))) .unit))))))) .unit)), .int .u64, .sl 134217727 (.int .u8)] fun xs => FC Try.prog 4 [] xs ⟨[], [], .im (.val (.bool true))⟩ := by
  obtain ⟨fu, hfu⟩ : ∃ fu : Nat, 4194304 < fu := ⟨_, Nat.lt_succ_self _⟩
  exact law_of (by rfl) (g4 fu) (fun x hx (k : Int) hk (data : List Int) hd => by
    obtain ⟨⟨b, t, ⟨a2, a3⟩, a4⟩, l⟩ := x
    obtain ⟨k1, k2, k3⟩ := log_of hx
    have k4 : data.length * 134217727 ≤ 140737488351232 := hd.1
    exact p4_is b t a2 a3 a4 l k data k1 k2 (by omega) k3 hfu)

set_option maxRecDepth 100000 in
theorem raftlogCompacts_liftedU (os : Os) (started : os.Started) (H : Type) (enc : TypeId × Value → H) (F : Stop.Interp) :
    ReturnsInHanded {} Try.checked os 4 .any ((Rows.OpenSpec.upto Rows.raftlogCompactsSpec).pre6 enc Try.prog Try.f4 Rows.raftlogCompactsUptoRow.domain false) (((Rows.OpenSpec.upto Rows.raftlogCompactsSpec).at F).post enc Try.prog Try.f4 false true false false) :=
  law_liftedU (C := Try.checked) ownK laidOut started (by kernel_rfl) Try.func4
    (witnessU (s := Rows.OpenSpec.upto Rows.raftlogCompactsSpec) (k := Rows.uptoSmall) (enc := enc) (C := Try.checked) rfl false ⟨#[], #[.agg #[.int .u64 0, .int .u64 0, .slice none 0 0, .slice none 0 0, .slice none 0 0, .slice none 0 0], .int .u64 0, .slice none 0 0], []⟩ 8 (by kernel_rfl) (by kernel_rfl) (by kernel_rfl) (by kernel_rfl) (by kernel_rfl))
    rfl rfl Try.underlying4 (of_decide_eq_true (by kernel_rfl)) (fun l hl => by match l, hl with | [_, _, _], _ => rfl)
    [.st (.pair (.st (.pair (.int .u64) (.pair (.int .u64) (.pair (.st (.pair (.sl 8 (.int .i64)) (.pair (.sl 8 (.int .i64)) .unit))) (.pair (.sl 1 (.int .u8)) .unit))))) (.pair (.sl 96 (.st (.pair (.int .u64) (.pair (.int .u64) (.pair (.int .i64) (.pair (.sl 1 (.int .u8)) (.pair (.st (.pair (.sl 8 (.int .i64)) (.pair (.sl 8 (.int .i64)) .unit))) .unit))))))) .unit)), .int .u64, .sl 1 (.int .u8)] rfl (by kernel_rfl) (by kernel_rfl) raftlogCompactsAll F

theorem raftlogCompacts_holdsU : Rows.RaftlogCompactsUptoSaid :=
  OpenClaim.holds_of_cond 4 Try.f4 rfl rfl rfl rfl rfl rfl rfl ⟨rfl, rfl, rfl, rfl, rfl⟩ rfl rfl rfl rfl rfl (by kernel_rfl) Try.func4 (by kernel_rfl)
    (of_decide_eq_true (by kernel_rfl)) (by unfold Func.isWrapper; first | (rw [if_pos (by decide +kernel)]; kernel_rfl) | (rw [if_neg (by decide +kernel)]; exact ⟨rfl, rfl⟩))
    (fun os started H enc _ F => raftlogCompacts_liftedU os started H enc F)
#print axioms raftlogCompacts_holdsU
end Go.Proofs.Ytdblllnnccaccaa
