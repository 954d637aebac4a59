/-
  Proved here: RaftlogKeeps returns true for every log, whatever entries are merged into it, and every number, and its arguments read afterwards as before. Conditions: each argument and each list in it of small bulk (2^20 at most in all).
-/
import Derived.Test.YtdblllnnccaccaaUp
import Derived.Test.YtdblllnnccaccaaKcW
import Derived.Test.YtdblllnnccaccaaDaM
import Derived.Test.YtdblllnnccaccaaLaw
namespace Go.Proofs.Ytdblllnnccaccaa
open Go.ChangeShapes Go.WideShapes Go.ChangeAt Go.RowKit
theorem small_of {l : List En} (h : (Ty.up (.sl 96 (.st (.pair (.int .u64) (.pair (.int .u64) (.pair (.int .i64) (.pair (.sl 1 (.int .u8)) (.pair (.st (.pair (.sl 8 (.int .i64)) (.pair (.sl 8 (.int .i64)) .unit))) .unit)))))))).okD l) : small 1048576 l := by
  have h1 : l.length * 134217727 ≤ 140737488351232 := h.1
  refine ⟨by omega, fun x hx => ?_⟩
  have k := h.2.2 x hx
  have k1 : x.2.2.2.1.length * 134217727 ≤ 140737488351232 := k.2.2.2.1.1
  have k2 : x.2.2.2.2.1.length * 134217727 ≤ 140737488351232 := k.2.2.2.2.1.1
  have k3 : x.2.2.2.2.2.length * 134217727 ≤ 140737488351232 := k.2.2.2.2.2.1
  exact ⟨by omega, by omega, by omega⟩
theorem log_of {x : D_api_Log} (h : (Ty.up (.st (.pair (.st (.pair (.int .u64) (.pair (.int .u64) (.pair (.st (.pair (.sl 8 (.int .i64)) (.pair (.sl 8 (.int .i64)) .unit))) (.pair (.sl 1 (.int .u8)) .unit))))) (.pair (.sl 96 (.st (.pair (.int .u64) (.pair (.int .u64) (.pair (.int .i64) (.pair (.sl 1 (.int .u8)) (.pair (.st (.pair (.sl 8 (.int .i64)) (.pair (.sl 8 (.int .i64)) .unit))) .unit))))))) .unit)))).okD x) : 0 ≤ x.1.1 ∧ smallB x.1.2.2.1.1 x.1.2.2.1.2 x.1.2.2.2 ∧ small 1048576 x.2 := by
  have k0 : 0 ≤ x.1.1 := h.1.1.1
  have k1 : x.1.2.2.1.1.length * 134217727 ≤ 140737488351232 := h.1.2.2.1.1.1
  have k2 : x.1.2.2.1.2.length * 134217727 ≤ 140737488351232 := h.1.2.2.1.2.1
  have k3 : x.1.2.2.2.length * 134217727 ≤ 140737488351232 := h.1.2.2.2.1
  exact ⟨k0, ⟨by omega, by omega, by omega⟩, small_of h.2⟩
theorem raftlogKeepsAll : Ty.alls [.st (.pair (.st (.pair (.st (.pair (.int .u64) (.pair (.int .u64) (.pair (.st (.pair (.sl 134217727 (.int .i64)) (.pair (.sl 134217727 (.int .i64)) .unit))) (.pair (.sl 134217727 (.int .u8)) .unit))))) (.pair (.sl 134217727 (.st (.pair (.int .u64) (.pair (.int .u64) (.pair (.int .i64) (.pair (.sl 134217727 (.int .u8)) (.pair (.st (.pair (.sl 134217727 (.int .i64)) (.pair (.sl 134217727 (.int .i64)) .unit))) .unit))))))) .unit))) (.pair (.int .u64) (.pair (.int .u64) (.pair (.int .u64) (.pair (.sl 134217727 (.st (.pair (.int .u64) (.pair (.int .u64) (.pair (.int .i64) (.pair (.sl 134217727 (.int .u8)) (.pair (.st (.pair (.sl 134217727 (.int .i64)) (.pair (.sl 134217727 (.int .i64)) .unit))) .unit))))))) .unit))))), .int .u64] fun xs => FC Try.prog 5 [] xs ⟨[], [], .im (.val (.bool true))⟩ := by
  obtain ⟨fu, hfu⟩ : ∃ fu : Nat, 4194304 < fu := ⟨_, Nat.lt_succ_self _⟩
  exact law_of (by rfl) (g5 fu) (fun x hx (k : Int) hk => by
    obtain ⟨⟨⟨b, t, ⟨a2, a3⟩, a4⟩, l⟩, c, i, u, m⟩ := x
    obtain ⟨k1, k2, k3⟩ := log_of hx.1
    exact p5_is b t a2 a3 a4 l c i u m k k1 hx.2.2.1.1 k2 k3 (small_of hx.2.2.2.2) hfu)

set_option maxRecDepth 100000 in
theorem raftlogKeeps_liftedU (os : Os) (started : os.Started) (H : Type) (enc : TypeId × Value → H) (F : Stop.Interp) :
    ReturnsInHanded {} Try.checked os 5 .any ((Rows.OpenSpec.upto Rows.raftlogKeepsSpec).pre6 enc Try.prog Try.f5 Rows.raftlogKeepsUptoRow.domain false) (((Rows.OpenSpec.upto Rows.raftlogKeepsSpec).at F).post enc Try.prog Try.f5 false true false false) :=
  law_liftedU (C := Try.checked) ownK laidOut started (by kernel_rfl) Try.func5
    (witnessU (s := Rows.OpenSpec.upto Rows.raftlogKeepsSpec) (k := Rows.uptoSmall) (enc := enc) (C := Try.checked) rfl false ⟨#[], #[.agg #[.int .u64 0, .int .u64 0, .slice none 0 0, .slice none 0 0, .slice none 0 0, .slice none 0 0, .int .u64 0, .int .u64 0, .int .u64 0, .slice none 0 0], .int .u64 0], []⟩ 8 (by kernel_rfl) (by kernel_rfl) (by kernel_rfl) (by kernel_rfl) (by kernel_rfl))
    rfl rfl Try.underlying4 (of_decide_eq_true (by kernel_rfl)) (fun l hl => by match l, hl with | [_, _], _ => rfl)
    [.st (.pair (.st (.pair (.st (.pair (.int .u64) (.pair (.int .u64) (.pair (.st (.pair (.sl 8 (.int .i64)) (.pair (.sl 8 (.int .i64)) .unit))) (.pair (.sl 1 (.int .u8)) .unit))))) (.pair (.sl 96 (.st (.pair (.int .u64) (.pair (.int .u64) (.pair (.int .i64) (.pair (.sl 1 (.int .u8)) (.pair (.st (.pair (.sl 8 (.int .i64)) (.pair (.sl 8 (.int .i64)) .unit))) .unit))))))) .unit))) (.pair (.int .u64) (.pair (.int .u64) (.pair (.int .u64) (.pair (.sl 96 (.st (.pair (.int .u64) (.pair (.int .u64) (.pair (.int .i64) (.pair (.sl 1 (.int .u8)) (.pair (.st (.pair (.sl 8 (.int .i64)) (.pair (.sl 8 (.int .i64)) .unit))) .unit))))))) .unit))))), .int .u64] rfl (by kernel_rfl) (by kernel_rfl) raftlogKeepsAll F

theorem raftlogKeeps_holdsU : Rows.RaftlogKeepsUptoSaid :=
  OpenClaim.holds_of_cond 5 Try.f5 rfl rfl rfl rfl rfl rfl rfl ⟨rfl, rfl, rfl, rfl, rfl⟩ rfl rfl rfl rfl rfl (by kernel_rfl) Try.func5 (by kernel_rfl)
    (of_decide_eq_true (by kernel_rfl)) (by unfold Func.isWrapper; first | (rw [if_pos (by decide +kernel)]; kernel_rfl) | (rw [if_neg (by decide +kernel)]; exact ⟨rfl, rfl⟩))
    (fun os started H enc _ F => raftlogKeeps_liftedU os started H enc F)
#print axioms raftlogKeeps_holdsU
end Go.Proofs.Ytdblllnnccaccaa
