/-
  Proved here: ClientSteps returns true for every client and whatever inputs come, and its arguments read afterwards as before. Conditions: each argument and each list in it of small bulk (2^20 at most in all).
-/
import Derived.Test.YtnhniiannbimgaaUp
import Derived.Test.YtnhniiannbimgaaCsN
import Derived.Test.YtnhniiannbimgaaDaM
import Derived.Test.YtnhniiannbimgaaLaw
namespace Go.Proofs.Ytnhniiannbimgaa
open Go.ChangeShapes Go.WideShapes Go.ChangeAt Go.RowKit
theorem shs_of {l:List D_api_Shard} (h:(Ty.up (.sl 104 (.st (.pair (.int .u64) (.pair (.st (.pair (.str) (.pair (.str) (.unit)))) (.pair (.int .u64) (.pair (.sl 8 (.int .i64)) (.pair (.sl 8 (.int .i64)) (.pair (.int .u64) (.unit)))))))))).okD l):shsOk l := by
  have h1:l.length * 134217727≤140737488351232 := h.1
  refine ⟨by omega,fun x hx => ?_⟩
  have k := h.2.2 x hx
  have k1:x.2.2.2.1.length * 134217727≤140737488351232 := k.2.2.2.1.1
  have k2:x.2.2.2.2.1.length * 134217727≤140737488351232 := k.2.2.2.2.1.1
  exact ⟨by omega,by omega⟩
theorem rep_of {x:D_api_Reply} (h:(Ty.up (.st (.pair (.int .u64) (.pair (.int .i64) (.pair (.int .i64) (.pair (.st (.pair (.int .i64) (.pair (.int .u64) (.pair (.bool) (.pair (.sl 64 (.st (.pair (.int .u64) (.pair (.str) (.pair (.sl 1 (.int .u8)) (.pair (.int .u64) (.pair (.int .u64) (.unit)))))))) (.unit)))))) (.pair (.int .u64) (.pair (.sl 104 (.st (.pair (.int .u64) (.pair (.st (.pair (.str) (.pair (.str) (.unit)))) (.pair (.int .u64) (.pair (.sl 8 (.int .i64)) (.pair (.sl 8 (.int .i64)) (.pair (.int .u64) (.unit))))))))) (.pair (.int .u64) (.pair (.int .u64) (.pair (.int .u64) (.unit)))))))))))).okD x):(repOf x).ok∧0≤x.1∧x.1≤18446744073709551615 := by
  have h1:x.2.2.2.1.2.2.2.length * 134217727≤140737488351232 := h.2.2.2.1.2.2.2.1
  refine ⟨⟨⟨by show x.2.2.2.1.2.2.2.length≤1048576; omega,fun y hy => ?_⟩,shs_of h.2.2.2.2.2.1⟩,h.1.1,h.1.2⟩
  have k := h.2.2.2.1.2.2.2.2.2 y hy
  have k1:y.2.2.1.length * 134217727≤140737488351232 := k.2.2.1.1
  omega
theorem ca_of {x:D_api_Call} (h:(Ty.up (.st (.pair (.int .i64) (.pair (.str) (.pair (.str) (.pair (.sl 1 (.int .u8)) (.pair (.int .u64) (.pair (.int .i64) (.pair (.str) (.pair (.st (.pair (.int .i64) (.pair (.int .u64) (.pair (.int .u64) (.pair (.str) (.pair (.sl 8 (.int .i64)) (.pair (.int .u64) (.pair (.int .u64) (.pair (.str) (.pair (.int .i64) (.pair (.int .i64) (.pair (.int .u64) (.pair (.int .i64) (.unit)))))))))))))) (.unit))))))))))).okD x):(caOf x).ok∧x.2.1.size≤140737488355328 := by
  have h1:x.2.2.2.1.length * 134217727≤140737488351232 := h.2.2.2.1.1
  have h2:x.2.2.2.2.2.2.2.2.2.2.2.1.length * 134217727≤140737488351232 := h.2.2.2.2.2.2.2.2.2.2.2.1.1
  have h3:x.2.1.size≤1048576 := h.2.1
  exact ⟨⟨by show x.2.2.2.1.length≤1048576; omega,by show x.2.2.2.2.2.2.2.2.2.2.2.1.length≤1048576; omega⟩,by omega⟩
theorem in_of {x:D_api_ClientInput} (h:(Ty.up (.st (.pair (.int .i64) (.pair (.st (.pair (.int .i64) (.pair (.str) (.pair (.str) (.pair (.sl 1 (.int .u8)) (.pair (.int .u64) (.pair (.int .i64) (.pair (.str) (.pair (.st (.pair (.int .i64) (.pair (.int .u64) (.pair (.int .u64) (.pair (.str) (.pair (.sl 8 (.int .i64)) (.pair (.int .u64) (.pair (.int .u64) (.pair (.str) (.pair (.int .i64) (.pair (.int .i64) (.pair (.int .u64) (.pair (.int .i64) (.unit)))))))))))))) (.unit)))))))))) (.pair (.st (.pair (.int .u64) (.pair (.int .i64) (.pair (.int .i64) (.pair (.st (.pair (.int .i64) (.pair (.int .u64) (.pair (.bool) (.pair (.sl 64 (.st (.pair (.int .u64) (.pair (.str) (.pair (.sl 1 (.int .u8)) (.pair (.int .u64) (.pair (.int .u64) (.unit)))))))) (.unit)))))) (.pair (.int .u64) (.pair (.sl 104 (.st (.pair (.int .u64) (.pair (.st (.pair (.str) (.pair (.str) (.unit)))) (.pair (.int .u64) (.pair (.sl 8 (.int .i64)) (.pair (.sl 8 (.int .i64)) (.pair (.int .u64) (.unit))))))))) (.pair (.int .u64) (.pair (.int .u64) (.pair (.int .u64) (.unit))))))))))) (.unit)))))).okD x):inOk x := ⟨(ca_of h.2.1).1,(rep_of h.2.2).1,(ca_of h.2.1).2⟩
set_option maxRecDepth 100000 in
theorem clientStepsAll:Ty.alls [.int .i64,.sl 134217727 (.int .i64),.sl 134217727 (.st (.pair (.int .i64) (.pair (.st (.pair (.int .i64) (.pair (.txt) (.pair (.txt) (.pair (.sl 134217727 (.int .u8)) (.pair (.int .u64) (.pair (.int .i64) (.pair (.txt) (.pair (.st (.pair (.int .i64) (.pair (.int .u64) (.pair (.int .u64) (.pair (.txt) (.pair (.sl 134217727 (.int .i64)) (.pair (.int .u64) (.pair (.int .u64) (.pair (.txt) (.pair (.int .i64) (.pair (.int .i64) (.pair (.int .u64) (.pair (.int .i64) (.unit)))))))))))))) (.unit)))))))))) (.pair (.st (.pair (.int .u64) (.pair (.int .i64) (.pair (.int .i64) (.pair (.st (.pair (.int .i64) (.pair (.int .u64) (.pair (.bool) (.pair (.sl 134217727 (.st (.pair (.int .u64) (.pair (.txt) (.pair (.sl 134217727 (.int .u8)) (.pair (.int .u64) (.pair (.int .u64) (.unit)))))))) (.unit)))))) (.pair (.int .u64) (.pair (.sl 134217727 (.st (.pair (.int .u64) (.pair (.st (.pair (.txt) (.pair (.txt) (.unit)))) (.pair (.int .u64) (.pair (.sl 134217727 (.int .i64)) (.pair (.sl 134217727 (.int .i64)) (.pair (.int .u64) (.unit))))))))) (.pair (.int .u64) (.pair (.int .u64) (.pair (.int .u64) (.unit))))))))))) (.unit)))))] fun xs=>FC Try.prog 3 [] xs ⟨[],[],.im (.val (.bool true))⟩ := by
  obtain ⟨fu,hfu⟩:∃ fu:Nat,140737488355330<fu := ⟨_,Nat.lt_succ_self _⟩
  exact law_of (by rfl) (g3 fu) (fun (id:Int) _ (sv:List Int) hsv (l:List D_api_ClientInput) hl=>by
    have h1:sv.length * 134217727≤140737488351232 := hsv.1
    have h2:l.length * 134217727≤140737488351232 := hl.1
    exact p3_is id sv l (by omega) (by omega) (fun x hx=>in_of (hl.2.2 x hx)) hfu)

set_option maxRecDepth 100000 in
theorem clientSteps_liftedU (os:Os) (started:os.Started) (H:Type) (enc:TypeId×Value→H) (F:Stop.Interp) :
    ReturnsInHanded {} Try.checked os 3 .any ((Rows.OpenSpec.upto Rows.clientStepsSpec).pre6 enc Try.prog Try.f3 Rows.clientStepsUptoRow.domain false) (((Rows.OpenSpec.upto Rows.clientStepsSpec).at F).post enc Try.prog Try.f3 false true false false) :=
  law_liftedU (C := Try.checked) ownK laidOut started (by kernel_rfl) Try.func3
    (witnessU (s := Rows.OpenSpec.upto Rows.clientStepsSpec) (k := Rows.uptoSmall) (enc := enc) (C := Try.checked) rfl false ⟨#[],#[.int .i64 0,.slice none 0 0,.slice none 0 0],[]⟩ 8 (by kernel_rfl) (by kernel_rfl) (by kernel_rfl) (by kernel_rfl) (by kernel_rfl))
    rfl rfl Try.underlying4 (of_decide_eq_true (by kernel_rfl)) (fun l hl=>by match l,hl with | [_,_,_],_=>rfl)
    [.int .i64,.sl 8 (.int .i64),.sl 360 (.st (.pair (.int .i64) (.pair (.st (.pair (.int .i64) (.pair (.str) (.pair (.str) (.pair (.sl 1 (.int .u8)) (.pair (.int .u64) (.pair (.int .i64) (.pair (.str) (.pair (.st (.pair (.int .i64) (.pair (.int .u64) (.pair (.int .u64) (.pair (.str) (.pair (.sl 8 (.int .i64)) (.pair (.int .u64) (.pair (.int .u64) (.pair (.str) (.pair (.int .i64) (.pair (.int .i64) (.pair (.int .u64) (.pair (.int .i64) (.unit)))))))))))))) (.unit)))))))))) (.pair (.st (.pair (.int .u64) (.pair (.int .i64) (.pair (.int .i64) (.pair (.st (.pair (.int .i64) (.pair (.int .u64) (.pair (.bool) (.pair (.sl 64 (.st (.pair (.int .u64) (.pair (.str) (.pair (.sl 1 (.int .u8)) (.pair (.int .u64) (.pair (.int .u64) (.unit)))))))) (.unit)))))) (.pair (.int .u64) (.pair (.sl 104 (.st (.pair (.int .u64) (.pair (.st (.pair (.str) (.pair (.str) (.unit)))) (.pair (.int .u64) (.pair (.sl 8 (.int .i64)) (.pair (.sl 8 (.int .i64)) (.pair (.int .u64) (.unit))))))))) (.pair (.int .u64) (.pair (.int .u64) (.pair (.int .u64) (.unit))))))))))) (.unit)))))] rfl (by kernel_rfl) (by kernel_rfl) clientStepsAll F

theorem clientSteps_holdsU:Rows.ClientStepsUptoSaid :=
  OpenClaim.holds_of_cond 3 Try.f3 rfl rfl rfl rfl rfl rfl rfl ⟨rfl,rfl,rfl,rfl,rfl⟩ rfl rfl rfl rfl rfl (by kernel_rfl) Try.func3 (by kernel_rfl)
    (of_decide_eq_true (by kernel_rfl)) (by unfold Func.isWrapper; first | (rw [if_pos (by decide +kernel)]; kernel_rfl) | (rw [if_neg (by decide +kernel)]; exact ⟨rfl,rfl⟩))
    (fun os started H enc _ F=>clientSteps_liftedU os started H enc F)
#print axioms clientSteps_holdsU
end Go.Proofs.Ytnhniiannbimgaa
