/-
  Proved here: CodecPrefix returns true for any numbers: they are read as they were written, a greater one has no fewer bytes, and none of them begins with another one. Conditions: what it is given is of small bulk (2^20 at most in all).
-/
import Derived.Test.YtfhdpeceppafiaaDoorRdM
import Derived.Test.YtfhdpeceppafiaaDoorLay
import Derived.Test.YtfhdpeceppafiaaDoorDaM
import Derived.JoinedCond
namespace Go.Proofs.YtfhdpeceppafiaaDoor
open Go.ChangeShapes Go.WideShapes Go.ChangeAt Go.RowKit
theorem codecPrefixAll : Ty.alls [.sl 134217727 (.int .u64)] fun xs => FC Tryd.prog 10 [] xs ⟨[], [], .im (.val (.bool true))⟩ := by
  obtain ⟨fu, hfu⟩ : ∃ fu : Nat, 140737488355328 < fu := ⟨_, Nat.lt_succ_self _⟩
  exact law_of (by rfl) (g10 fu) (fun (l : List Int) hl => by
    have h1 : l.length * 134217727 ≤ 140737488351232 := hl.1
    have h2 : l.length ≤ 1048576 := by omega
    exact p10_is (fun x hx => hl.2.2 x hx) h2 hfu)

set_option maxRecDepth 100000 in
theorem codecPrefix_liftedU (os : Os) (started : os.Started) (H : Type) (enc : TypeId × Value → H) (F : Stop.Interp) :
    ReturnsInHanded {} Tryd.checked os 10 .any (Rows.codecPrefixUptoRow.pre enc Tryd.prog Tryd.f10 (Rows.OpenSpec.upto Rows.codecPrefixSpec)) (((Rows.OpenSpec.upto Rows.codecPrefixSpec).at F).post enc Tryd.prog Tryd.f10 false true false false) :=
  law_liftedL (C := Tryd.checked) (X := laidMetH Tryd.prog laidBoth) ownK laidOut started (fun hh h => h.of_heap hh) glw_of_laid (by kernel_rfl) Tryd.func10
    (witnessL (s := Rows.OpenSpec.upto Rows.codecPrefixSpec) (k := Rows.uptoSmall) (enc := enc) (C := Tryd.checked) rfl false (laidWorld os) #[.slice none 0 0] 8 rfl (by kernel_rfl) (by kernel_rfl) (by kernel_rfl) (by kernel_rfl) (by kernel_rfl) (laidWorld_met os _))
    rfl rfl Tryd.underlying4 (of_decide_eq_true (by kernel_rfl)) (fun l hl => by match l, hl with | [_], _ => rfl)
    [.sl 8 (.int .u64)] rfl (by kernel_rfl) (by kernel_rfl) codecPrefixAll F

theorem codecPrefix_holdsU : Rows.CodecPrefixUptoSaid :=
  OpenClaim.holds_of_cond 10 Tryd.f10 rfl rfl rfl rfl rfl rfl rfl ⟨rfl, rfl, rfl, rfl, rfl⟩ rfl rfl rfl rfl rfl (by kernel_rfl) Tryd.func10 (by kernel_rfl)
    (of_decide_eq_true (by kernel_rfl)) (by unfold Func.isWrapper; first | (rw [if_pos (by decide +kernel)]; kernel_rfl) | (rw [if_neg (by decide +kernel)]; exact ⟨rfl, rfl⟩))
    (fun os started H enc _ F => codecPrefix_liftedU os started H enc F)
theorem codecPrefix_card : Rows.CodecPrefixUptoCardSaid :=
  Claim7.holds_tied_plain_at .later [] [.handle, .data] true (true, "b57ee5e45ab3ed52f730d0e2c2ecce8c67a470acfaed0758e7faa8afdf73b836") true
    codecPrefix_holdsU (fun _ h => by cases h) (by kernel_rfl) (fun _ h => by cases h) codecPrefixUpto_row_tie rfl ⟨rfl, rfl⟩ (by kernel_rfl) rfl
    (fun f fn hf hfn => by
      obtain rfl : f = 10 := Option.some.inj ((show Tryd.prog.funcNamed "gazette/gazettelaw01.CodecPrefix" = some 10 by kernel_rfl).symm.trans hf) |>.symm
      obtain rfl : fn = Tryd.f10 := (Option.some.inj (Tryd.func10.symm.trans hfn)).symm
      exact ⟨by kernel_rfl, fun j t ht => by
        have hall : (Tryd.f10.params.toList.all fun t => !Tryd.prog.wantsStandIn t) = true := by kernel_rfl
        have hm : t ∈ Tryd.f10.params.toList := by
          rw [Array.mem_toList_iff]
          exact Array.mem_of_getElem? ht
        have h3 := List.all_eq_true.1 hall t hm
        have h4 : Tryd.prog.wantsStandIn t = false := by simpa using h3
        exact h4⟩)
    (by kernel_rfl)
#print axioms codecPrefix_card
end Go.Proofs.YtfhdpeceppafiaaDoor
