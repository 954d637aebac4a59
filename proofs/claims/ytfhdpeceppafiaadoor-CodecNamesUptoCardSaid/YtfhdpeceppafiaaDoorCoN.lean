/-
  Proved here: CodecNames returns true: the examples and the errors by their numbers. Conditions: none (it is given nothing).
-/
import Derived.Test.YtfhdpeceppafiaaDoorPtN
import Derived.Test.YtfhdpeceppafiaaDoorLay
import Derived.Test.YtfhdpeceppafiaaDoorDaM
import Derived.JoinedCond
namespace Go.Proofs.YtfhdpeceppafiaaDoor
open Go.ChangeShapes Go.WideShapes Go.ChangeAt Go.RowKit
theorem codecNames_is : p3 30 () = some ((), true) := by kernel_rfl
theorem codecNamesAll : Ty.alls [] fun xs => FC Tryd.prog 3 [] xs ⟨[], [], .im (.val (.bool true))⟩ := by
  exact law_of (by rfl) (g3 30) codecNames_is

set_option maxRecDepth 100000 in
theorem codecNames_liftedU (os : Os) (started : os.Started) (H : Type) (enc : TypeId × Value → H) (F : Stop.Interp) :
    ReturnsInHanded {} Tryd.checked os 3 .any (Rows.codecNamesUptoRow.pre enc Tryd.prog Tryd.f3 (Rows.OpenSpec.upto Rows.codecNamesSpec)) (((Rows.OpenSpec.upto Rows.codecNamesSpec).at F).post enc Tryd.prog Tryd.f3 false true false false) :=
  law_liftedL (C := Tryd.checked) (X := laidMetH Tryd.prog laidBoth) ownK laidOut started (fun hh h => h.of_heap hh) glw_of_laid (by kernel_rfl) Tryd.func3
    (witnessL (s := Rows.OpenSpec.upto Rows.codecNamesSpec) (k := Rows.uptoSmall) (enc := enc) (C := Tryd.checked) rfl false (laidWorld os) #[] 8 rfl (by kernel_rfl) (by kernel_rfl) (by kernel_rfl) (by kernel_rfl) (by kernel_rfl) (laidWorld_met os _))
    rfl rfl Tryd.underlying4 (of_decide_eq_true (by kernel_rfl)) (fun l hl => by match l, hl with | [], _ => rfl)
    [] rfl (by kernel_rfl) (by kernel_rfl) codecNamesAll F

theorem codecNames_holdsU : Rows.CodecNamesUptoSaid :=
  OpenClaim.holds_of_cond 3 Tryd.f3 rfl rfl rfl rfl rfl rfl rfl ⟨rfl, rfl, rfl, rfl, rfl⟩ rfl rfl rfl rfl rfl (by kernel_rfl) Tryd.func3 (by kernel_rfl)
    (of_decide_eq_true (by kernel_rfl)) (by unfold Func.isWrapper; first | (rw [if_pos (by decide +kernel)]; kernel_rfl) | (rw [if_neg (by decide +kernel)]; exact ⟨rfl, rfl⟩))
    (fun os started H enc _ F => codecNames_liftedU os started H enc F)
theorem codecNames_card : Rows.CodecNamesUptoCardSaid :=
  Claim7.holds_tied_plain_at .later [] [.handle, .data] true (true, "b57ee5e45ab3ed52f730d0e2c2ecce8c67a470acfaed0758e7faa8afdf73b836") true
    codecNames_holdsU (fun _ h => by cases h) (by kernel_rfl) (fun _ h => by cases h) codecNamesUpto_row_tie rfl ⟨rfl, rfl⟩ (by kernel_rfl) rfl
    (fun f fn hf hfn => by
      obtain rfl : f = 3 := Option.some.inj ((show Tryd.prog.funcNamed "gazette/gazettelaw01.CodecNames" = some 3 by kernel_rfl).symm.trans hf) |>.symm
      obtain rfl : fn = Tryd.f3 := (Option.some.inj (Tryd.func3.symm.trans hfn)).symm
      exact ⟨by kernel_rfl, fun j t ht => by
        have hall : (Tryd.f3.params.toList.all fun t => !Tryd.prog.wantsStandIn t) = true := by kernel_rfl
        have hm : t ∈ Tryd.f3.params.toList := by
          rw [Array.mem_toList_iff]
          exact Array.mem_of_getElem? ht
        have h3 := List.all_eq_true.1 hall t hm
        have h4 : Tryd.prog.wantsStandIn t = false := by simpa using h3
        exact h4⟩)
    (by kernel_rfl)
#print axioms codecNames_card
end Go.Proofs.YtfhdpeceppafiaaDoor
