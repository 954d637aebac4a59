/-
  Proved here: PartfsmNames returns true: the errors, their names and the numbers of the document. Conditions: none (it is given nothing); a variable holds the error of errors.New that the program laid there.
-/
import Derived.Test.YthlgaodaofpgoaaDoorPfN
import Derived.Test.YthlgaodaofpgoaaDoorLay
import Derived.Test.YthlgaodaofpgoaaDoorDaM
import Derived.JoinedCond
namespace Go.Proofs.YthlgaodaofpgoaaDoor
open Go.ChangeShapes Go.WideShapes Go.ChangeAt Go.RowKit
theorem partfsmNamesAll : Ty.alls [] fun xs => FC Tryd.prog 3 [] xs ⟨[], [], .im (.val (.bool true))⟩ := by
  exact law_of (by rfl) (g3 600) partfsmNames_is

set_option maxRecDepth 100000 in
theorem partfsmNames_liftedU (os : Os) (started : os.Started) (H : Type) (enc : TypeId × Value → H) (F : Stop.Interp) :
    ReturnsInHanded {} Tryd.checked os 3 .any (Rows.partfsmNamesUptoRow.pre enc Tryd.prog Tryd.f3 (Rows.OpenSpec.upto Rows.partfsmNamesSpec)) (((Rows.OpenSpec.upto Rows.partfsmNamesSpec).at F).post enc Tryd.prog Tryd.f3 false true false false) :=
  law_liftedL (C := Tryd.checked) (X := laidMetH Tryd.prog laidBoth) ownK laidOut started (fun hh h => h.of_heap hh) glw_of_laid (by kernel_rfl) Tryd.func3
    (witnessL (s := Rows.OpenSpec.upto Rows.partfsmNamesSpec) (k := Rows.uptoSmall) (enc := enc) (C := Tryd.checked) rfl false (laidWorld os) #[] 8 rfl (by kernel_rfl) (by kernel_rfl) (by kernel_rfl) (by kernel_rfl) (by kernel_rfl) (laidWorld_met os _))
    rfl rfl Tryd.underlying4 (of_decide_eq_true (by kernel_rfl)) (fun l hl => by match l, hl with | [], _ => rfl)
    [] rfl (by kernel_rfl) (by kernel_rfl) partfsmNamesAll F

theorem partfsmNames_holdsU : Rows.PartfsmNamesUptoSaid :=
  OpenClaim.holds_of_cond 3 Tryd.f3 rfl rfl rfl rfl rfl rfl rfl ⟨rfl, rfl, rfl, rfl, rfl⟩ rfl rfl rfl rfl rfl (by kernel_rfl) Tryd.func3 (by kernel_rfl)
    (of_decide_eq_true (by kernel_rfl)) (by unfold Func.isWrapper; first | (rw [if_pos (by decide +kernel)]; kernel_rfl) | (rw [if_neg (by decide +kernel)]; exact ⟨rfl, rfl⟩))
    (fun os started H enc _ F => partfsmNames_liftedU os started H enc F)
theorem partfsmNames_card : Rows.PartfsmNamesUptoCardSaid :=
  Claim7.holds_tied_plain_at .later [] [.handle, .sentinel] true (true, "ed65ddf1dcd9ddd3f21d0c753c998320cebb505c89e3ec8d2bb859b85f131fdb") true
    partfsmNames_holdsU (fun _ h => by cases h) (by kernel_rfl) (fun _ h => by cases h) partfsmNamesUpto_row_tie rfl ⟨rfl, rfl⟩ (by kernel_rfl) rfl
    (fun f fn hf hfn => by
      obtain rfl : f = 3 := Option.some.inj ((show Tryd.prog.funcNamed "gazette/gazettelaw16.PartfsmNames" = some 3 by kernel_rfl).symm.trans hf) |>.symm
      obtain rfl : fn = Tryd.f3 := (Option.some.inj (Tryd.func3.symm.trans hfn)).symm
      exact ⟨by kernel_rfl, fun j t ht => by
        have hall : (Tryd.f3.params.toList.all fun t => !Tryd.prog.wantsStandIn t) = true := by kernel_rfl
        have hm : t ∈ Tryd.f3.params.toList := by
          rw [Array.mem_toList_iff]
          exact Array.mem_of_getElem? ht
        have h3 := List.all_eq_true.1 hall t hm
        have h4 : Tryd.prog.wantsStandIn t = false := by simpa using h3
        exact h4⟩)
    (by kernel_rfl)
#print axioms partfsmNames_card
end Go.Proofs.YthlgaodaofpgoaaDoor
