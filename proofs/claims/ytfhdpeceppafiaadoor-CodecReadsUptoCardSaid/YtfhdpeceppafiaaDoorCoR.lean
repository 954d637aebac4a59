/-
  Proved here: CodecReads returns true for any bytes and any steps: whatever is read is what the document says, and so is the first error and its place. Conditions: what it is given is of small bulk (2^20 at most in all).
-/
import Derived.Test.YtfhdpeceppafiaaDoorRoM
import Derived.Test.YtfhdpeceppafiaaDoorLay
import Derived.Test.YtfhdpeceppafiaaDoorDaM
import Derived.JoinedCond
namespace Go.Proofs.YtfhdpeceppafiaaDoor
open Go.ChangeShapes Go.WideShapes Go.ChangeAt Go.RowKit
theorem codecReadsAll : Ty.alls [.sl 134217727 (.int .u8), .sl 134217727 (.st (.pair (.int .i64) (.pair (.int .i64) (.unit))))] fun xs => FC Tryd.prog 6 [] xs ⟨[], [], .im (.val (.bool true))⟩ := by
  obtain ⟨fu, hfu⟩ : ∃ fu : Nat, 140737488355328 < fu := ⟨_, Nat.lt_succ_self _⟩
  exact law_of (by rfl) (g6 fu) (fun (a : List Int) ha (c : List D_gazettelaw01_Step) hc => by
    have h1 : a.length * 134217727 ≤ 140737488351232 := ha.1
    have h2 : c.length * 134217727 ≤ 140737488351232 := hc.1
    have h3 : a.length ≤ 1048576 := by omega
    have h4 : c.length ≤ 1048576 := by omega
    exact p6_is (fun x hx => ha.2.2 x hx) h3 (fun s hs => (hc.2.2 s hs).2) h4 hfu)

set_option maxRecDepth 100000 in
theorem codecReads_liftedU (os : Os) (started : os.Started) (H : Type) (enc : TypeId × Value → H) (F : Stop.Interp) :
    ReturnsInHanded {} Tryd.checked os 6 .any (Rows.codecReadsUptoRow.pre enc Tryd.prog Tryd.f6 (Rows.OpenSpec.upto Rows.codecReadsSpec)) (((Rows.OpenSpec.upto Rows.codecReadsSpec).at F).post enc Tryd.prog Tryd.f6 false true false false) :=
  law_liftedL (C := Tryd.checked) (X := laidMetH Tryd.prog laidBoth) ownK laidOut started (fun hh h => h.of_heap hh) glw_of_laid (by kernel_rfl) Tryd.func6
    (witnessL (s := Rows.OpenSpec.upto Rows.codecReadsSpec) (k := Rows.uptoSmall) (enc := enc) (C := Tryd.checked) rfl false (laidWorld os) #[.slice none 0 0, .slice none 0 0] 8 rfl (by kernel_rfl) (by kernel_rfl) (by kernel_rfl) (by kernel_rfl) (by kernel_rfl) (laidWorld_met os _))
    rfl rfl Tryd.underlying4 (of_decide_eq_true (by kernel_rfl)) (fun l hl => by match l, hl with | [_, _], _ => rfl)
    [.sl 1 (.int .u8), .sl 16 (.st (.pair (.int .i64) (.pair (.int .i64) (.unit))))] rfl (by kernel_rfl) (by kernel_rfl) codecReadsAll F

theorem codecReads_holdsU : Rows.CodecReadsUptoSaid :=
  OpenClaim.holds_of_cond 6 Tryd.f6 rfl rfl rfl rfl rfl rfl rfl ⟨rfl, rfl, rfl, rfl, rfl⟩ rfl rfl rfl rfl rfl (by kernel_rfl) Tryd.func6 (by kernel_rfl)
    (of_decide_eq_true (by kernel_rfl)) (by unfold Func.isWrapper; first | (rw [if_pos (by decide +kernel)]; kernel_rfl) | (rw [if_neg (by decide +kernel)]; exact ⟨rfl, rfl⟩))
    (fun os started H enc _ F => codecReads_liftedU os started H enc F)
theorem codecReads_card : Rows.CodecReadsUptoCardSaid :=
  Claim7.holds_tied_plain_at .later [] [.handle, .data] true (true, "b57ee5e45ab3ed52f730d0e2c2ecce8c67a470acfaed0758e7faa8afdf73b836") true
    codecReads_holdsU (fun _ h => by cases h) (by kernel_rfl) (fun _ h => by cases h) codecReadsUpto_row_tie rfl ⟨rfl, rfl⟩ (by kernel_rfl) rfl
    (fun f fn hf hfn => by
      obtain rfl : f = 6 := Option.some.inj ((show Tryd.prog.funcNamed "gazette/gazettelaw01.CodecReads" = some 6 by kernel_rfl).symm.trans hf) |>.symm
      obtain rfl : fn = Tryd.f6 := (Option.some.inj (Tryd.func6.symm.trans hfn)).symm
      exact ⟨by kernel_rfl, fun j t ht => by
        have hall : (Tryd.f6.params.toList.all fun t => !Tryd.prog.wantsStandIn t) = true := by kernel_rfl
        have hm : t ∈ Tryd.f6.params.toList := by
          rw [Array.mem_toList_iff]
          exact Array.mem_of_getElem? ht
        have h3 := List.all_eq_true.1 hall t hm
        have h4 : Tryd.prog.wantsStandIn t = false := by simpa using h3
        exact h4⟩)
    (by kernel_rfl)
#print axioms codecReads_card
end Go.Proofs.YtfhdpeceppafiaaDoor
