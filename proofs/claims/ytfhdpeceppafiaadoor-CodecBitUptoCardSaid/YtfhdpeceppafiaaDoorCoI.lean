/-
  Proved here: CodecBit returns true for any bytes and any place: a frame of which one bit is changed is not taken for a frame of as many bytes. Conditions: what it is given is of small bulk (2^20 at most in all).
-/
import Derived.Test.YtfhdpeceppafiaaDoorBiM
import Derived.Test.YtfhdpeceppafiaaDoorLay
import Derived.Test.YtfhdpeceppafiaaDoorDaM
import Derived.JoinedCond
namespace Go.Proofs.YtfhdpeceppafiaaDoor
open Go.ChangeShapes Go.WideShapes Go.ChangeAt Go.RowKit
theorem codecBitAll : Ty.alls [.sl 134217727 (.int .u8), .int .u32] fun xs => FC Tryd.prog 9 [] xs ⟨[], [], .im (.val (.bool true))⟩ := by
  obtain ⟨fu, hfu⟩ : ∃ fu : Nat, 140737488355328 < fu := ⟨_, Nat.lt_succ_self _⟩
  exact law_of (by rfl) (g9 fu) (fun (a : List Int) ha (c : Int) hc => by
    have h1 : a.length * 134217727 ≤ 140737488351232 := ha.1
    have h3 : a.length ≤ 1048576 := by omega
    exact p9_is (fun x hx => ha.2.2 x hx) h3 ⟨hc.1, hc.2⟩ hfu)

set_option maxRecDepth 100000 in
theorem codecBit_liftedU (os : Os) (started : os.Started) (H : Type) (enc : TypeId × Value → H) (F : Stop.Interp) :
    ReturnsInHanded {} Tryd.checked os 9 .any (Rows.codecBitUptoRow.pre enc Tryd.prog Tryd.f9 (Rows.OpenSpec.upto Rows.codecBitSpec)) (((Rows.OpenSpec.upto Rows.codecBitSpec).at F).post enc Tryd.prog Tryd.f9 false true false false) :=
  law_liftedL (C := Tryd.checked) (X := laidMetH Tryd.prog laidBoth) ownK laidOut started (fun hh h => h.of_heap hh) glw_of_laid (by kernel_rfl) Tryd.func9
    (witnessL (s := Rows.OpenSpec.upto Rows.codecBitSpec) (k := Rows.uptoSmall) (enc := enc) (C := Tryd.checked) rfl false (laidWorld os) #[.slice none 0 0, .int .u32 0] 8 rfl (by kernel_rfl) (by kernel_rfl) (by kernel_rfl) (by kernel_rfl) (by kernel_rfl) (laidWorld_met os _))
    rfl rfl Tryd.underlying4 (of_decide_eq_true (by kernel_rfl)) (fun l hl => by match l, hl with | [_, _], _ => rfl)
    [.sl 1 (.int .u8), .int .u32] rfl (by kernel_rfl) (by kernel_rfl) codecBitAll F

theorem codecBit_holdsU : Rows.CodecBitUptoSaid :=
  OpenClaim.holds_of_cond 9 Tryd.f9 rfl rfl rfl rfl rfl rfl rfl ⟨rfl, rfl, rfl, rfl, rfl⟩ rfl rfl rfl rfl rfl (by kernel_rfl) Tryd.func9 (by kernel_rfl)
    (of_decide_eq_true (by kernel_rfl)) (by unfold Func.isWrapper; first | (rw [if_pos (by decide +kernel)]; kernel_rfl) | (rw [if_neg (by decide +kernel)]; exact ⟨rfl, rfl⟩))
    (fun os started H enc _ F => codecBit_liftedU os started H enc F)
theorem codecBit_card : Rows.CodecBitUptoCardSaid :=
  Claim7.holds_tied_plain_at .later [] [.handle, .data] true (true, "b57ee5e45ab3ed52f730d0e2c2ecce8c67a470acfaed0758e7faa8afdf73b836") true
    codecBit_holdsU (fun _ h => by cases h) (by kernel_rfl) (fun _ h => by cases h) codecBitUpto_row_tie rfl ⟨rfl, rfl⟩ (by kernel_rfl) rfl
    (fun f fn hf hfn => by
      obtain rfl : f = 9 := Option.some.inj ((show Tryd.prog.funcNamed "gazette/gazettelaw01.CodecBit" = some 9 by kernel_rfl).symm.trans hf) |>.symm
      obtain rfl : fn = Tryd.f9 := (Option.some.inj (Tryd.func9.symm.trans hfn)).symm
      exact ⟨by kernel_rfl, fun j t ht => by
        have hall : (Tryd.f9.params.toList.all fun t => !Tryd.prog.wantsStandIn t) = true := by kernel_rfl
        have hm : t ∈ Tryd.f9.params.toList := by
          rw [Array.mem_toList_iff]
          exact Array.mem_of_getElem? ht
        have h3 := List.all_eq_true.1 hall t hm
        have h4 : Tryd.prog.wantsStandIn t = false := by simpa using h3
        exact h4⟩)
    (by kernel_rfl)
#print axioms codecBit_card
end Go.Proofs.YtfhdpeceppafiaaDoor
