/-
  Proved here: CodecWrites returns true for any things: whatever is written stands in the bytes as the document says, thing by thing. Conditions: what it is given is of small bulk (2^20 at most in all).
-/
import Derived.Test.YtfhdpeceppafiaaDoorWrM
import Derived.Test.YtfhdpeceppafiaaDoorLay
import Derived.Test.YtfhdpeceppafiaaDoorDaM
import Derived.JoinedCond
namespace Go.Proofs.YtfhdpeceppafiaaDoor
open Go.ChangeShapes Go.WideShapes Go.ChangeAt Go.RowKit
theorem conf_of {fu : Nat} {c : List Int × List Int} (h : (Ty.up (.st (.pair (.sl 8 (.int .i64)) (.pair (.sl 8 (.int .i64)) (.unit))))).okD c) (hfu : 140737488355328 < fu) : confOk fu c.1 c.2 := by
  have h1 : c.1.length * 134217727 ≤ 140737488351232 := h.1.1
  have h2 : c.2.length * 134217727 ≤ 140737488351232 := h.2.1
  exact ⟨fun x hx => h.1.2.2 x hx, fun x hx => h.2.2.2 x hx, by omega, by omega, by omega, by omega⟩
theorem len_of {l : List Int} (h : (Ty.up (.sl 1 (.int .u8))).okD l) : l.length ≤ 1048576 := by
  have h1 : l.length * 134217727 ≤ 140737488351232 := h.1
  omega
theorem th_of {fu : Nat} {x : D_gazettelaw01_Thing} (h : (Ty.up (.st (.pair (.int .i64) (.pair (.int .u64) (.pair (.int .i64) (.pair (.bool) (.pair (.sl 1 (.int .u8)) (.pair (.st (.pair (.sl 8 (.int .i64)) (.pair (.sl 8 (.int .i64)) (.unit)))) (.pair (.st (.pair (.int .u64) (.pair (.int .u64) (.pair (.int .i64) (.pair (.sl 1 (.int .u8)) (.pair (.st (.pair (.sl 8 (.int .i64)) (.pair (.sl 8 (.int .i64)) (.unit)))) (.unit))))))) (.pair (.st (.pair (.int .u64) (.pair (.int .u64) (.pair (.st (.pair (.sl 8 (.int .i64)) (.pair (.sl 8 (.int .i64)) (.unit)))) (.pair (.sl 1 (.int .u8)) (.unit)))))) (.pair (.st (.pair (.str) (.pair (.str) (.unit)))) (.pair (.st (.pair (.int .u64) (.pair (.str) (.pair (.sl 1 (.int .u8)) (.pair (.int .u64) (.pair (.int .u64) (.unit))))))) (.unit))))))))))))).okD x) (hfu : 140737488355328 < fu) : thOk fu x := by
  obtain ⟨_, h1, h2, _, h3, h4, ⟨e1, e2, e3, e4, e5⟩, ⟨s1, s2, s3, s4⟩, ⟨g1, g2⟩, r1, r2, r3, r4, r5⟩ := h
  exact ⟨h1, h2, len_of h3, fun y hy => h3.2.2 y hy, conf_of h4 hfu, e1, e2, e3, len_of e4, conf_of e5 hfu, s1, s2, conf_of s3 hfu, len_of s4, g1, g2, r1, r2, len_of r3, r4, r5⟩
theorem codecWritesAll : Ty.alls [.sl 134217727 (.st (.pair (.int .i64) (.pair (.int .u64) (.pair (.int .i64) (.pair (.bool) (.pair (.sl 134217727 (.int .u8)) (.pair (.st (.pair (.sl 134217727 (.int .i64)) (.pair (.sl 134217727 (.int .i64)) (.unit)))) (.pair (.st (.pair (.int .u64) (.pair (.int .u64) (.pair (.int .i64) (.pair (.sl 134217727 (.int .u8)) (.pair (.st (.pair (.sl 134217727 (.int .i64)) (.pair (.sl 134217727 (.int .i64)) (.unit)))) (.unit))))))) (.pair (.st (.pair (.int .u64) (.pair (.int .u64) (.pair (.st (.pair (.sl 134217727 (.int .i64)) (.pair (.sl 134217727 (.int .i64)) (.unit)))) (.pair (.sl 134217727 (.int .u8)) (.unit)))))) (.pair (.st (.pair (.txt) (.pair (.txt) (.unit)))) (.pair (.st (.pair (.int .u64) (.pair (.txt) (.pair (.sl 134217727 (.int .u8)) (.pair (.int .u64) (.pair (.int .u64) (.unit))))))) (.unit))))))))))))] fun xs => FC Tryd.prog 5 [] xs ⟨[], [], .im (.val (.bool true))⟩ := by
  obtain ⟨fu, hfu⟩ : ∃ fu : Nat, 140737488355328 < fu := ⟨_, Nat.lt_succ_self _⟩
  exact law_of (by rfl) (g5 fu) (fun (l : List D_gazettelaw01_Thing) hl => by
    have h1 : l.length * 134217727 ≤ 140737488351232 := hl.1
    have h2 : l.length ≤ 1048576 := by omega
    exact p5_is (fun x hx => th_of (hl.2.2 x hx) hfu) h2 hfu)

set_option maxRecDepth 100000 in
theorem codecWrites_liftedU (os : Os) (started : os.Started) (H : Type) (enc : TypeId × Value → H) (F : Stop.Interp) :
    ReturnsInHanded {} Tryd.checked os 5 .any (Rows.codecWritesUptoRow.pre enc Tryd.prog Tryd.f5 (Rows.OpenSpec.upto Rows.codecWritesSpec)) (((Rows.OpenSpec.upto Rows.codecWritesSpec).at F).post enc Tryd.prog Tryd.f5 false true false false) :=
  law_liftedL (C := Tryd.checked) (X := laidMetH Tryd.prog laidNib) ownK laidOut started (fun hh h => h.of_heap hh) glw_of_laid (by kernel_rfl) Tryd.func5
    (witnessL (s := Rows.OpenSpec.upto Rows.codecWritesSpec) (k := Rows.uptoSmall) (enc := enc) (C := Tryd.checked) rfl false (laidWorld os) #[.slice none 0 0] 8 rfl (by kernel_rfl) (by kernel_rfl) (by kernel_rfl) (by kernel_rfl) (by kernel_rfl) (laidWorld_met os _))
    rfl rfl Tryd.underlying4 (of_decide_eq_true (by kernel_rfl)) (fun l hl => by match l, hl with | [_], _ => rfl)
    [.sl 384 (.st (.pair (.int .i64) (.pair (.int .u64) (.pair (.int .i64) (.pair (.bool) (.pair (.sl 1 (.int .u8)) (.pair (.st (.pair (.sl 8 (.int .i64)) (.pair (.sl 8 (.int .i64)) (.unit)))) (.pair (.st (.pair (.int .u64) (.pair (.int .u64) (.pair (.int .i64) (.pair (.sl 1 (.int .u8)) (.pair (.st (.pair (.sl 8 (.int .i64)) (.pair (.sl 8 (.int .i64)) (.unit)))) (.unit))))))) (.pair (.st (.pair (.int .u64) (.pair (.int .u64) (.pair (.st (.pair (.sl 8 (.int .i64)) (.pair (.sl 8 (.int .i64)) (.unit)))) (.pair (.sl 1 (.int .u8)) (.unit)))))) (.pair (.st (.pair (.str) (.pair (.str) (.unit)))) (.pair (.st (.pair (.int .u64) (.pair (.str) (.pair (.sl 1 (.int .u8)) (.pair (.int .u64) (.pair (.int .u64) (.unit))))))) (.unit))))))))))))] rfl (by kernel_rfl) (by kernel_rfl) codecWritesAll F

theorem codecWrites_holdsU : Rows.CodecWritesUptoSaid :=
  OpenClaim.holds_of_cond 5 Tryd.f5 rfl rfl rfl rfl rfl rfl rfl ⟨rfl, rfl, rfl, rfl, rfl⟩ rfl rfl rfl rfl rfl (by kernel_rfl) Tryd.func5 (by kernel_rfl)
    (of_decide_eq_true (by kernel_rfl)) (by unfold Func.isWrapper; first | (rw [if_pos (by decide +kernel)]; kernel_rfl) | (rw [if_neg (by decide +kernel)]; exact ⟨rfl, rfl⟩))
    (fun os started H enc _ F => codecWrites_liftedU os started H enc F)
theorem codecWrites_card : Rows.CodecWritesUptoCardSaid :=
  Claim7.holds_tied_plain_at .later [] [.data] true (true, "b57ee5e45ab3ed52f730d0e2c2ecce8c67a470acfaed0758e7faa8afdf73b836") true
    codecWrites_holdsU (fun _ h => by cases h) (by kernel_rfl) (fun _ h => by cases h) codecWritesUpto_row_tie rfl ⟨rfl, rfl⟩ (by kernel_rfl) rfl
    (fun f fn hf hfn => by
      obtain rfl : f = 5 := Option.some.inj ((show Tryd.prog.funcNamed "gazette/gazettelaw01.CodecWrites" = some 5 by kernel_rfl).symm.trans hf) |>.symm
      obtain rfl : fn = Tryd.f5 := (Option.some.inj (Tryd.func5.symm.trans hfn)).symm
      exact ⟨by kernel_rfl, fun j t ht => by
        have hall : (Tryd.f5.params.toList.all fun t => !Tryd.prog.wantsStandIn t) = true := by kernel_rfl
        have hm : t ∈ Tryd.f5.params.toList := by
          rw [Array.mem_toList_iff]
          exact Array.mem_of_getElem? ht
        have h3 := List.all_eq_true.1 hall t hm
        have h4 : Tryd.prog.wantsStandIn t = false := by simpa using h3
        exact h4⟩)
    (by kernel_rfl)
#print axioms codecWrites_card
end Go.Proofs.YtfhdpeceppafiaaDoor
