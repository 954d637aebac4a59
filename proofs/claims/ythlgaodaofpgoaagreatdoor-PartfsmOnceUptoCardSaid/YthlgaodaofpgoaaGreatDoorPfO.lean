/-
  Proved here: PartfsmOnce returns true for any part and any commands: what was kept stays as it is, no producer's record is written twice, and a command once more answers as it did. Conditions: what it is given is of small bulk (2^20 at most in all); a variable holds the error of errors.New that the program laid there.
-/
import Derived.Test.YthlgaodaofpgoaaGreatDoorPfK
import Derived.Test.YthlgaodaofpgoaaGreatDoorLay
import Derived.Test.YthlgaodaofpgoaaGreatDoorDaM
import Derived.JoinedCond
namespace Go.Proofs.YthlgaodaofpgoaaGreatDoor
open Go.ChangeShapes Go.WideShapes Go.ChangeAt Go.RowKit
theorem bnd_of {lo up : ByteArray} {e z : Int} {r : List Rd} {ps : List Pr} {cs : List Cn} (h : (Ty.up (.st (.pair (.st (.pair (.str) (.pair (.str) (.unit)))) (.pair (.int .u64) (.pair (.int .u64) (.pair (.sl 64 (.st (.pair (.int .u64) (.pair (.str) (.pair (.sl 1 (.int .u8)) (.pair (.int .u64) (.pair (.int .u64) (.unit)))))))) (.pair (.sl 32 (.st (.pair (.int .u64) (.pair (.int .u64) (.pair (.bool) (.pair (.int .u64) (.unit))))))) (.pair (.sl 24 (.st (.pair (.str) (.pair (.int .u64) (.unit))))) (.unit))))))))).okD ((lo, up), e, z, r, ps, cs)) : bndS (lo, up, e, z, r, ps, cs, ()) := by
  obtain ⟨_, _, _, h1, h2, h3⟩ := h
  have a1 : r.length * 134217727 ≤ 140737488351232 := h1.1
  have a2 : ps.length * 134217727 ≤ 140737488351232 := h2.1
  have a3 : cs.length * 134217727 ≤ 140737488351232 := h3.1
  exact ⟨by omega, by omega, ⟨by omega, fun y hy => ⟨Nat.le_trans (h3.2.2 y hy).1 (by decide), (h3.2.2 y hy).2.1, Int.lt_of_le_of_lt (h3.2.2 y hy).2.2 (by decide)⟩⟩, fun y hy => (h2.2.2 y hy).2.2.2.1⟩
theorem bndc_of {x : Cd} (h : (Ty.up (.st (.pair (.int .i64) (.pair (.int .u64) (.pair (.int .u64) (.pair (.int .u64) (.pair (.str) (.pair (.sl 1 (.int .u8)) (.pair (.int .u64) (.pair (.int .i64) (.pair (.str) (.pair (.int .u64) (.unit))))))))))))).okD x) : bndC (cmdOf x) := by
  obtain ⟨_, _, _, _, _, _, h1, _, h2, _⟩ := h
  exact ⟨h2, h1.1⟩
theorem partfsmOnceAll : Ty.alls [.st (.pair (.st (.pair (.txt) (.pair (.txt) (.unit)))) (.pair (.int .u64) (.pair (.int .u64) (.pair (.sl 134217727 (.st (.pair (.int .u64) (.pair (.txt) (.pair (.sl 134217727 (.int .u8)) (.pair (.int .u64) (.pair (.int .u64) (.unit)))))))) (.pair (.sl 134217727 (.st (.pair (.int .u64) (.pair (.int .u64) (.pair (.bool) (.pair (.int .u64) (.unit))))))) (.pair (.sl 134217727 (.st (.pair (.txt) (.pair (.int .u64) (.unit))))) (.unit))))))), .sl 134217727 (.st (.pair (.int .i64) (.pair (.int .u64) (.pair (.int .u64) (.pair (.int .u64) (.pair (.txt) (.pair (.sl 134217727 (.int .u8)) (.pair (.int .u64) (.pair (.int .i64) (.pair (.txt) (.pair (.int .u64) (.unit))))))))))))] fun xs => FC Tryz.prog 6 [] xs ⟨[], [], .im (.val (.bool true))⟩ := by
  obtain ⟨fu, hfu⟩ : ∃ fu : Nat, 140737488355328 < fu := ⟨_, Nat.lt_succ_self _⟩
  exact law_of (by rfl) (g6 fu) (fun x hx (l : List Cd) hl => by
    obtain ⟨⟨(lo : ByteArray), (up : ByteArray)⟩, (e : Int), (z : Int), (r : List Rd), (ps : List Pr), (cs : List Cn)⟩ := x
    have h1 : l.length * 134217727 ≤ 140737488351232 := hl.1
    exact p6_is (lo, up, e, z, r, ps, cs, ()) l (bnd_of hx) (by omega) (fun y hy => bndc_of (hl.2.2 y hy)) (by omega))

set_option maxRecDepth 100000 in
theorem partfsmOnce_liftedU (os : Os) (started : os.Started) (H : Type) (enc : TypeId × Value → H) (F : Stop.Interp) :
    ReturnsInHanded {} Tryz.checked os 6 .any (Rows.partfsmOnceUptoRow.pre enc Tryz.prog Tryz.f6 (Rows.OpenSpec.upto Rows.partfsmOnceSpec)) (((Rows.OpenSpec.upto Rows.partfsmOnceSpec).at F).post enc Tryz.prog Tryz.f6 false true false false) :=
  law_liftedL (C := Tryz.checked) (X := laidMetH Tryz.prog laidBoth) ownK laidOut started (fun hh h => h.of_heap hh) glw_of_laid (by kernel_rfl) Tryz.func6
    (witnessL (s := Rows.OpenSpec.upto Rows.partfsmOnceSpec) (k := Rows.uptoSmall) (enc := enc) (C := Tryz.checked) rfl false (laidWorld os) #[.agg #[.string ⟨#[]⟩, .string ⟨#[]⟩, .int .u64 0, .int .u64 0, .slice none 0 0, .slice none 0 0, .slice none 0 0], .slice none 0 0] 8 rfl (by kernel_rfl) (by kernel_rfl) (by kernel_rfl) (by kernel_rfl) (by kernel_rfl) (laidWorld_met os _))
    rfl rfl Tryz.underlying4 (of_decide_eq_true (by kernel_rfl)) (fun l hl => by match l, hl with | [_, _], _ => rfl)
    [.st (.pair (.st (.pair (.str) (.pair (.str) (.unit)))) (.pair (.int .u64) (.pair (.int .u64) (.pair (.sl 64 (.st (.pair (.int .u64) (.pair (.str) (.pair (.sl 1 (.int .u8)) (.pair (.int .u64) (.pair (.int .u64) (.unit)))))))) (.pair (.sl 32 (.st (.pair (.int .u64) (.pair (.int .u64) (.pair (.bool) (.pair (.int .u64) (.unit))))))) (.pair (.sl 24 (.st (.pair (.str) (.pair (.int .u64) (.unit))))) (.unit))))))), .sl 112 (.st (.pair (.int .i64) (.pair (.int .u64) (.pair (.int .u64) (.pair (.int .u64) (.pair (.str) (.pair (.sl 1 (.int .u8)) (.pair (.int .u64) (.pair (.int .i64) (.pair (.str) (.pair (.int .u64) (.unit))))))))))))] rfl (by kernel_rfl) (by kernel_rfl) partfsmOnceAll F

theorem partfsmOnce_holdsU : Rows.PartfsmOnceUptoSaid :=
  OpenClaim.holds_of_cond 6 Tryz.f6 rfl rfl rfl rfl rfl rfl rfl ⟨rfl, rfl, rfl, rfl, rfl⟩ rfl rfl rfl rfl rfl (by kernel_rfl) Tryz.func6 (by kernel_rfl)
    (of_decide_eq_true (by kernel_rfl)) (by unfold Func.isWrapper; first | (rw [if_pos (by decide +kernel)]; kernel_rfl) | (rw [if_neg (by decide +kernel)]; exact ⟨rfl, rfl⟩))
    (fun os started H enc _ F => partfsmOnce_liftedU os started H enc F)
theorem partfsmOnce_card : Rows.PartfsmOnceUptoCardSaid :=
  Claim7.holds_tied_plain_at .later [] [.handle, .sentinel] true (true, "1564d9232a8b52f6b5e77993be48f1639f5d26f7a25a3c2d8d9b29a7a8f05ace") true
    partfsmOnce_holdsU (fun _ h => by cases h) (by kernel_rfl) (fun _ h => by cases h) partfsmOnceUpto_row_tie rfl ⟨rfl, rfl⟩ (by kernel_rfl) rfl
    (fun f fn hf hfn => by
      obtain rfl : f = 6 := Option.some.inj ((show Tryz.prog.funcNamed "gazette/gazettelaw16.PartfsmOnce" = some 6 by kernel_rfl).symm.trans hf) |>.symm
      obtain rfl : fn = Tryz.f6 := (Option.some.inj (Tryz.func6.symm.trans hfn)).symm
      exact ⟨by kernel_rfl, fun j t ht => by
        have hall : (Tryz.f6.params.toList.all fun t => !Tryz.prog.wantsStandIn t) = true := by kernel_rfl
        have hm : t ∈ Tryz.f6.params.toList := by
          rw [Array.mem_toList_iff]
          exact Array.mem_of_getElem? ht
        have h3 := List.all_eq_true.1 hall t hm
        have h4 : Tryz.prog.wantsStandIn t = false := by simpa using h3
        exact h4⟩)
    (by kernel_rfl)
#print axioms partfsmOnce_card
end Go.Proofs.YthlgaodaofpgoaaGreatDoor
