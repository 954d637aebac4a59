/-
  Proved here: CodecBack returns true for any item and any bytes: what is written is read, item by item, and whatever bytes are an item, or a frame, are just those that are written of it. Conditions: what it is given is of small bulk (2^20 at most in all).
-/
import Derived.Test.YtfhdpeceppafiaaDoorBkM
import Derived.Test.YtfhdpeceppafiaaDoorLay
import Derived.Test.YtfhdpeceppafiaaDoorDaM
import Derived.JoinedCond
namespace Go.Proofs.YtfhdpeceppafiaaDoor
open Go.ChangeShapes Go.WideShapes Go.ChangeAt Go.RowKit
theorem conf_of {fu : Nat} {c : List Int × List Int} (h : (Ty.up (.st (.pair (.sl 8 (.int .i64)) (.pair (.sl 8 (.int .i64)) (.unit))))).okD c) (hfu : 140737488355328 < fu) : confOk fu c.1 c.2 := by
  have h1 : c.1.length * 134217727 ≤ 140737488351232 := h.1.1
  have h2 : c.2.length * 134217727 ≤ 140737488351232 := h.2.1
  exact ⟨fun x hx => h.1.2.2 x hx, fun x hx => h.2.2.2 x hx, by omega, by omega, by omega, by omega⟩
theorem len_of {l : List Int} (h : (Ty.up (.sl 1 (.int .u8))).okD l) : l.length ≤ 1048576 := by
  have h1 : l.length * 134217727 ≤ 140737488351232 := h.1
  omega
theorem item_of {fu : Nat} {k g i t ek ht hv hc ix si st : Int} {d v l sv sl sd : List Int} (h : (Ty.up (.st (.pair (.int .i64) (.pair (.int .u64) (.pair (.st (.pair (.int .u64) (.pair (.int .u64) (.pair (.int .i64) (.pair (.sl 1 (.int .u8)) (.pair (.st (.pair (.sl 8 (.int .i64)) (.pair (.sl 8 (.int .i64)) (.unit)))) (.unit))))))) (.pair (.st (.pair (.int .u64) (.pair (.int .i64) (.pair (.int .u64) (.unit))))) (.pair (.int .u64) (.pair (.st (.pair (.int .u64) (.pair (.int .u64) (.pair (.st (.pair (.sl 8 (.int .i64)) (.pair (.sl 8 (.int .i64)) (.unit)))) (.pair (.sl 1 (.int .u8)) (.unit)))))) (.unit))))))))).okD (k, g, (i, t, ek, d, (v, l)), (ht, hv, hc), ix, (si, st, (sv, sl), sd))) (hfu : 140737488355328 < fu) : itOk fu (k, g, i, t, ek, d, v, l, ht, hv, hc, ix, si, st, sv, sl, sd, ()) := by
  obtain ⟨h1, h2, ⟨e1, e2, e3, e4, e5⟩, ⟨a1, a2, a3⟩, h3, s1, s2, s3, s4⟩ := h
  exact ⟨h1, h2, e1, e2, e3, len_of e4, conf_of e5 hfu, a1, a2, a3, h3, s1, s2, conf_of s3 hfu, len_of s4⟩
theorem item_byt {k g i t ek ht hv hc ix si st : Int} {d v l sv sl sd : List Int} (h : (Ty.up (.st (.pair (.int .i64) (.pair (.int .u64) (.pair (.st (.pair (.int .u64) (.pair (.int .u64) (.pair (.int .i64) (.pair (.sl 1 (.int .u8)) (.pair (.st (.pair (.sl 8 (.int .i64)) (.pair (.sl 8 (.int .i64)) (.unit)))) (.unit))))))) (.pair (.st (.pair (.int .u64) (.pair (.int .i64) (.pair (.int .u64) (.unit))))) (.pair (.int .u64) (.pair (.st (.pair (.int .u64) (.pair (.int .u64) (.pair (.st (.pair (.sl 8 (.int .i64)) (.pair (.sl 8 (.int .i64)) (.unit)))) (.pair (.sl 1 (.int .u8)) (.unit)))))) (.unit))))))))).okD (k, g, (i, t, ek, d, (v, l)), (ht, hv, hc), ix, (si, st, (sv, sl), sd))) : byt d ∧ byt sd := by
  obtain ⟨h1, h2, ⟨e1, e2, e3, e4, e5⟩, ⟨a1, a2, a3⟩, h3, s1, s2, s3, s4⟩ := h
  exact ⟨fun x hx => e4.2.2 x hx, fun x hx => s4.2.2 x hx⟩
theorem codecBackAll : Ty.alls [.st (.pair (.int .i64) (.pair (.int .u64) (.pair (.st (.pair (.int .u64) (.pair (.int .u64) (.pair (.int .i64) (.pair (.sl 134217727 (.int .u8)) (.pair (.st (.pair (.sl 134217727 (.int .i64)) (.pair (.sl 134217727 (.int .i64)) (.unit)))) (.unit))))))) (.pair (.st (.pair (.int .u64) (.pair (.int .i64) (.pair (.int .u64) (.unit))))) (.pair (.int .u64) (.pair (.st (.pair (.int .u64) (.pair (.int .u64) (.pair (.st (.pair (.sl 134217727 (.int .i64)) (.pair (.sl 134217727 (.int .i64)) (.unit)))) (.pair (.sl 134217727 (.int .u8)) (.unit)))))) (.unit))))))), .sl 134217727 (.int .u8), .sl 134217727 (.int .u8)] fun xs => FC Tryd.prog 8 [] xs ⟨[], [], .im (.val (.bool true))⟩ := by
  obtain ⟨fu, hfu⟩ : ∃ fu : Nat, 140737488355328 < fu := ⟨_, Nat.lt_succ_self _⟩
  exact law_of (by rfl) (g8 fu) (fun x hx (b : List Int) hb (z : List Int) hz => by
    obtain ⟨(k : Int), (g : Int), ⟨(i : Int), (t : Int), (ek : Int), (d : List Int), (v : List Int), (l : List Int)⟩, ⟨(ht : Int), (hv : Int), (hc : Int)⟩, (ix : Int), (si : Int), (st : Int), ⟨(sv : List Int), (sl : List Int)⟩, (sd : List Int)⟩ := x
    have h1 : b.length * 134217727 ≤ 140737488351232 := hb.1
    have h2 : z.length * 134217727 ≤ 140737488351232 := hz.1
    have h3 : b.length ≤ 1048576 := by omega
    have h4 : z.length ≤ 1048576 := by omega
    exact p8_is (item_of hx hfu) (item_byt hx).1 (item_byt hx).2 (fun x hx => hb.2.2 x hx) h3 (fun x hx => hz.2.2 x hx) h4 hfu)

set_option maxRecDepth 100000 in
theorem codecBack_liftedU (os : Os) (started : os.Started) (H : Type) (enc : TypeId × Value → H) (F : Stop.Interp) :
    ReturnsInHanded {} Tryd.checked os 8 .any (Rows.codecBackUptoRow.pre enc Tryd.prog Tryd.f8 (Rows.OpenSpec.upto Rows.codecBackSpec)) (((Rows.OpenSpec.upto Rows.codecBackSpec).at F).post enc Tryd.prog Tryd.f8 false true false false) :=
  law_liftedL (C := Tryd.checked) (X := laidMetH Tryd.prog laidBoth) ownK laidOut started (fun hh h => h.of_heap hh) glw_of_laid (by kernel_rfl) Tryd.func8
    (witnessL (s := Rows.OpenSpec.upto Rows.codecBackSpec) (k := Rows.uptoSmall) (enc := enc) (C := Tryd.checked) rfl false (laidWorld os) #[.agg #[.int .i64 0, .int .u64 0, .int .u64 0, .int .u64 0, .int .i64 0, .slice none 0 0, .slice none 0 0, .slice none 0 0, .int .u64 0, .int .i64 0, .int .u64 0, .int .u64 0, .int .u64 0, .int .u64 0, .slice none 0 0, .slice none 0 0, .slice none 0 0], .slice none 0 0, .slice none 0 0] 8 rfl (by kernel_rfl) (by kernel_rfl) (by kernel_rfl) (by kernel_rfl) (by kernel_rfl) (laidWorld_met os _))
    rfl rfl Tryd.underlying4 (of_decide_eq_true (by kernel_rfl)) (fun l hl => by match l, hl with | [_, _, _], _ => rfl)
    [.st (.pair (.int .i64) (.pair (.int .u64) (.pair (.st (.pair (.int .u64) (.pair (.int .u64) (.pair (.int .i64) (.pair (.sl 1 (.int .u8)) (.pair (.st (.pair (.sl 8 (.int .i64)) (.pair (.sl 8 (.int .i64)) (.unit)))) (.unit))))))) (.pair (.st (.pair (.int .u64) (.pair (.int .i64) (.pair (.int .u64) (.unit))))) (.pair (.int .u64) (.pair (.st (.pair (.int .u64) (.pair (.int .u64) (.pair (.st (.pair (.sl 8 (.int .i64)) (.pair (.sl 8 (.int .i64)) (.unit)))) (.pair (.sl 1 (.int .u8)) (.unit)))))) (.unit))))))), .sl 1 (.int .u8), .sl 1 (.int .u8)] rfl (by kernel_rfl) (by kernel_rfl) codecBackAll F

theorem codecBack_holdsU : Rows.CodecBackUptoSaid :=
  OpenClaim.holds_of_cond 8 Tryd.f8 rfl rfl rfl rfl rfl rfl rfl ⟨rfl, rfl, rfl, rfl, rfl⟩ rfl rfl rfl rfl rfl (by kernel_rfl) Tryd.func8 (by kernel_rfl)
    (of_decide_eq_true (by kernel_rfl)) (by unfold Func.isWrapper; first | (rw [if_pos (by decide +kernel)]; kernel_rfl) | (rw [if_neg (by decide +kernel)]; exact ⟨rfl, rfl⟩))
    (fun os started H enc _ F => codecBack_liftedU os started H enc F)
theorem codecBack_card : Rows.CodecBackUptoCardSaid :=
  Claim7.holds_tied_plain_at .later [] [.handle, .data] true (true, "b57ee5e45ab3ed52f730d0e2c2ecce8c67a470acfaed0758e7faa8afdf73b836") true
    codecBack_holdsU (fun _ h => by cases h) (by kernel_rfl) (fun _ h => by cases h) codecBackUpto_row_tie rfl ⟨rfl, rfl⟩ (by kernel_rfl) rfl
    (fun f fn hf hfn => by
      obtain rfl : f = 8 := Option.some.inj ((show Tryd.prog.funcNamed "gazette/gazettelaw01.CodecBack" = some 8 by kernel_rfl).symm.trans hf) |>.symm
      obtain rfl : fn = Tryd.f8 := (Option.some.inj (Tryd.func8.symm.trans hfn)).symm
      exact ⟨by kernel_rfl, fun j t ht => by
        have hall : (Tryd.f8.params.toList.all fun t => !Tryd.prog.wantsStandIn t) = true := by kernel_rfl
        have hm : t ∈ Tryd.f8.params.toList := by
          rw [Array.mem_toList_iff]
          exact Array.mem_of_getElem? ht
        have h3 := List.all_eq_true.1 hall t hm
        have h4 : Tryd.prog.wantsStandIn t = false := by simpa using h3
        exact h4⟩)
    (by kernel_rfl)
#print axioms codecBack_card
end Go.Proofs.YtfhdpeceppafiaaDoor
