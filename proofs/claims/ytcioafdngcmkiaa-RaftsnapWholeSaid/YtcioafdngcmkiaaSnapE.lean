/-
  Proved here: RaftsnapWhole returns true for every snapshot and every list of bytes to begin at, and its arguments read afterwards as before. Conditions: none.
-/
import Derived.Test.YtcioafdngcmkiaaSnapD
namespace Go.Proofs.Ytcioafdngcmkiaa
open Go.ChangeShapes Go.WideShapes Go.ChangeAt Go.RowKit
theorem raftsnapWholeAll : Ty.alls [snapTy, .sl 8 (.int .u64)] fun xs => FC Try.prog 5 [] xs ⟨[], [], .im (.val (.bool true))⟩ := by
  simp only [Ty.alls, Ty.all, Ty.allF, kindBounds]
  intro ix i1 i2 tm t1 t2 n1 b1 m1 f1 z1 n2 b2 m2 f2 z2 n b m g z no bo mo od ho
  refine fc_args (wholeLaw ix tm n1 f1 n2 f2 n g (by omega) (by omega) (by omega) no od (by omega) ho) ?_
  (conv => simp only [Ty.arg, slT, Ty.size, List.cons_append, List.nil_append, List.append_nil, V.ren, implies_true, Int.cast_ofNat_Int, Int.reduceLT, Int.reduceLE, Int.reduceEq, Int.reduceBEq, Int.reduceBNe, Int.reduceAdd, Int.reduceSub, Int.reduceMul, Int.reduceToNat, T.le_nil, T.flat, V.flat, V.flatP, Ob.flatP, allP, vwP, List.zipIdx_cons, argP, argsP, allLt, lf, V.cell, St_O, lo_cons', lo_nil, lk_cons, lk_nil, List.getD_cons_zero, List.getD_cons_succ, List.getD_nil, Nat.reduceAdd, Nat.zero_add, Nat.reduceSub, Nat.reduceLT, Nat.reduceLeDiff, Nat.reduceEqDiff, T.le_self, true_and, and_true, and_self, if_true, if_false, ↓reduceIte, List.mem_cons, List.not_mem_nil, or_false, or_true, false_or, true_or]) <;> try exact True.intro

set_option maxRecDepth 100000 in
theorem raftsnapWhole_lifted (os : Os) (started : os.Started) (H : Type) (enc : TypeId × Value → H) :
    ReturnsInHanded {} Try.checked os 5 .any (Rows.raftsnapWholeSpec.pre6 enc Try.prog Try.f5 Rows.raftsnapWholeRow.domain false) (Rows.raftsnapWholeSpec.post enc Try.prog Try.f5 false true false false) :=
  law_lifted (C := Try.checked) ownK laidOut started (by kernel_rfl) Try.func5
    (ChangeSpec.witness6 (enc := enc) (C := Try.checked) false ⟨#[], #[.agg #[.int .u64 0, .int .u64 0, .slice none 0 0, .slice none 0 0, .slice none 0 0], .slice none 0 0], []⟩ 8 (by kernel_rfl) (by kernel_rfl) (by kernel_rfl) (by kernel_rfl))
    rfl rfl Try.underlying4 (of_decide_eq_true (by kernel_rfl)) (fun l hl => by match l, hl with | [_, _], _ => rfl)
    [snapTy, .sl 8 (.int .u64)] rfl (by kernel_rfl) raftsnapWholeAll

theorem raftsnapWhole_holds : Rows.RaftsnapWholeSaid :=
  OpenClaim.holds_of_wide 5 Try.f5 rfl rfl rfl rfl rfl rfl rfl ⟨rfl, rfl, rfl, rfl, rfl⟩ rfl rfl rfl rfl rfl (by kernel_rfl) Try.func5 (by kernel_rfl)
    (of_decide_eq_true (by kernel_rfl)) (by unfold Func.isWrapper; first | (rw [if_pos (by decide +kernel)]; kernel_rfl) | (rw [if_neg (by decide +kernel)]; exact ⟨rfl, rfl⟩))
    (fun os started H enc _ => raftsnapWhole_lifted os started H enc)
#print axioms raftsnapWhole_holds
end Go.Proofs.Ytcioafdngcmkiaa
