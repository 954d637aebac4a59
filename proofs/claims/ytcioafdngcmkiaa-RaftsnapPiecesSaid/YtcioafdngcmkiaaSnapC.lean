/-
  Proved here: RaftsnapPieces returns true for every snapshot, every byte and every number, and its arguments read afterwards as before. Conditions: none.
-/
import Derived.Test.YtcioafdngcmkiaaSnapB
import Derived.Test.YtcioafdngcmkiaaTrY
namespace Go.Proofs.Ytcioafdngcmkiaa
open Go.ChangeShapes Go.WideShapes Go.ChangeAt Go.RowKit
abbrev confTy : Ty := .st (.pair (.sl 8 (.int .i64)) (.pair (.sl 8 (.int .i64)) .unit))
abbrev snapTy : Ty := .st (.pair (.int .u64) (.pair (.int .u64) (.pair confTy (.pair (.sl 1 (.int .u8)) .unit))))
theorem piecesAll : Ty.alls [snapTy, .int .u64, .int .i64] fun xs => FC Try.prog 3 [] xs ⟨[], [], .im (.val (.bool true))⟩ := by
  simp only [Ty.alls, Ty.all, Ty.allF, kindBounds]
  intro ix i1 i2 tm t1 t2 n1 b1 m1 f1 z1 n2 b2 m2 f2 z2 n b m g z fr r1 r2 k k1 k2
  obtain ⟨fr, rfl⟩ := Int.eq_ofNat_of_zero_le r1
  refine fc_args (piecesLaw ix tm n1 f1 n2 f2 n g (by omega) (by omega) (by omega) fr (by omega) k (by omega) (by omega)) ?_
  (conv => simp only [Ty.arg, slT, Ty.size, List.cons_append, List.nil_append, List.append_nil, V.ren, implies_true, Int.cast_ofNat_Int, Int.reduceLT, Int.reduceLE, Int.reduceEq, Int.reduceBEq, Int.reduceBNe, Int.reduceAdd, Int.reduceSub, Int.reduceMul, Int.reduceToNat, T.le_nil, T.flat, V.flat, V.flatP, Ob.flatP, allP, vwP, List.zipIdx_cons, argP, argsP, allLt, lf, V.cell, St_O, lo_cons', lo_nil, lk_cons, lk_nil, List.getD_cons_zero, List.getD_cons_succ, List.getD_nil, Nat.reduceAdd, Nat.zero_add, Nat.reduceSub, Nat.reduceLT, Nat.reduceLeDiff, Nat.reduceEqDiff, T.le_self, true_and, and_true, and_self, if_true, if_false, ↓reduceIte, List.mem_cons, List.not_mem_nil, or_false, or_true, false_or, true_or]) <;> try exact True.intro

set_option maxRecDepth 100000 in
theorem raftsnapPieces_lifted (os : Os) (started : os.Started) (H : Type) (enc : TypeId × Value → H) :
    ReturnsInHanded {} Try.checked os 3 .any (Rows.raftsnapPiecesSpec.pre6 enc Try.prog Try.f3 Rows.raftsnapPiecesRow.domain false) (Rows.raftsnapPiecesSpec.post enc Try.prog Try.f3 false true false false) :=
  law_lifted (C := Try.checked) ownK laidOut started (by kernel_rfl) Try.func3
    (ChangeSpec.witness6 (enc := enc) (C := Try.checked) false ⟨#[], #[.agg #[.int .u64 0, .int .u64 0, .slice none 0 0, .slice none 0 0, .slice none 0 0], .int .u64 0, .int .i64 0], []⟩ 8 (by kernel_rfl) (by kernel_rfl) (by kernel_rfl) (by kernel_rfl))
    rfl rfl Try.underlying4 (of_decide_eq_true (by kernel_rfl)) (fun l hl => by match l, hl with | [_, _, _], _ => rfl)
    [snapTy, .int .u64, .int .i64] rfl (by kernel_rfl) piecesAll

theorem raftsnapPieces_holds : Rows.RaftsnapPiecesSaid :=
  OpenClaim.holds_of_wide 3 Try.f3 rfl rfl rfl rfl rfl rfl rfl ⟨rfl, rfl, rfl, rfl, rfl⟩ rfl rfl rfl rfl rfl (by kernel_rfl) Try.func3 (by kernel_rfl)
    (of_decide_eq_true (by kernel_rfl)) (by unfold Func.isWrapper; first | (rw [if_pos (by decide +kernel)]; kernel_rfl) | (rw [if_neg (by decide +kernel)]; exact ⟨rfl, rfl⟩))
    (fun os started H enc _ => raftsnapPieces_lifted os started H enc)
#print axioms raftsnapPieces_holds
end Go.Proofs.Ytcioafdngcmkiaa
