/-
  What Meet returns, in one contract.
-/
import Derived.Test.YtkceakoacmjkgaaOrder
import Derived.Test.YtkceakoacmjkgaaWalkE
namespace Go.Proofs.Ytkceakoacmjkgaa
open Go.RowKit

theorem meet_any (a b c d : ByteArray) (w : World) : Calls Try.prog 13 #[.agg #[.string a, .string b], .agg #[.string c, .string d]] w fun e w' =>
    e = .returned (.tuple #[.agg #[.string (meetLo a b c d), .string (meetUp a b c d)], .bool (meetOk a b c d)]) ∧ Below w.heap.size w w' := by
  cases h : chk a b == 0
  · have e : meetOk a b c d = false := by unfold meetOk; rw [h]; rfl
    unfold meetLo meetUp
    rw [e]
    exact meet_first a b c d _ rfl h w
  · cases h1 : chk c d == 0
    · have e : meetOk a b c d = false := by unfold meetOk; rw [h, h1]; rfl
      unfold meetLo meetUp
      rw [e]
      simp only [beq_iff_eq] at h
      exact meet_second a b c d _ h rfl h1 w
    · cases h2 : chk (Lib.maxS a c) (meetHi b d) == 0
      all_goals
        have e : meetOk a b c d = (chk (Lib.maxS a c) (meetHi b d) == 0) := by unfold meetOk; rw [h, h1, Bool.true_and, Bool.true_and]
        rw [h2] at e
        unfold meetLo meetUp
        rw [e]
        simp only [beq_iff_eq] at h h1
        clear e
        cases hb : b.toList.isEmpty
        · cases hd : d.toList.isEmpty
          · cases hl : Op.bytesLess d.toList b.toList
            · have e : meetHi b d = b := by unfold meetHi; rw [hb, hd, hl]; rfl
              rw [e] at h2 ⊢
              first | exact meet_h0 a b c d hb hd hl h h1 _ rfl h2 w | exact meet_h1 a b c d hb hd hl h h1 (by simpa using h2) w
            · have e : meetHi b d = d := by unfold meetHi; rw [hb, hd, hl]; rfl
              rw [e] at h2 ⊢
              first | exact meet_g0 a b c d hb hd hl h h1 _ rfl h2 w | exact meet_g1 a b c d hb hd hl h h1 (by simpa using h2) w
          · have e : meetHi b d = b := by unfold meetHi; rw [hb, hd]; rfl
            rw [e] at h2 ⊢
            first | exact meet_f0 a b c d hb hd h h1 _ rfl h2 w | exact meet_f1 a b c d hb hd h h1 (by simpa using h2) w
        · have e : meetHi b d = d := by unfold meetHi; rw [hb]; rfl
          rw [e] at h2 ⊢
          first | exact meet_e0 a b c d hb h h1 _ rfl h2 w | exact meet_e1 a b c d hb h h1 (by simpa using h2) w
end Go.Proofs.Ytkceakoacmjkgaa
