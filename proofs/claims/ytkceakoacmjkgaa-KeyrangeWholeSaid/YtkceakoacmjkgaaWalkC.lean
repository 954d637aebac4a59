/-
  Contracts: gazetteref13.Has and Split.
-/
import Derived.Test.YtkceakoacmjkgaaWalkA
namespace Go.Proofs.Ytkceakoacmjkgaa
open Go.RowKit


theorem less_total : ∀ a b : List UInt8, Op.bytesLess a b = (!Op.bytesLess b a && !b == a)
  | [], [] => by simp [Op.bytesLess]
  | [], _ :: _ => by simp [Op.bytesLess]
  | _ :: _, [] => by simp [Op.bytesLess]
  | a :: x, b :: y => by
    have ih := less_total x y
    simp only [Op.bytesLess, ih]
    rw [Bool.eq_iff_iff]
    simp only [Bool.or_eq_true, Bool.and_eq_true, decide_eq_true_eq, beq_iff_eq, Bool.not_eq_true', Bool.or_eq_false_iff, Bool.and_eq_false_imp, decide_eq_false_iff_not, List.cons.injEq, beq_eq_false_iff_ne, ne_eq, not_and, UInt8.lt_iff_toNat_lt, ← UInt8.toNat_inj]
    constructor
    · rintro (h | ⟨h, h1, h2⟩)
      · exact ⟨⟨by omega, by omega⟩, by omega⟩
      · exact ⟨⟨by omega, fun _ => h1⟩, fun _ => h2⟩
    · rintro ⟨⟨h1, h2⟩, h3⟩
      by_cases e : a.toNat = b.toNat
      · exact Or.inr ⟨e, h2 e.symm, h3 e.symm⟩
      · exact Or.inl (by omega)

theorem has_ref (lo hi key : ByteArray) : has lo hi key = (chk lo hi == 0 && (decide (key.size ≤ 32) && (!Op.bytesLess key.toList lo.toList && (hi.toList.isEmpty || Op.bytesLess key.toList hi.toList)))) := by
  rw [less_total key.toList hi.toList]; rfl

theorem refHas_is (lo hi key : ByteArray) (v : Bool) (h : has lo hi key = v) (w : World) :
    Calls Try.prog 20 #[.agg #[.string lo, .string hi], .string key] w fun e w' => e = .returned (.bool v) ∧ Below w.heap.size w w' := by
  subst h
  rw [has_ref]
  have A := refCheck_is lo hi (chk lo hi) rfl
  cases a : chk lo hi == 0
  · generalize hn : chk lo hi = n at *
    clear hn
    go_enter Try.func20, Try.ntmps20
    go_wp2_with (first
      | (go_at_call 19; refine (A _).mono ?_; rintro e w1 ⟨rfl, hb1⟩; obtain ⟨hc1, hf1⟩ := bcell hb1))
    go_ret
    exact ⟨rfl, after (box1 _ _) hb1⟩
  · simp only [beq_iff_eq] at a
    rw [a] at A
    clear a
    cases b : decide (key.size ≤ 32)
    all_goals simp only [decide_eq_false_iff_not, decide_eq_true_eq] at b
    · go_enter Try.func20, Try.ntmps20
      go_wp2_with (first
        | (go_at_call 19; refine (A _).mono ?_; rintro e w1 ⟨rfl, hb1⟩; obtain ⟨hc1, hf1⟩ := bcell hb1))
      go_ret
      exact ⟨rfl, after (box1 _ _) hb1⟩
    · cases c : Op.bytesLess key.toList lo.toList
      · cases d : hi.toList.isEmpty
        all_goals
          go_enter Try.func20, Try.ntmps20
          go_wp2_with (first
            | (go_at_call 19; refine (A _).mono ?_; rintro e w1 ⟨rfl, hb1⟩; obtain ⟨hc1, hf1⟩ := bcell hb1))
          go_ret
          exact ⟨by simp, after (box1 _ _) hb1⟩
      · go_enter Try.func20, Try.ntmps20
        go_wp2_with (first
          | (go_at_call 19; refine (A _).mono ?_; rintro e w1 ⟨rfl, hb1⟩; obtain ⟨hc1, hf1⟩ := bcell hb1))
        go_ret
        exact ⟨by simp, after (box1 _ _) hb1⟩
end Go.Proofs.Ytkceakoacmjkgaa
