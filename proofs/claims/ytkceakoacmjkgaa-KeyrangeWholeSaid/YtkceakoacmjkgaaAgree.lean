/-
  Where the program and the document's answer agree: each call of one range, or two, returns the same by both.
-/
import Derived.Test.YtkceakoacmjkgaaWalkB
import Derived.Test.YtkceakoacmjkgaaWalkC
import Derived.Test.YtkceakoacmjkgaaWalkD
import Derived.Test.YtkceakoacmjkgaaWalkE
import Derived.Test.YtkceakoacmjkgaaWalkF
import Derived.Test.YtkceakoacmjkgaaWalkG
namespace Go.Proofs.Ytkceakoacmjkgaa
open Go.RowKit

/-- Two functions return the same of these arguments, in whatever world, and leave what was there as it was. -/
def Agree (f g : Nat) (args : Array Value) (v : Value) : Prop :=
  (∀ w, Calls Try.prog f args w fun e w' => e = .returned v ∧ Below w.heap.size w w') ∧ (∀ w, Calls Try.prog g args w fun e w' => e = .returned v ∧ Below w.heap.size w w')

theorem check_agree (a b : ByteArray) : ∃ n, Agree 15 19 #[.agg #[.string a, .string b]] (.int .i64 n) :=
  ⟨_, check_any a b, refCheck_any a b⟩

theorem has_agree (a b k : ByteArray) : ∃ v, Agree 10 20 #[.agg #[.string a, .string b], .string k] (.bool v) :=
  ⟨_, has_is a b k _ rfl, refHas_is a b k _ rfl⟩

theorem split_agree (a b k : ByteArray) : ∃ p q r s n, Agree 11 16 #[.agg #[.string a, .string b], .string k] (.tuple #[.agg #[.string p, .string q], .agg #[.string r, .string s], .int .i64 n]) := by
  cases h : splitE a b k == 0
  · exact ⟨_, _, _, _, _, split_no a b k _ rfl h, refSplit_no a b k _ rfl h⟩
  · simp only [beq_iff_eq] at h
    exact ⟨_, _, _, _, _, split_yes a b k h, refSplit_yes a b k h⟩

theorem merge_agree (a b c d : ByteArray) : ∃ p q n, Agree 12 17 #[.agg #[.string a, .string b], .agg #[.string c, .string d]] (.tuple #[.agg #[.string p, .string q], .int .i64 n]) := by
  cases h : chk a b == 0
  · exact ⟨_, _, _, merge_first a b c d _ rfl h, refMerge_first a b c d _ rfl h⟩
  · simp only [beq_iff_eq] at h
    cases h1 : chk c d == 0
    · exact ⟨_, _, _, merge_second a b c d _ h rfl h1, refMerge_second a b c d _ h rfl h1⟩
    · simp only [beq_iff_eq] at h1
      have A := merge_rest a b c d h h1
      have B := refMerge_rest a b c d h h1
      cases u : (!b.toList.isEmpty && b.toList == c.toList)
      · rw [u] at A B
        exact ⟨_, _, _, A, B⟩
      · rw [u] at A B
        exact ⟨_, _, _, A, B⟩

theorem meet_agree (a b c d : ByteArray) : ∃ p q v, Agree 13 18 #[.agg #[.string a, .string b], .agg #[.string c, .string d]] (.tuple #[.agg #[.string p, .string q], .bool v]) := by
  cases h : chk a b == 0
  · exact ⟨_, _, _, meet_first a b c d _ rfl h, refmeet_first a b c d _ rfl h⟩
  · simp only [beq_iff_eq] at h
    cases h1 : chk c d == 0
    · exact ⟨_, _, _, meet_second a b c d _ h rfl h1, refmeet_second a b c d _ h rfl h1⟩
    · simp only [beq_iff_eq] at h1
      cases hb : b.toList.isEmpty
      · cases hd : d.toList.isEmpty
        · cases hl : Op.bytesLess d.toList b.toList
          · cases h2 : chk (Lib.maxS a c) b == 0
            · exact ⟨_, _, _, meet_h0 a b c d hb hd hl h h1 _ rfl h2, refmeet_h0 a b c d hb hd hl h h1 _ rfl h2⟩
            · simp only [beq_iff_eq] at h2
              exact ⟨_, _, _, meet_h1 a b c d hb hd hl h h1 h2, refmeet_h1 a b c d hb hd hl h h1 h2⟩
          · cases h2 : chk (Lib.maxS a c) d == 0
            · exact ⟨_, _, _, meet_g0 a b c d hb hd hl h h1 _ rfl h2, refmeet_g0 a b c d hb hd hl h h1 _ rfl h2⟩
            · simp only [beq_iff_eq] at h2
              exact ⟨_, _, _, meet_g1 a b c d hb hd hl h h1 h2, refmeet_g1 a b c d hb hd hl h h1 h2⟩
        · cases h2 : chk (Lib.maxS a c) b == 0
          · exact ⟨_, _, _, meet_f0 a b c d hb hd h h1 _ rfl h2, refmeet_f0 a b c d hb hd h h1 _ rfl h2⟩
          · simp only [beq_iff_eq] at h2
            exact ⟨_, _, _, meet_f1 a b c d hb hd h h1 h2, refmeet_f1 a b c d hb hd h h1 h2⟩
      · cases h2 : chk (Lib.maxS a c) d == 0
        · exact ⟨_, _, _, meet_e0 a b c d hb h h1 _ rfl h2, refmeet_e0 a b c d hb h h1 _ rfl h2⟩
        · simp only [beq_iff_eq] at h2
          exact ⟨_, _, _, meet_e1 a b c d hb h h1 h2, refmeet_e1 a b c d hb h h1 h2⟩

set_option maxHeartbeats 1000000 in
theorem lives_yes (w : World) : Calls Try.prog 9 #[] w fun e w' => e = .returned (.bool true) ∧ Below w.heap.size w w' := by
  have S := split_yes ⟨#[98]⟩ ⟨#[]⟩ ⟨#[107]⟩ (by decide +kernel)
  go_enter Try.func9, Try.ntmps9
  go_wp2_with (first | (go_at_call 11; refine (S _).mono ?_; rintro e w1 ⟨rfl, hb1⟩))
  go_ret
  exact ⟨rfl, box (box hb1 _) _⟩
end Go.Proofs.Ytkceakoacmjkgaa
