/-
  Layer 15: tables that are put together.
-/
import Derived.Test.YtggbfmjcceblkaaPrA
namespace Go.Proofs.Ytggbfmjcceblkaa
open Go.RowKit
variable {fu : Nat}
def mrg (both : Pr → Pr → Pr) : Nat → List Pr → List Pr → List Pr
  | 0, a, b => a ++ b
  | _ + 1, [], b => b
  | _ + 1, x :: a, [] => x :: a
  | n + 1, x :: a, y :: b => if x.1 < y.1 then x :: mrg both n a (y :: b) else if x.1 > y.1 then y :: mrg both n (x :: a) b else both x y :: mrg both n a b
def newest (_ y : Pr) : Pr := y
theorem p38_is (x y : Pr) : p38 fu ((x.1, x.2.1, x.2.2.1, x.2.2.2, ()), (y.1, y.2.1, y.2.2.1, y.2.2.2, ()), ()) = some ((), ((newest x y).1, (newest x y).2.1, (newest x y).2.2.1, (newest x y).2.2.2, ())) := rfl
theorem mrg_more (both : Pr → Pr → Pr) : ∀ (n m : Nat) (a b : List Pr), a.length + b.length ≤ n → a.length + b.length ≤ m → mrg both n a b = mrg both m a b
  | 0, m, a, b, h, _ => by
    have ha : a = [] := List.eq_nil_of_length_eq_zero (by omega)
    have hb : b = [] := List.eq_nil_of_length_eq_zero (by omega)
    subst ha hb
    cases m <;> rfl
  | n + 1, 0, a, b, _, h => by
    have ha : a = [] := List.eq_nil_of_length_eq_zero (by omega)
    have hb : b = [] := List.eq_nil_of_length_eq_zero (by omega)
    subst ha hb
    rfl
  | n + 1, m + 1, [], b, _, _ => rfl
  | n + 1, m + 1, x :: a, [], _, _ => rfl
  | n + 1, m + 1, x :: a, y :: b, h1, h2 => by
    simp only [List.length_cons] at h1 h2
    simp only [mrg]
    rw [mrg_more both n m a (y :: b) (by simp; omega) (by simp; omega), mrg_more both n m (x :: a) b (by simp; omega) (by simp; omega), mrg_more both n m a b (by omega) (by omega)]
def merge (both : Pr → Pr → Pr) (a b : List Pr) : List Pr := mrg both (a.length + b.length) a b
theorem merge_nil (both : Pr → Pr → Pr) (b : List Pr) : merge both [] b = b := by
  unfold merge
  cases b <;> rfl
theorem merge_nil' (both : Pr → Pr → Pr) (a : List Pr) : merge both a [] = a := by
  unfold merge
  cases a <;> rfl
theorem merge_cons (both : Pr → Pr → Pr) (x y : Pr) (a b : List Pr) : merge both (x :: a) (y :: b) = if x.1 < y.1 then x :: merge both a (y :: b) else if x.1 > y.1 then y :: merge both (x :: a) b else both x y :: merge both a b := by
  unfold merge
  have e : (x :: a).length + (y :: b).length = (a.length + b.length + 1) + 1 := by simp; omega
  rw [e]
  simp only [mrg]
  rw [mrg_more both (a.length + b.length + 1) (a.length + (y :: b).length) a (y :: b) (by simp; omega) (by omega),
    mrg_more both (a.length + b.length + 1) ((x :: a).length + b.length) (x :: a) b (by simp; omega) (by omega),
    mrg_more both (a.length + b.length + 1) (a.length + b.length) a b (by omega) (by omega)]
theorem p32_is (l r : List Pr) (hb : (l.length + r.length) * 32 ≤ 140737488355328) (hf : l.length + r.length < fu) :
    p32 fu (l, r, ((), ()), ((), ()), ()) = some ((), merge newest l r) := by
  unfold p32
  refine orK_loop (I := fun s => ∃ v0 v1 v9 : List Pr, s = ((v0, v1, v9, ()), ()) ∧ v9 ++ merge newest v0 v1 = merge newest l r ∧ v9.length + v0.length + v1.length ≤ l.length + r.length)
      (m := fun s => s.1.1.length + s.1.2.1.length)
      (Q := fun z => ∃ v0 v1 v9 : List Pr, z = .inl ((v0, v1, v9, ()), ()) ∧ (v0 = [] ∨ v1 = []) ∧ v9 ++ merge newest v0 v1 = merge newest l r ∧ v9.length + v0.length + v1.length ≤ l.length + r.length)
      ⟨l, r, [], rfl, rfl, by simp⟩ (by simpa using hf) ?_ ?_
  · rintro s ⟨v0, v1, v9, rfl, h1, h2⟩
    cases v0 with
    | nil => exact ⟨.inr (.inl (([], v1, v9, ()), ())), by simp [inrO], [], v1, v9, rfl, .inl rfl, h1, h2⟩
    | cons x a =>
      cases v1 with
      | nil => exact ⟨.inr (.inl ((x :: a, [], v9, ()), ())), by simp [inrO], x :: a, [], v9, rfl, .inr rfl, h1, h2⟩
      | cons y b =>
        rw [merge_cons] at h1
        simp only [List.length_cons] at h2
        have hp := p33_is (fu := fu) x y
        have hm : v9.length + 1 ≤ maxLen ∧ (v9.length + 1) * 32 ≤ 140737488355328 := by unfold maxLen; omega
        by_cases c1 : x.1 < y.1
        · rw [if_pos c1] at h1
          have hc : cmpI x.1 y.1 = -1 := by simp [cmpI, c1]
          refine ⟨.inl ((a, y :: b, v9 ++ [x], ()), ()), ?_, ⟨a, y :: b, v9 ++ [x], rfl, by simpa using h1, by simp; omega⟩, by simp⟩
          simp [hp, hc, hm]
        · rw [if_neg c1] at h1
          by_cases c2 : x.1 > y.1
          · rw [if_pos c2] at h1
            have hc : cmpI x.1 y.1 = 1 := by simp [cmpI, c1, c2]
            refine ⟨.inl ((x :: a, b, v9 ++ [y], ()), ()), ?_, ⟨x :: a, b, v9 ++ [y], rfl, by simpa using h1, by simp; omega⟩, by simp⟩
            simp [hp, hc, hm]
          · rw [if_neg c2] at h1
            have hc : cmpI x.1 y.1 = 0 := by simp [cmpI, c1, c2]
            refine ⟨.inl ((a, b, v9 ++ [newest x y], ()), ()), ?_, ⟨a, b, v9 ++ [newest x y], rfl, by simpa using h1, by simp; omega⟩, by simp; omega⟩
            simp [hp, hc, hm, p38_is, newest]
  rintro z ⟨v0, v1, v9, rfl, h1, h2, h3⟩
  simp only [orK_inl, decide_true, cond_true]
  have b1 : v9.length + v0.length ≤ maxLen ∧ (v9.length + v0.length) * 32 ≤ 140737488355328 := by unfold maxLen; omega
  have b2 : (v9 ++ v0).length + v1.length ≤ maxLen ∧ ((v9 ++ v0).length + v1.length) * 32 ≤ 140737488355328 := by unfold maxLen; simp; omega
  simp only [b1, b2, and_self, decide_true, cond_true]
  rcases h1 with rfl | rfl
  · rw [merge_nil] at h2; simp [h2]
  · rw [merge_nil'] at h2; simp [h2]
end Go.Proofs.Ytggbfmjcceblkaa
