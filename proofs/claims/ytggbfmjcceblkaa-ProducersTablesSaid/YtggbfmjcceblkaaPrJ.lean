/-
  Layer 15: numbers of different producers, in two orders.
-/
import Derived.Test.YtggbfmjcceblkaaPrI
namespace Go.Proofs.Ytggbfmjcceblkaa
open Go.RowKit
variable {fu : Nat}
theorem p15_refl (l : List Pr) (hl : l.length ≤ 9223372036854775806) (hf : l.length < fu) : p15 fu (l, l, ()) = some ((), true) := by
  unfold p15
  simp only [bne_self_eq_false, cond_false]
  refine loopO_eq (I := fun s => ∃ i : Nat, s = (((i : Int), ()), ()) ∧ i ≤ l.length) (m := fun s => l.length - s.1.1.toNat) (g := fun _ => ((), true)) ?_ fu _ ⟨0, rfl, Nat.zero_le _⟩ (by simpa using hf)
  rintro s ⟨i, rfl, h1⟩
  by_cases hi : i < l.length
  · left
    refine ⟨((((i + 1 : Nat) : Int), ()), ()), ?_, ⟨i + 1, rfl, hi⟩, by simp only [Int.toNat_natCast]; omega, rfl⟩
    simp only [Int.ofNat_lt, hi, decide_true, cond_true, Int.natCast_nonneg, true_and, Int.toNat_natCast, beq_self_eq_true, Bool.and_self, Bool.not_true, cond_false, i64_succ hi (by omega)]
  · right
    obtain rfl : i = l.length := by omega
    simp [inrO]
theorem fold_take {id : Int} {l : List Nu} {i : Nat} (h : i < l.length) : foldP id (l.take (i + 1)) = stepP id (foldP id (l.take i)) (l.getD i (dflt T_gazettelaw15_Number)) := by
  rw [take_snoc' h (dflt T_gazettelaw15_Number), fold_snoc]
theorem step_id {id k : Int} (o : Option Pr) (x : Nu) : stepP id o x = stepP id o (k, x.2.1, x.2.2) := rfl
theorem nx5 {o p : Option Pr} (ho : goodP 5 o) (hp : goodP 9 p) (x : Nu) (hf : 1000 < fu) :
    ∃ t e, p12 fu (tbl o p, (5 : Int), x.2.1, x.2.2, ()) = some ((), t, e, ()) ∧ (((e == (0 : Int)) = true ∧ t = tbl (stepP 5 o x) p) ∨ ((e == (0 : Int)) = false ∧ tbl o p = tbl (stepP 5 o x) p)) := by
  have hl := tbl_len o p
  refine ⟨_, _, p12_is (fu := fu) (tbl o p) 5 x.2.1 x.2.2 (by omega) (by omega), ?_⟩
  rcases put5 ho hp x.2.1 x.2.2 with ⟨h1, h2⟩ | ⟨h1, h2⟩
  · exact .inl ⟨by simpa using h1, h2⟩
  · exact .inr ⟨by simpa using h1, by rw [step_id (k := 5), h2]⟩
theorem nx9 {o p : Option Pr} (ho : goodP 5 o) (hp : goodP 9 p) (x : Nu) (hf : 1000 < fu) :
    ∃ t e, p12 fu (tbl o p, (9 : Int), x.2.1, x.2.2, ()) = some ((), t, e, ()) ∧ (((e == (0 : Int)) = true ∧ t = tbl o (stepP 9 p x)) ∨ ((e == (0 : Int)) = false ∧ tbl o p = tbl o (stepP 9 p x))) := by
  have hl := tbl_len o p
  refine ⟨_, _, p12_is (fu := fu) (tbl o p) 9 x.2.1 x.2.2 (by omega) (by omega), ?_⟩
  rcases put9 ho hp x.2.1 x.2.2 with ⟨h1, h2⟩ | ⟨h1, h2⟩
  · exact .inl ⟨by simpa using h1, h2⟩
  · exact .inr ⟨by simpa using h1, by rw [step_id (k := 9), h2]⟩
theorem take_all {l : List Nu} {i : Nat} (h : l.length ≤ i) : l.take i = l := List.take_of_length_le h
theorem p8_is (a b : List Nu) (ha : a.length * 24 ≤ 140737488351232) (hb : b.length * 24 ≤ 140737488351232) (hf : a.length + b.length + 1000 < fu) : p8 fu (a, b, ()) = some ((), true) := by
  unfold p8
  have hw : IntKind.wrap .i64 ((a.length : Int) + (b.length : Int)) = ((a.length + b.length : Nat) : Int) := by rw [i64_wrap (by omega) (by omega)]; omega
  simp only [p9_is (fu := fu) (by omega), bind_val, hw]
  refine loopO_eq (I := fun s => ∃ i : Nat, s = ((tbl (foldP 5 (a.take i)) (foldP 9 (b.take (i - a.length))), tbl (foldP 5 (a.take (i - b.length))) (foldP 9 (b.take i)), (i : Int), ()), ()) ∧ i ≤ a.length + b.length)
    (m := fun s => a.length + b.length - s.1.2.2.1.toNat) (g := fun _ => ((), true)) ?_ fu _ ⟨0, by simp [foldP, tbl], Nat.zero_le _⟩ (by simp; omega)
  rintro s ⟨i, rfl, h1⟩
  have g5 : ∀ k, goodP 5 (foldP 5 (a.take k)) := fun k => fold_good (by decide) _
  have g9 : ∀ k, goodP 9 (foldP 9 (b.take k)) := fun k => fold_good (by decide) _
  by_cases hi : i < a.length + b.length
  · left
    refine ⟨((tbl (foldP 5 (a.take (i + 1))) (foldP 9 (b.take (i + 1 - a.length))), tbl (foldP 5 (a.take (i + 1 - b.length))) (foldP 9 (b.take (i + 1))), ((i + 1 : Nat) : Int), ()), ()), ?_, ⟨i + 1, rfl, hi⟩, by simp only [Int.toNat_natCast]; omega, rfl⟩
    have wa : a.length ≤ i → IntKind.wrap .i64 ((i : Int) - (a.length : Int)) = ((i - a.length : Nat) : Int) := fun h => by rw [i64_wrap (by omega) (by omega)]; omega
    have wb : b.length ≤ i → IntKind.wrap .i64 ((i : Int) - (b.length : Int)) = ((i - b.length : Nat) : Int) := fun h => by rw [i64_wrap (by omega) (by omega)]; omega
    have ws : IntKind.wrap .i64 ((i : Int) + 1) = ((i + 1 : Nat) : Int) := by rw [i64_wrap (by omega) (by omega)]; omega
    by_cases hia : i < a.length
    · obtain ⟨t, e, q1, q2⟩ := nx5 (fu := fu) (g5 i) (g9 (i - a.length)) (a.getD i (dflt T_gazettelaw15_Number)) (by omega)
      rw [← fold_take hia, show i - a.length = i + 1 - a.length by omega] at q2
      rw [show i - a.length = i + 1 - a.length by omega] at q1
      by_cases hib : i < b.length
      · obtain ⟨t', e', q1', q2'⟩ := nx9 (fu := fu) (g5 (i - b.length)) (g9 i) (b.getD i (dflt T_gazettelaw15_Number)) (by omega)
        rw [← fold_take hib, show i - b.length = i + 1 - b.length by omega] at q2'
        rw [show i - b.length = i + 1 - b.length by omega] at q1'
        simp only [Int.ofNat_lt, hi, hia, hib, decide_true, cond_true, Int.natCast_nonneg, true_and, Int.toNat_natCast, show i - a.length = i + 1 - a.length by omega, show i - b.length = i + 1 - b.length by omega, orK_inl, q1, q1', bind_val, ws]
        rcases q2 with ⟨z1, z2⟩ | ⟨z1, z2⟩ <;> rcases q2' with ⟨y1, y2⟩ | ⟨y1, y2⟩ <;> simp only [z1, z2, y1, y2, cond_true, cond_false, orK_inl]
      · have hk : i - b.length < a.length := by omega
        have eb : b.take (i + 1) = b.take i := by rw [take_all (by omega), take_all (by omega)]
        obtain ⟨t', e', q1', q2'⟩ := nx5 (fu := fu) (g5 (i - b.length)) (g9 i) (a.getD (i - b.length) (dflt T_gazettelaw15_Number)) (by omega)
        rw [← fold_take hk, show i - b.length + 1 = i + 1 - b.length by omega] at q2'
        simp only [Int.ofNat_lt, hi, hia, hib, hk, decide_true, decide_false, cond_true, cond_false, Int.natCast_nonneg, true_and, Int.toNat_natCast, show i - a.length = i + 1 - a.length by omega, wb (by omega), eb, orK_inl, q1, q1', bind_val, ws]
        rcases q2 with ⟨z1, z2⟩ | ⟨z1, z2⟩ <;> rcases q2' with ⟨y1, y2⟩ | ⟨y1, y2⟩ <;> simp only [z1, z2, y1, y2, cond_true, cond_false, orK_inl]
    · have hk : i - a.length < b.length := by omega
      have ea : a.take (i + 1) = a.take i := by rw [take_all (by omega), take_all (by omega)]
      obtain ⟨t, e, q1, q2⟩ := nx9 (fu := fu) (g5 i) (g9 (i - a.length)) (b.getD (i - a.length) (dflt T_gazettelaw15_Number)) (by omega)
      rw [← fold_take hk, show i - a.length + 1 = i + 1 - a.length by omega] at q2
      by_cases hib : i < b.length
      · obtain ⟨t', e', q1', q2'⟩ := nx9 (fu := fu) (g5 (i - b.length)) (g9 i) (b.getD i (dflt T_gazettelaw15_Number)) (by omega)
        rw [← fold_take hib, show i - b.length = i + 1 - b.length by omega] at q2'
        rw [show i - b.length = i + 1 - b.length by omega] at q1'
        simp only [Int.ofNat_lt, hi, hia, hib, hk, decide_true, decide_false, cond_true, cond_false, Int.natCast_nonneg, true_and, Int.toNat_natCast, show i - b.length = i + 1 - b.length by omega, wa (by omega), ea, orK_inl, q1, q1', bind_val, ws]
        rcases q2 with ⟨z1, z2⟩ | ⟨z1, z2⟩ <;> rcases q2' with ⟨y1, y2⟩ | ⟨y1, y2⟩ <;> simp only [z1, z2, y1, y2, cond_true, cond_false, orK_inl]
      · have hk' : i - b.length < a.length := by omega
        have eb : b.take (i + 1) = b.take i := by rw [take_all (by omega), take_all (by omega)]
        obtain ⟨t', e', q1', q2'⟩ := nx5 (fu := fu) (g5 (i - b.length)) (g9 i) (a.getD (i - b.length) (dflt T_gazettelaw15_Number)) (by omega)
        rw [← fold_take hk', show i - b.length + 1 = i + 1 - b.length by omega] at q2'
        simp only [Int.ofNat_lt, hi, hia, hib, hk, hk', decide_true, decide_false, cond_true, cond_false, Int.natCast_nonneg, true_and, Int.toNat_natCast, wa (by omega), wb (by omega), ea, eb, orK_inl, q1, q1', bind_val, ws]
        rcases q2 with ⟨z1, z2⟩ | ⟨z1, z2⟩ <;> rcases q2' with ⟨y1, y2⟩ | ⟨y1, y2⟩ <;> simp only [z1, z2, y1, y2, cond_true, cond_false, orK_inl]
  · right
    obtain rfl : i = a.length + b.length := by omega
    have e1 : a.length + b.length - a.length = b.length := by omega
    have e2 : a.length + b.length - b.length = a.length := by omega
    rw [e1, e2, take_all (l := a) (by omega), take_all (l := b) (i := a.length + b.length) (by omega), take_all (l := b) (Nat.le_refl _), take_all (l := a) (Nat.le_refl _)]
    have hl := tbl_len (foldP 5 a) (foldP 9 b)
    have h2 : ((tbl (foldP 5 a) (foldP 9 b)).length : Int) ≤ 2 := by omega
    simp [inrO, p15_refl (fu := fu) (tbl (foldP 5 a) (foldP 9 b)) (by omega) (by omega), bind_val, h2]
end Go.Proofs.Ytggbfmjcceblkaa
