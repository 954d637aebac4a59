/-
  Layer 9: pieces and what has come, typed.
-/
import Derived.Test.YtcioafdngcmkiaaPt
import Derived.Test.YtcioafdngcmkiaaDaP
namespace Go.Proofs.Ytcioafdngcmkiaa
open Go.RowKit
variable {fu : Nat}
theorem copyL_all {α : Type} (l : List α) (d : α) : copyL (List.replicate l.length d) 0 l.length l = l := by
  simp [copyL]
theorem p24_is (l : List Int) (h : l.length * 8 ≤ 140737488355328) : p24 fu (l, ()) = some ((), l) := by
  unfold p24
  cases l with
  | nil => rfl
  | cons a l =>
    have h0 : (((a :: l).length : Int) == 0) = false := by simp; omega
    have h1 : (0 : Int) ≤ ((a :: l).length : Int) ∧ ((a :: l).length : Int) ≤ ((a :: l).length : Int) ∧ ((a :: l).length : Int) ≤ 9223372036854775807 ∧ (8 : Int) * ((a :: l).length : Int) ≤ 140737488355328 := by omega
    simp only [h0, cond_false, h1, and_self, decide_true, cond_true, Int.toNat_natCast, List.length_replicate, copyL_all]
theorem p21_is (l : List Int) (h : l.length ≤ 140737488355328) : p21 fu (l, ()) = some ((), l) := by
  unfold p21
  cases l with
  | nil => rfl
  | cons a l =>
    have h0 : (((a :: l).length : Int) == 0) = false := by simp; omega
    have h1 : (0 : Int) ≤ ((a :: l).length : Int) ∧ ((a :: l).length : Int) ≤ ((a :: l).length : Int) ∧ ((a :: l).length : Int) ≤ 9223372036854775807 ∧ (1 : Int) * ((a :: l).length : Int) ≤ 140737488355328 := by omega
    simp only [h0, cond_false, h1, and_self, decide_true, cond_true, Int.toNat_natCast, List.length_replicate, copyL_all]
theorem p20_is (a b : List Int) (ha : a.length * 8 ≤ 140737488355328) (hb : b.length * 8 ≤ 140737488355328) : p20 fu ((a, b, ()), ()) = some ((), (a, b, ())) := by
  unfold p20
  simp only [p24_is a ha, p24_is b hb, bind_val, decide_true, cond_true]
/-- A piece of a snapshot's bytes. -/
def pc (d : List Int) (n : Nat) : List Int := (d.drop n).take (min 64 (d.length - n))
theorem slice_at {α : Type} (l : List α) (a b : Nat) : slice' l a (some b) = (l.drop a).take (b - a) := by cases a <;> rfl
theorem p9_is (i t : Int) (v l d : List Int) (n : Nat) (hv : v.length * 8 ≤ 140737488355328) (hl : l.length * 8 ≤ 140737488355328) (hd : d.length ≤ 140737488355328) (hn : n ≤ d.length) :
    p9 fu ((i, t, v, l, d, ()), (n : Int), ()) = some ((), ((7, 0, 0, 0, i, t, [], 0, false, (n : Int), v, l, pc d n, (((n + min 64 (d.length - n) : Nat) : Int) == (d.length : Int)), ()), 0, ())) := by
  have w1 : IntKind.wrap .u64 (d.length : Int) = (d.length : Int) := wrap_u64 (by omega) (by omega)
  have w2 : IntKind.wrap .u64 ((d.length : Int) - (n : Int)) = ((d.length - n : Nat) : Int) := by rw [wrap_u64 (by omega) (by omega)]; omega
  have w3 : (if ((d.length - n : Nat) : Int) < (64 : Int) then ((d.length - n : Nat) : Int) else (64 : Int)) = ((min 64 (d.length - n) : Nat) : Int) := by split <;> omega
  have w4 : IntKind.wrap .u64 ((n : Int) + ((min 64 (d.length - n) : Nat) : Int)) = ((n + min 64 (d.length - n) : Nat) : Int) := by rw [wrap_u64 (by omega) (by omega)]; omega
  have g1 : ¬ ((n : Int) > (d.length : Int)) := by omega
  have g2 : n ≤ n + min 64 (d.length - n) ∧ n + min 64 (d.length - n) ≤ n + min 64 (d.length - n) ∧ n + min 64 (d.length - n) ≤ d.length := by omega
  have hp : slice' d n (some (n + min 64 (d.length - n))) = pc d n := by rw [slice_at, Nat.add_sub_cancel_left]; rfl
  have hpl : (pc d n).length ≤ 140737488355328 := by unfold pc; simp; omega
  unfold p9
  simp only [w1, w2, w3, w4, g1, decide_false, cond_false, Int.natCast_nonneg, decide_true, cond_true, Int.toNat_natCast, g2, and_self, p20_is v l hv hl, bind_val, hp, p21_is (pc d n) hpl]
theorem p7_is : p7 fu () = some ((), true) := by
  have h := p9_is (fu := fu) 5 2 [] [] (List.replicate 100 (0 : Int)) 64 (by simp) (by simp) (by simp) (by simp)
  have hl : (List.replicate 100 (0 : Int)).length = 100 := List.length_replicate
  have hp : (pc (List.replicate 100 (0 : Int)) 64).length = 36 := by unfold pc; simp
  rw [hl] at h
  unfold p7
  have h64 : ((64 : Nat) : Int) = (64 : Int) := rfl
  rw [h64] at h
  simp only [hl, decide_true, cond_true, h, bind_val, beq_self_eq_true, hp]
  rfl
/-- What has come, with one piece more. -/
def come (a0 a1 : Int) (a2 : List Int) (i t : Int) : List Int := if a0 = i ∧ a1 = t then a2 else []
theorem cond_and {E R : Type} (a b : Bool) (f : Bool → E) : (bif a then some (Sum.inl (f b)) else some (Sum.inl (f false)) : Option (E ⊕ R)) = some (.inl (f (a && b))) := by cases a <;> rfl
theorem beq_dec (a b : Int) : (a == b) = decide (a = b) := by rw [Bool.eq_iff_iff]; simp
theorem p15_is (a0 a1 : Int) (a2 : List Int) (m : D_api_Msg) (h2 : a2.length + m.2.2.2.2.2.2.2.2.2.2.2.1.length ≤ 140737488355328) :
    p15 fu ((a0, a1, a2, ()), (m.1, m.2.1, m.2.2.1, m.2.2.2.1, m.2.2.2.2.1, m.2.2.2.2.2.1, m.2.2.2.2.2.2.1, m.2.2.2.2.2.2.2.1, m.2.2.2.2.2.2.2.2.1, m.2.2.2.2.2.2.2.2.2.1, m.2.2.2.2.2.2.2.2.2.2.1.1, m.2.2.2.2.2.2.2.2.2.2.1.2, m.2.2.2.2.2.2.2.2.2.2.2.1, m.2.2.2.2.2.2.2.2.2.2.2.2, ()), ()) =
      some ((), if m.2.2.2.2.2.2.2.2.2.1 = ((come a0 a1 a2 m.2.2.2.2.1 m.2.2.2.2.2.1).length : Int) then ((m.2.2.2.2.1, m.2.2.2.2.2.1, come a0 a1 a2 m.2.2.2.2.1 m.2.2.2.2.2.1 ++ m.2.2.2.2.2.2.2.2.2.2.2.1, ()), m.2.2.2.2.2.2.2.2.2.2.2.2, ()) else ((m.2.2.2.2.1, m.2.2.2.2.2.1, come a0 a1 a2 m.2.2.2.2.1 m.2.2.2.2.2.1, ()), false, ())) := by
  obtain ⟨m1, m2, m3, m4, i, t, m7, m8, m9, hint, ⟨m11, m12⟩, d, dn⟩ := m
  simp only at h2
  unfold p15
  simp only [beq_dec, cond_and (E := (Bool × Unit) × Unit) (f := fun b => ((b, ()), ())), orK_inl, decide_true, cond_true]
  have hc : (bif decide (a0 = i) && decide (a1 = t) then Option.bind (p21 fu (a2, ())) fun x => some (Sum.inl ((), ((i, t, x.2, ()), ()))) else some (Sum.inl ((), ((i, t, [], ()), ())))) =
      (some (.inl ((), ((i, t, come a0 a1 a2 i t, ()), ()))) : Option (Unit × (Int × Int × List Int × Unit) × Unit ⊕ Unit × (Int × Int × List Int × Unit) × Bool × Unit)) := by
    rw [p21_is a2 (by omega)]
    unfold come
    by_cases h : a0 = i ∧ a1 = t
    · rw [if_pos h]; simp [h, bind_val]
    · rw [if_neg h]
      have : (decide (a0 = i) && decide (a1 = t)) = false := by simpa using h
      rw [this]; rfl
  rw [hc]
  have hle : (come a0 a1 a2 i t).length ≤ a2.length := by
    unfold come
    split
    · exact Nat.le_refl _
    · simp
  have w : IntKind.wrap .u64 ((come a0 a1 a2 i t).length : Int) = ((come a0 a1 a2 i t).length : Int) := wrap_u64 (by omega) (by omega)
  simp only [orK_inl, w]
  by_cases h : hint = ((come a0 a1 a2 i t).length : Int)
  · have g : (come a0 a1 a2 i t).length + d.length ≤ maxLen ∧ ((come a0 a1 a2 i t).length + d.length) * 1 ≤ 140737488355328 := ⟨by show _ ≤ 9223372036854775807; omega, by omega⟩
    rw [if_pos h, ← h]
    simp only [bne_self_eq_false, cond_false, decide_true, cond_true, g, and_self]
  · have : (hint != ((come a0 a1 a2 i t).length : Int)) = true := by simpa using h
    rw [if_neg h]
    simp only [this, cond_true, decide_true]
theorem p13_is (n : Nat) (h : n ≤ 140737488355328) : ∃ k : Nat, p13 fu ((n : Int), ()) = some ((), (k : Int)) ∧ k ≤ 140737488355329 := by
  unfold p13
  by_cases h0 : (n : Int) < 1
  · exact ⟨1, by simp only [h0, decide_true, cond_true]; rfl, by omega⟩
  · refine ⟨(n - 1) / 64 + 1, ?_, by omega⟩
    have w1 : IntKind.wrap .i64 ((n : Int) - 1) = ((n - 1 : Nat) : Int) := by rw [i64_wrap (by omega) (by omega)]; omega
    have w2 : Int.tdiv ((n - 1 : Nat) : Int) 64 = (((n - 1) / 64 : Nat) : Int) := by rw [Int.tdiv_eq_ediv_of_nonneg (by omega)]; omega
    have w3 : IntKind.wrap .i64 (((n - 1) / 64 : Nat) : Int) = (((n - 1) / 64 : Nat) : Int) := i64_wrap (by omega) (by omega)
    have w4 : IntKind.wrap .i64 ((((n - 1) / 64 : Nat) : Int) + 1) = (((n - 1) / 64 + 1 : Nat) : Int) := by rw [i64_wrap (by omega) (by omega)]; omega
    simp only [h0, decide_false, cond_false, w1, w2, w3, w4]
/-- The message that a piece is. -/
abbrev msg (i t : Int) (v l d : List Int) (n : Nat) (dn : Bool) : D_api_Msg := (7, 0, 0, 0, i, t, [], 0, false, (n : Int), (v, l), pc d n, dn)
theorem pc_len (d : List Int) (n : Nat) : (pc d n).length = min 64 (d.length - n) := by unfold pc; simp
theorem p15_pc (a0 a1 : Int) (a2 : List Int) (i t : Int) (v l d : List Int) (n : Nat) (dn : Bool) (h1 : a2.length ≤ 140737488355264) (hn : n = (come a0 a1 a2 i t).length) :
    p15 fu ((a0, a1, a2, ()), (7, 0, 0, 0, i, t, [], 0, false, (n : Int), v, l, pc d n, dn, ()), ()) = some ((), ((i, t, come a0 a1 a2 i t ++ pc d n, ()), dn, ())) := by
  have := p15_is (fu := fu) a0 a1 a2 (msg i t v l d n dn) (by show _ + (pc d n).length ≤ _; rw [pc_len]; omega)
  simp only [hn, if_true] at this ⊢
  exact this
end Go.Proofs.Ytcioafdngcmkiaa
