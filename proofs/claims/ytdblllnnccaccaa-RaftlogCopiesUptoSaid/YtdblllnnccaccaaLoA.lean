/-
  Layer 6: copies are what was copied.
-/
import Derived.Test.YtdblllnnccaccaaPt
import Derived.Test.YtdblllnnccaccaaDaP
namespace Go.Proofs.Ytdblllnnccaccaa
open Go.RowKit
abbrev En := Int × Int × Int × List Int × List Int × List Int
variable {fu : Nat}
theorem copyL_all {α : Type} (l : List α) (d : α) : copyL (List.replicate l.length d) 0 l.length l = l := by
  simp [copyL]
theorem p57_is (l : List Int) (h : l.length * 8 ≤ 140737488355328) : p57 fu (l, ()) = some ((), l) := by
  unfold p57
  cases l with
  | nil => rfl
  | cons a l =>
    have h0 : (((a :: l).length : Int) == 0) = false := by simp; omega
    have h1 : (0 : Int) ≤ ((a :: l).length : Int) ∧ ((a :: l).length : Int) ≤ ((a :: l).length : Int) ∧ ((a :: l).length : Int) ≤ 9223372036854775807 ∧ (8 : Int) * ((a :: l).length : Int) ≤ 140737488355328 := by omega
    simp only [h0, cond_false, h1, and_self, decide_true, cond_true, Int.toNat_natCast, List.length_replicate, copyL_all]
theorem p36_is (l : List Int) (h : l.length ≤ 140737488355328) : p36 fu (l, ()) = some ((), l) := by
  unfold p36
  cases l with
  | nil => rfl
  | cons a l =>
    have h0 : (((a :: l).length : Int) == 0) = false := by simp; omega
    have h1 : (0 : Int) ≤ ((a :: l).length : Int) ∧ ((a :: l).length : Int) ≤ ((a :: l).length : Int) ∧ ((a :: l).length : Int) ≤ 9223372036854775807 ∧ (1 : Int) * ((a :: l).length : Int) ≤ 140737488355328 := by omega
    simp only [h0, cond_false, h1, and_self, decide_true, cond_true, Int.toNat_natCast, List.length_replicate, copyL_all]
theorem p45_is (a b : List Int) (ha : a.length * 8 ≤ 140737488355328) (hb : b.length * 8 ≤ 140737488355328) : p45 fu ((a, b, ()), ()) = some ((), (a, b, ())) := by
  unfold p45
  simp only [p57_is a ha, p57_is b hb, bind_val, decide_true, cond_true]
theorem p53_is (a b : List Int) (h : a.length + b.length ≤ 140737488355328) : p53 fu ((a, ()), b, ()) = some (((a ++ b, ()), (), ()), b) := by
  unfold p53
  cases b with
  | nil => simp
  | cons c b =>
    have h0 : (((c :: b).length : Int) == 0) = false := by simp; omega
    have h1 : a.length + (c :: b).length ≤ maxLen ∧ (a.length + (c :: b).length) * 1 ≤ 140737488355328 := ⟨by unfold maxLen; omega, by omega⟩
    have h2 : slice' (a ++ c :: b) a.length (some (a ++ c :: b).length) = c :: b := by
      cases a with
      | nil => simp [slice']
      | cons x a => simp [slice']
    have h3 : a.length ≤ (a ++ c :: b).length ∧ (a ++ c :: b).length ≤ (a ++ c :: b).length ∧ (a ++ c :: b).length ≤ (a ++ c :: b).length ∧ 0 + (a ++ c :: b).length ≤ (a ++ c :: b).length := by simp
    simp only [h0, cond_false, h1, and_self, decide_true, cond_true, Int.natCast_nonneg, Int.toNat_natCast, h3, h2]
theorem p52_is (x : En) (r : List Int) (hd : r.length + x.2.2.2.1.length ≤ 140737488355328) (hv : x.2.2.2.2.1.length * 8 ≤ 140737488355328) (hl : x.2.2.2.2.2.length * 8 ≤ 140737488355328) :
    p52 fu ((x.1, x.2.1, x.2.2.1, x.2.2.2.1, x.2.2.2.2.1, x.2.2.2.2.2, ()), ((r, ()), ()), ()) = some ((((), ()), (r ++ x.2.2.2.1, ()), (), ()), (x.1, x.2.1, x.2.2.1, x.2.2.2.1, x.2.2.2.2.1, x.2.2.2.2.2, ())) := by
  unfold p52
  simp only [p53_is _ _ hd, p45_is _ _ hv hl, bind_val, decide_true, cond_true]
/-- The bytes of entries. -/
def datas (l : List En) : List Int := l.flatMap fun x => x.2.2.2.1
theorem datas_app (a b : List En) : datas (a ++ b) = datas a ++ datas b := List.flatMap_append
theorem datas_snoc (l : List En) (x : En) : datas (l ++ [x]) = datas l ++ x.2.2.2.1 := by simp [datas]
def fitsE (l : List En) : Prop := l.length * 96 ≤ 140737488355328 ∧ (datas l).length ≤ 140737488355328 ∧ ∀ x ∈ l, x.2.2.2.2.1.length * 8 ≤ 140737488355328 ∧ x.2.2.2.2.2.length * 8 ≤ 140737488355328
theorem take_snoc' {α : Type} {l : List α} {i : Nat} (h : i < l.length) (d : α) : l.take (i + 1) = l.take i ++ [l.getD i d] := by
  rw [List.take_add_one, List.getD_eq_getElem?_getD, List.getElem?_eq_getElem h]; rfl
theorem datas_take {l : List En} {i : Nat} (h : i < l.length) : (datas (l.take i)).length + (l.getD i (dflt T_api_Entry)).2.2.2.1.length ≤ (datas l).length := by
  have h1 := congrArg datas (take_snoc' h (dflt T_api_Entry))
  rw [datas_snoc] at h1
  have h2 : datas l = datas (l.take (i + 1)) ++ datas (l.drop (i + 1)) := by rw [← datas_app, List.take_append_drop]
  rw [h2, h1]
  simp only [List.length_append]
  omega
theorem p51_is (l : List En) (h : fitsE l) (hf : l.length < fu) : p51 fu (l, ((), (((([] : List Int), ()), ()), ())), ()) = some ((((), ()), (datas l, ()), (), ()), l) := by
  unfold p51
  obtain ⟨h1, h2, h3⟩ := h
  cases hl0 : l with
  | nil => rfl
  | cons a0 l0 =>
    rw [← hl0]
    have h0 : ((l.length : Int) == 0) = false := by rw [hl0]; simp; omega
    have h4 : (0 : Int) ≤ (l.length : Int) ∧ (l.length : Int) ≤ (l.length : Int) ∧ (l.length : Int) ≤ 9223372036854775807 ∧ (96 : Int) * (l.length : Int) ≤ 140737488355328 := by omega
    simp only [h0, cond_false, h4, and_self, decide_true, cond_true, Int.toNat_natCast, List.length_replicate]
    refine loopO_eq (I := fun s => ∃ i : Nat, s = ((l.take i ++ List.replicate (l.length - i) (dflt T_api_Entry), (i : Int), ()), (((), ()), (datas (l.take i), ()), ())) ∧ i ≤ l.length)
      (m := fun s => l.length - s.1.2.1.toNat) (g := fun _ => ((((), ()), (datas l, ()), (), ()), l)) ?_ fu _ ⟨0, by simp only [List.take_zero, List.nil_append, Nat.sub_zero, datas, List.flatMap_nil]; rfl, Nat.zero_le _⟩ (by simpa using hf)
    rintro s ⟨i, rfl, hi⟩
    by_cases hi' : i < l.length
    · left
      have hx := datas_take hi'
      have hm : l.getD i (dflt T_api_Entry) ∈ l := by rw [getD_lt hi']; exact List.getElem_mem _
      have e52 := p52_is (fu := fu) (l.getD i (dflt T_api_Entry)) (datas (l.take i)) (by omega) (h3 _ hm).1 (h3 _ hm).2
      have hlen : (l.take i ++ List.replicate (l.length - i) (dflt T_api_Entry)).length = l.length := by simp; omega
      refine ⟨((l.take (i + 1) ++ List.replicate (l.length - (i + 1)) (dflt T_api_Entry), ((i + 1 : Nat) : Int), ()), (((), ()), (datas (l.take (i + 1)), ()), ())), ?_, ⟨i + 1, rfl, hi'⟩, by simp only [Int.toNat_natCast]; omega, rfl⟩
      have hs : (l.take i ++ List.replicate (l.length - i) (dflt T_api_Entry)).set i (l.getD i (dflt T_api_Entry)) = l.take (i + 1) ++ List.replicate (l.length - (i + 1)) (dflt T_api_Entry) := by
        have ht : (l.take i).length = i := by simp; omega
        rw [List.set_append_right _ _ (by omega), ht, Nat.sub_self, show l.length - i = (l.length - (i + 1)) + 1 by omega, List.replicate_succ, List.set_cons_zero, take_snoc' hi' (dflt T_api_Entry)]
        simp
      rw [take_snoc' hi' (dflt T_api_Entry), datas_snoc, ← take_snoc' hi' (dflt T_api_Entry), ← hs]
      simp only [Int.ofNat_lt, hi', decide_true, cond_true, Int.natCast_nonneg, true_and, and_self, Int.toNat_natCast, e52, bind_val, hlen, List.length_set, i64_succ hi' (show l.length ≤ 9223372036854775807 by omega)]
    · right
      obtain rfl : i = l.length := by omega
      simp [inrO]
theorem p50_is (n : Nat) (h : n ≤ 140737488355328) : p50 fu ((n : Int), ()) = some ((), ([], ())) := by
  unfold p50
  have h1 : (0 : Int) ≤ 0 ∧ (0 : Int) ≤ (n : Int) ∧ (n : Int) ≤ 9223372036854775807 ∧ (1 : Int) * (n : Int) ≤ 140737488355328 := by omega
  simp only [h1, and_self, decide_true, cond_true]; rfl
/-- A COPY OF ENTRIES IS THE ENTRIES. -/
theorem p30_is (l : List En) (h : fitsE l) (hf : l.length < fu) : p30 fu (l, ()) = some ((), l) := by
  unfold p30
  refine loopO_eq (I := fun s => ∃ i : Nat, s = ((((datas (l.take i)).length : Int), (i : Int), ()), ()) ∧ i ≤ l.length) (m := fun s => l.length - s.1.2.1.toNat) (g := fun _ => ((), l)) ?_ fu _ ⟨0, by simp [datas], Nat.zero_le _⟩ (by simpa using hf)
  rintro s ⟨i, rfl, hi⟩
  have h1 := h.1
  have h2 := h.2.1
  by_cases hi' : i < l.length
  · left
    have hx := datas_take hi'
    refine ⟨((((datas (l.take (i + 1))).length : Int), ((i + 1 : Nat) : Int), ()), ()), ?_, ⟨i + 1, rfl, hi'⟩, by simp only [Int.toNat_natCast]; omega, rfl⟩
    have hw : IntKind.wrap .i64 (((datas (l.take i)).length : Int) + ((l.getD i (dflt T_api_Entry)).2.2.2.1.length : Int)) = ((datas (l.take (i + 1))).length : Int) := by
      rw [take_snoc' hi' (dflt T_api_Entry), datas_snoc, i64_wrap (by omega) (by omega), List.length_append]; omega
    simp only [Int.ofNat_lt, hi', decide_true, cond_true, Int.natCast_nonneg, true_and, and_self, Int.toNat_natCast, hw, i64_succ hi' (show l.length ≤ 9223372036854775807 by omega)]
  · right
    obtain rfl : i = l.length := by omega
    rw [List.take_length]
    simp only [Int.lt_irrefl, decide_false, cond_false, p50_is (fu := fu) _ h2, bind_val, decide_true, cond_true, p51_is l h hf, inrO_val]
end Go.Proofs.Ytdblllnnccaccaa
