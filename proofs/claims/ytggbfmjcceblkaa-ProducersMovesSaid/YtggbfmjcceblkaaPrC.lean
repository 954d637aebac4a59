/-
  Layer 15: what is put into a table.
-/
import Derived.Test.YtggbfmjcceblkaaPrB
namespace Go.Proofs.Ytggbfmjcceblkaa
open Go.RowKit
variable {fu : Nat}
def SP (l : List Pr) : Prop := l.Pairwise fun a b => a.1 < b.1
theorem tab_iff (l : List Pr) : tabI l = true ↔ (∀ x ∈ l, okP x = true) ∧ SP l ∧ l.length ≤ 256 := by
  unfold tabI
  simp only [Bool.and_eq_true, List.all_eq_true, List.mem_range, decide_eq_true_eq]
  constructor
  · rintro ⟨h1, h2⟩
    refine ⟨fun x hx => ?_, ?_, h2⟩
    · obtain ⟨i, hi, rfl⟩ := List.getElem_of_mem hx
      have := h1 i hi
      unfold rowOK at this
      rw [getD_lt hi] at this
      simp only [Bool.and_eq_true] at this
      exact this.2
    · have step : ∀ i (hi : i + 1 < l.length), (l[i]'(by omega)).1 < l[i + 1].1 := fun i hi => by
        have := h1 (i + 1) hi
        unfold rowOK at this
        simp only [Bool.and_eq_true] at this
        have h3 := this.1
        rw [show i + 1 - 1 = i by omega, getD_lt hi, getD_lt (show i < l.length by omega)] at h3
        simpa using h3
      unfold SP
      rw [List.pairwise_iff_getElem]
      have key : ∀ d i (hi : i + d + 1 < l.length), (l[i]'(by omega)).1 < (l[i + d + 1]'hi).1 := by
        intro d
        induction d with
        | zero => intro i hi; exact step i hi
        | succ d ih =>
          intro i hi
          have h1 := ih i (by omega)
          have h2 := step (i + d + 1) (by omega)
          have e : i + (d + 1) + 1 = i + d + 1 + 1 := by omega
          simp only [e]
          omega
      intro i j hi hj hij
      have := key (j - i - 1) i (by omega)
      have e : i + (j - i - 1) + 1 = j := by omega
      simp only [e] at this
      exact this
  · rintro ⟨h1, h2, h3⟩
    refine ⟨fun i hi => ?_, h3⟩
    unfold rowOK
    rw [getD_lt hi]
    simp only [Bool.and_eq_true]
    refine ⟨?_, h1 _ (List.getElem_mem _)⟩
    cases i with
    | zero => rfl
    | succ i =>
      have := (List.pairwise_iff_getElem.1 h2) i (i + 1) (by omega) hi (by omega)
      rw [show i + 1 - 1 = i by omega, getD_lt (show i < l.length by omega)]
      simp [this]
def ins (l : List Pr) (x : Pr) : List Pr := merge newest l [x]
theorem ins_nil (x : Pr) : ins [] x = [x] := merge_nil _ _
theorem ins_cons (y x : Pr) (l : List Pr) : ins (y :: l) x = if y.1 < x.1 then y :: ins l x else if y.1 > x.1 then x :: y :: l else x :: l := by
  unfold ins
  rw [merge_cons, merge_nil', merge_nil']; rfl
theorem ins_mem {x z : Pr} : ∀ {l : List Pr}, z ∈ ins l x → z = x ∨ z ∈ l
  | [], h => by rw [ins_nil] at h; exact .inl (by simpa using h)
  | y :: l, h => by
    rw [ins_cons] at h
    split at h
    · rcases List.mem_cons.1 h with rfl | h
      · exact .inr (List.mem_cons_self ..)
      · rcases ins_mem h with h | h
        · exact .inl h
        · exact .inr (List.mem_cons_of_mem _ h)
    · split at h
      · rcases List.mem_cons.1 h with h | h
        · exact .inl h
        · exact .inr h
      · rcases List.mem_cons.1 h with h | h
        · exact .inl h
        · exact .inr (List.mem_cons_of_mem _ h)
theorem ins_len (x : Pr) : ∀ l : List Pr, (ins l x).length ≤ l.length + 1
  | [] => by rw [ins_nil]; simp
  | y :: l => by
    rw [ins_cons]
    have := ins_len x l
    split
    · simp; omega
    · split <;> simp
theorem ins_sp {x : Pr} : ∀ {l : List Pr}, SP l → SP (ins l x)
  | [], _ => by rw [ins_nil]; exact List.pairwise_singleton ..
  | y :: l, h => by
    rw [ins_cons]
    have h' := List.pairwise_cons.1 h
    split
    · rename_i c
      refine List.pairwise_cons.2 ⟨fun z hz => ?_, ins_sp h'.2⟩
      rcases ins_mem hz with rfl | hz
      · exact c
      · exact h'.1 z hz
    · split
      · rename_i c1 c2
        refine List.pairwise_cons.2 ⟨fun z hz => ?_, h⟩
        rcases List.mem_cons.1 hz with rfl | hz
        · exact c2
        · have := h'.1 z hz; omega
      · rename_i c1 c2
        refine List.pairwise_cons.2 ⟨fun z hz => ?_, h'.2⟩
        have := h'.1 z hz; omega
theorem find_cons (y : Pr) (l : List Pr) (id : Int) : find (y :: l) id = if y.1 = id then some y else find l id := by
  unfold find
  rw [List.find?_cons]
  by_cases h : y.1 = id
  · simp [h]
  · have : (y.1 == id) = false := by simpa using h
    simp [h, this]
theorem ins_find (x : Pr) (id : Int) : ∀ l : List Pr, find (ins l x) id = if x.1 = id then some x else find l id
  | [] => by rw [ins_nil, find_cons]
  | y :: l => by
    rw [ins_cons, find_cons]
    split
    · rename_i c
      rw [find_cons, ins_find x id l]
      by_cases h : y.1 = id
      · rw [if_pos h, if_neg (by omega), if_pos h]
      · rw [if_neg h]
        by_cases h2 : x.1 = id
        · rw [if_pos h2, if_pos h2]
        · rw [if_neg h2, if_neg h2, if_neg h]
    · split
      · rw [find_cons, find_cons]
      · rename_i c1 c2
        rw [find_cons]
        by_cases h2 : x.1 = id
        · rw [if_pos h2, if_pos h2]
        · rw [if_neg h2, if_neg h2, if_neg (by omega)]
theorem ins_tab {l : List Pr} {x : Pr} (h : tabI l = true) (hx : okP x = true) (hl : (ins l x).length ≤ 256) : tabI (ins l x) = true := by
  rw [tab_iff] at h ⊢
  refine ⟨fun z hz => ?_, ins_sp h.2.1, hl⟩
  rcases ins_mem hz with rfl | hz
  · exact hx
  · exact h.1 z hz
/-- What is put, and the error. -/
def putS (l : List Pr) (x : Pr) : List Pr × Int :=
  if tabI l = false then ([], 1) else if (judge l x.1 x.2.1).1 = 4 then ([], 151) else if (judge l x.1 x.2.1).1 = 2 then ([], 152) else if (judge l x.1 x.2.1).1 = 3 then ([], 152)
  else if (ins l x).length > 256 then ([], 153) else (ins l x, 0)
theorem p27_is (l : List Pr) (x : Pr) (hl : l.length ≤ 9223372036854775806) (hf : l.length + 1 < fu) : p27 fu (l, (x.1, x.2.1, x.2.2.1, x.2.2.2, ()), ()) = some ((), ((putS l x).1, (putS l x).2, ())) := by
  unfold p27 putS
  have e16 := p16_is (fu := fu) l hl (by omega)
  have e11 := p11_is (fu := fu) l x.1 x.2.1 hl (by omega)
  simp only [e16, bind_val]
  cases ht : tabI l with
  | false => simp
  | true =>
    have h256 : l.length ≤ 256 := ((tab_iff l).1 ht).2.2
    simp only [Bool.not_true, cond_false, e11, bind_val, Bool.true_eq_false, if_false]
    by_cases h4 : (judge l x.1 x.2.1).1 = 4
    · simp [h4]
    · by_cases h2 : (judge l x.1 x.2.1).1 = 2
      · simp [h2]
      · by_cases h3 : (judge l x.1 x.2.1).1 = 3
        · simp [h3]
        · have e4 : ((judge l x.1 x.2.1).1 == (4 : Int)) = false := by simpa using h4
          have e2 : ((judge l x.1 x.2.1).1 == (2 : Int)) = false := by simpa using h2
          have e3 : ((judge l x.1 x.2.1).1 == (3 : Int)) = false := by simpa using h3
          have hm := p32_is (fu := fu) l [x] (by simp; omega) (by simpa using hf)
          simp only [e4, e2, e3, h4, h2, h3, cond_false, if_false]
          have hm' : p32 fu (l, [(x.1, x.2.1, x.2.2.1, x.2.2.2)], ((), ()), ((), ()), ()) = some ((), ins l x) := hm
          simp only [hm', bind_val, decide_true, cond_true, p31_1]
          by_cases h5 : (ins l x).length > 256
          · have h5' : ((ins l x).length : Int) > 256 := by omega
            simp [h5, h5']
          · have h5' : ¬ ((ins l x).length : Int) > 256 := by omega
            simp [h5, h5']
theorem p12_is (l : List Pr) (id seq off : Int) (hl : l.length ≤ 9223372036854775806) (hf : l.length + 1 < fu) : p12 fu (l, id, seq, off, ()) = some ((), ((putS l (id, seq, true, off)).1, (putS l (id, seq, true, off)).2, ())) := by
  unfold p12
  have := p27_is (fu := fu) l (id, seq, true, off) hl hf
  simp only at this
  simp only [this, bind_val, decide_true, cond_true]
theorem p9_is (hf : 2 < fu) : p9 fu () = some ((), true) := by
  unfold p9
  have h10 : p10 fu ((7 : Int), (3 : Int), (9 : Int), ()) = some ((), ((7 : Int), (3 : Int), true, (9 : Int), ())) := rfl
  have h1 := p11_is (fu := fu) [((7 : Int), (3 : Int), true, (9 : Int))] 7 3 (by simp) (by simp; omega)
  have h2 := p11_is (fu := fu) [] 7 3 (by simp) (by simp; omega)
  have j1 : judge [((7 : Int), (3 : Int), true, (9 : Int))] 7 3 = (2, 9) := by decide
  have j2 : judge [] 7 3 = (1, 0) := by decide
  rw [j1] at h1
  rw [j2] at h2
  simp only [h10, bind_val, h1, h2]
  rfl
end Go.Proofs.Ytggbfmjcceblkaa
