/-
  Layer 15: what the typed functions are.
-/
import Derived.Test.YtggbfmjcceblkaaPt
import Derived.Test.YtggbfmjcceblkaaDaP
namespace Go.Proofs.Ytggbfmjcceblkaa
open Go.RowKit

abbrev Pr := Int × Int × Bool × Int
def seqB (s : Int) : Bool := decide (1 ≤ s) && decide (s ≤ 9223372036854775807)
def cmpI (a b : Int) : Int := if a < b then -1 else if a > b then 1 else 0
variable {fu : Nat}
theorem p24_is (s : Int) : p24 fu (s, ()) = some ((), seqB s) := by
  unfold p24 seqB
  by_cases h : 1 ≤ s
  · simp [h]
  · simp [h]
theorem p40_is (a : Int) : p40 fu (a, ()) = some ((), false) := by simp [p40]
theorem p39_is (a b : Int) : p39 fu (a, b, ()) = some ((), cmpI a b) := by
  simp only [p39, p40_is, bind_val, cond_false]
  unfold cmpI
  by_cases h : a < b
  · simp [h]
  · by_cases h2 : a > b
    · simp [h, h2]
    · simp [h, h2]
theorem p33_is (x y : Pr) : p33 fu ((x.1, x.2.1, x.2.2.1, x.2.2.2, ()), (y.1, y.2.1, y.2.2.1, y.2.2.2, ()), ()) = some ((), cmpI x.1 y.1) := by
  simp only [p33, p39_is, bind_val]

def findI (l : List Pr) (id : Int) : Nat := l.findIdx fun x => x.1 == id
theorem findI_eq {l : List Pr} {id : Int} {i : Nat} (h : i ≤ findI l id) (hi : i < l.length) (hx : (l[i].1 == id) = true) : findI l id = i := by
  rcases Nat.lt_or_ge i (findI l id) with h1 | h1
  · have := List.not_of_lt_findIdx h1
    rw [hx] at this; simp at this
  · omega
theorem findI_lt {l : List Pr} {id : Int} {i : Nat} (h : i ≤ findI l id) (hi : i < l.length) (hx : (l[i].1 == id) = false) : i + 1 ≤ findI l id := by
  rcases Nat.lt_or_ge i (findI l id) with h1 | h1
  · exact h1
  · exfalso
    have e : findI l id = i := by omega
    have hw : findI l id < l.length := by omega
    have := List.findIdx_getElem (w := hw)
    simp only [show l.findIdx (fun x => x.1 == id) = i from e] at this
    rw [hx] at this; cases this
theorem findI_le (l : List Pr) (id : Int) : findI l id ≤ l.length := List.findIdx_le_length
theorem p25_is (l : List Pr) (id : Int) (hl : l.length ≤ 9223372036854775806) (hf : l.length < fu) :
    p25 fu (l, ((), ((id, ()), ())), ()) = some (((id, ()), ()), (((findI l id : Nat) : Int), decide (findI l id < l.length), ())) := by
  unfold p25
  refine loopO_eq (I := fun s => ∃ i : Nat, s = (((i : Int), ()), ((id, ()), ())) ∧ i ≤ l.length ∧ i ≤ findI l id) (m := fun s => l.length - s.1.1.toNat)
    (g := fun _ => (((id, ()), ()), (((findI l id : Nat) : Int), decide (findI l id < l.length), ()))) ?_ fu _ ⟨0, rfl, Nat.zero_le _, Nat.zero_le _⟩ (by simpa using hf)
  rintro s ⟨i, rfl, h1, h2⟩
  by_cases hi : i < l.length
  · cases hx : (l[i].1 == id) with
    | true =>
      right
      have e := findI_eq h2 hi hx
      simp [hi, p26, inrO, hx, e]
    | false =>
      left
      refine ⟨((((i + 1 : Nat) : Int), ()), ((id, ()), ())), ?_, ⟨i + 1, rfl, hi, findI_lt h2 hi hx⟩, ?_, rfl⟩
      · simp [hi, p26, hx, i64_succ hi (by omega)]
      · simp; omega
  · right
    have e : i = l.length := by omega
    have e2 : findI l id = l.length := by have := findI_le l id; omega
    subst e
    simp [inrO, e2]
def find (l : List Pr) (id : Int) : Option Pr := l.find? fun x => x.1 == id
theorem find_is (l : List Pr) (id : Int) (d : Pr) : find l id = if findI l id < l.length then some (l.getD (findI l id) d) else none := by
  unfold find findI
  induction l with
  | nil => rfl
  | cons x l ih =>
    rw [List.find?_cons, List.findIdx_cons]
    cases hx : (x.1 == id) with
    | true => simp
    | false =>
      simp only [cond_false, List.length_cons, Nat.add_lt_add_iff_right, List.getD_cons_succ]
      exact ih
def judge (l : List Pr) (id seq : Int) : Int × Int :=
  if id = 0 then (4, 0) else if seqB seq = false then (4, 0) else match find l id with
    | none => (1, 0)
    | some x => if seq > x.2.1 then (1, 0) else if seq = x.2.1 ∧ x.2.2.1 = true then (2, x.2.2.2) else (3, 0)
theorem p11_is (l : List Pr) (id seq : Int) (hl : l.length ≤ 9223372036854775806) (hf : l.length < fu) : p11 fu (l, id, seq, ()) = some ((), ((judge l id seq).1, (judge l id seq).2, ())) := by
  unfold p11 judge
  by_cases h0 : id = 0
  · simp [h0]
  · simp only [h0, if_false, show (id == (0 : Int)) = false by simpa using h0, cond_false, p24_is, bind_val]
    cases hs : seqB seq with
    | false => simp
    | true =>
      simp only [Bool.not_true, cond_false, p25_is l id hl hf, bind_val, Bool.true_eq_false, if_false, find_is l id (dflt T_api_Producer)]
      by_cases hk : findI l id < l.length
      · simp only [hk, decide_true, Bool.not_true, cond_false, if_true, Int.toNat_natCast, Int.natCast_nonneg, true_and, Int.ofNat_lt, cond_true, orK_inl]
        have key : ∀ x : Pr, (bif decide (seq > x.2.1) then some ((), ((1 : Int), (0 : Int), ())) else orK (E := (Bool × Unit) × Unit) (bif seq == x.2.1 then some (.inl ((x.2.2.1, ()), ())) else some (.inl ((false, ()), ())))
            fun y => bif y.1.1 then some ((), ((2 : Int), x.2.2.2, ())) else some ((), ((3 : Int), (0 : Int), ()))) =
            some ((), ((if seq > x.2.1 then ((1 : Int), (0 : Int)) else if seq = x.2.1 ∧ x.2.2.1 = true then (2, x.2.2.2) else (3, 0)).1, (if seq > x.2.1 then ((1 : Int), (0 : Int)) else if seq = x.2.1 ∧ x.2.2.1 = true then (2, x.2.2.2) else (3, 0)).2, ())) := by
          rintro ⟨a, b, c, d⟩
          by_cases h1 : seq > b
          · simp [h1]
          · by_cases h2 : seq = b
            · cases c <;> simp [h2, orK]
            · have h3 : (seq == b) = false := by simpa using h2
              simp [h1, h2, h3, orK]
        exact key _
      · simp [hk, orK]
def okP (x : Pr) : Bool := !(x.1 == 0) && (seqB x.2.1 && (x.2.2.1 || x.2.2.2 == 0))
def rowOK (l : List Pr) (i : Nat) : Bool := (i == 0 || decide ((l.getD (i - 1) (dflt T_api_Producer)).1 < (l.getD i (dflt T_api_Producer)).1)) && okP (l.getD i (dflt T_api_Producer))
def tabI (l : List Pr) : Bool := (List.range l.length).all (rowOK l) && decide (l.length ≤ 256)
theorem tabI_no {l : List Pr} {i : Nat} (hi : i < l.length) (h : rowOK l i = false) : tabI l = false := by
  unfold tabI
  have : (List.range l.length).all (rowOK l) = false := by
    rw [List.all_eq_false]
    exact ⟨i, List.mem_range.2 hi, by simp [h]⟩
  rw [this]; rfl
theorem cmpI_neg (a b : Int) : decide (cmpI a b < 0) = decide (a < b) := by
  unfold cmpI
  by_cases h : a < b
  · simp [h]
  · by_cases h2 : a > b
    · simp [h, h2]
    · simp [h, h2]
theorem p16_is (l : List Pr) (hl : l.length ≤ 9223372036854775806) (hf : l.length < fu) : p16 fu (l, ()) = some ((), tabI l) := by
  unfold p16
  refine loopO_eq (I := fun s => ∃ i : Nat, s = (((i : Int), ()), ()) ∧ i ≤ l.length ∧ ∀ j, j < i → rowOK l j = true) (m := fun s => l.length - s.1.1.toNat)
    (g := fun _ => ((), tabI l)) ?_ fu _ ⟨0, rfl, Nat.zero_le _, fun j hj => absurd hj (Nat.not_lt_zero _)⟩ (by simpa using hf)
  rintro s ⟨i, rfl, h1, h2⟩
  by_cases hi : i < l.length
  · -- what stands ahead of it
    have hd : ∀ {R : Type} (k : (Bool × Unit) × Unit → Option R), orK (E := (Bool × Unit) × Unit)
        (bif ((i : Int) == (0 : Int)) then some (.inl ((true, ()), ())) else
          bif decide ((0 : Int) ≤ IntKind.wrap .i64 ((i : Int) - (1 : Int)) ∧ IntKind.wrap .i64 ((i : Int) - (1 : Int)) < (List.length l : Int)) then
           bif decide (Int.toNat (IntKind.wrap .i64 ((i : Int) - (1 : Int))) < List.length l) then
            Option.bind (p33 fu (((List.getD l (Int.toNat (IntKind.wrap .i64 ((i : Int) - (1 : Int)))) (dflt T_api_Producer)).1, ((List.getD l (Int.toNat (IntKind.wrap .i64 ((i : Int) - (1 : Int)))) (dflt T_api_Producer)).2).1, (((List.getD l (Int.toNat (IntKind.wrap .i64 ((i : Int) - (1 : Int)))) (dflt T_api_Producer)).2).2).1, (((List.getD l (Int.toNat (IntKind.wrap .i64 ((i : Int) - (1 : Int)))) (dflt T_api_Producer)).2).2).2, ()), ((List.getD l i (dflt T_api_Producer)).1, ((List.getD l i (dflt T_api_Producer)).2).1, (((List.getD l i (dflt T_api_Producer)).2).2).1, (((List.getD l i (dflt T_api_Producer)).2).2).2, ()), ())) fun ⟨_, r33⟩ =>
            some (.inl ((decide (r33 < (0 : Int)), ()), ()))
           else none
          else none) k = k ((i == 0 || decide ((l.getD (i - 1) (dflt T_api_Producer)).1 < (l.getD i (dflt T_api_Producer)).1), ()), ()) := by
      intro R k
      by_cases h0 : i = 0
      · subst h0; simp [orK]
      · have hw := i64_pred (i := i) (by omega) (by omega)
        have hlt : i - 1 < l.length := by omega
        have h0' : ((i : Int) == 0) = false := by simpa using h0
        have h0'' : (i == 0) = false := by simpa using h0
        simp only [h0', h0'', cond_false, hw, Int.natCast_nonneg, Int.ofNat_lt, hlt, true_and, decide_true, cond_true, Int.toNat_natCast, p33_is, bind_val, orK_inl, cmpI_neg, Bool.false_or]
    simp only [Int.ofNat_lt, hi, decide_true, cond_true, Int.natCast_nonneg, true_and, Int.toNat_natCast, hd]
    generalize hb : (i == 0 || decide ((l.getD (i - 1) (dflt T_api_Producer)).1 < (l.getD i (dflt T_api_Producer)).1)) = b
    generalize hx : l.getD i (dflt T_api_Producer) = x
    obtain ⟨x1, x2, x3, x4⟩ := x
    have hrow : rowOK l i = (b && okP (x1, x2, x3, x4)) := by unfold rowOK; rw [hb, hx]
    have bad : rowOK l i = false → ((), tabI l) = ((), false) := fun h => by rw [tabI_no hi h]
    have good : rowOK l i = true → (∃ s' : ((Int × Unit) × Unit), (some (.inl ((IntKind.wrap .i64 ((i : Int) + (1 : Int)), ()), ())) : Option (((Int × Unit) × Unit) ⊕ (Unit × Bool))) = some (.inl s') ∧
        (∃ i : Nat, s' = (((i : Int), ()), ()) ∧ i ≤ l.length ∧ ∀ j, j < i → rowOK l j = true) ∧ l.length - s'.1.1.toNat < l.length - i ∧ ((), tabI l) = ((), tabI l)) := fun h =>
      ⟨((((i + 1 : Nat) : Int), ()), ()), by rw [i64_succ hi (by omega)], ⟨i + 1, rfl, hi, fun j hj => by
        rcases Nat.lt_succ_iff_lt_or_eq.1 hj with h' | rfl
        · exact h2 j h'
        · exact h⟩, by simp; omega, rfl⟩
    simp only [okP] at hrow
    by_cases hz : x1 = 0
    · right; rw [bad (by rw [hrow]; simp [hz])]; simp [hz, inrO]
    · have hz' : (x1 == (0 : Int)) = false := by simpa using hz
      simp only [hz', cond_false, p24_is, bind_val, Bool.not_false, Bool.true_and] at hrow ⊢
      cases hs : seqB x2 with
      | false => right; rw [bad (by rw [hrow, hs]; simp)]; simp [inrO]
      | true =>
        cases b with
        | false => right; rw [bad (by rw [hrow]; simp)]; simp [inrO]
        | true =>
          cases x3 with
          | true =>
            have hr : rowOK l i = true := by rw [hrow, hs]; rfl
            left; simpa using good hr
          | false =>
            by_cases h4 : x4 = 0
            · have hr : rowOK l i = true := by rw [hrow, hs]; simp [h4]
              left; simpa [h4] using good hr
            · right; rw [bad (by rw [hrow, hs]; simp [h4])]
              have h4' : (x4 != (0 : Int)) = true := by simpa using h4
              simp [h4', inrO]
  · right
    have e : i = l.length := by omega
    subst e
    have : (List.range l.length).all (rowOK l) = true := List.all_eq_true.2 fun j hj => h2 j (List.mem_range.1 hj)
    simp [inrO, tabI, this]
    omega
end Go.Proofs.Ytggbfmjcceblkaa
