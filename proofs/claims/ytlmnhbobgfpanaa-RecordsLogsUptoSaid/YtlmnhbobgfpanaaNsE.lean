/-
  A map whose entries are rows of numbers, each one a row of its own: what a look-up and a store make of it; a loop over it.
-/
import Derived.Maps.OwnOps
import Derived.Maps.RangeWalk
import Derived.Test.YtlmnhbobgfpanaaChecked
import Derived.Test.YtlmnhbobgfpanaaDaL
namespace Go.Proofs.Ytlmnhbobgfpanaa
open Go.RowKit
section
abbrev ns0 : Int × List Int := (0, [])
abbrev rowU (l : List Int) : List Value := l.map (Value.int .u64)
abbrev nsE : TypeId := 24
def Grp (w : World) (base g : Nat) (m : List (Int × List Int)) : Prop :=
  ∃ es : Array MapEntry, w.heap[g]? = some (.map es es.size) ∧ es.size = m.length ∧ g < base ∧
    (∀ (i : Nat) (e : MapEntry), es[i]? = some e → e.key = .int .u64 (m.getD i ns0).1 ∧ e.born = i ∧ w.ownsRow base nsE 1 e.val (m.getD i ns0).2.length (rowU (m.getD i ns0).2)) ∧
    ∀ (i j : Nat) (a b : MapEntry), es[i]? = some a → es[j]? = some b → i ≠ j → a.val.ownBlock = none ∨ a.val.ownBlock ≠ b.val.ownBlock
section
variable {w w1 : World} {base g : Nat} {m : List (Int × List Int)}
theorem Grp.lt (h : Grp w base g m) : g < w.heap.size := by
  obtain ⟨es, h1, _⟩ := h
  exact (Array.getElem?_eq_some_iff.1 h1).1
theorem Grp.made (w : World) (base : Nat) (hb : w.heap.size < base) : Grp (w.alloc (.map #[] 0)) base w.heap.size [] :=
  ⟨#[], by show (w.heap.push _)[w.heap.size]? = _; simp, rfl, hb, fun i e h => by simp at h, fun i j a b h => by simp at h⟩
theorem Grp.kept {row : Option Nat} (h : Grp w base g m) (hg : w.grownBy w1 row) (hr : ∀ r, row = some r → r < base ∧ r ≠ g) : Grp w1 base g m := by
  have hl := h.lt
  obtain ⟨es, h1, h2, h3, h4, h5⟩ := h
  refine ⟨es, (hg.block g hl (fun e => (hr g e.symm).2 rfl)).trans h1, h2, h3, fun i e hi => ?_, h5⟩
  obtain ⟨q1, q2, q3⟩ := h4 i e hi
  refine ⟨q1, q2, q3.kept hg ?_⟩
  cases hb : e.val.ownBlock with
  | none => exact .inl rfl
  | some b =>
    refine .inr fun e1 => ?_
    have := (q3.lt b hb).1
    have := (hr b e1.symm).1
    omega
end
end
section
section
variable {P : Program} {ops : Array Oper} {Q : Exit → Act → World → Prop}
structure RegI (ops : Array Oper) (val : Nat → Value) (a0 : Act) (L : Array Bool) (a : Act) : Prop where
  size : a.tmps.size = a0.tmps.size
  df : a.defers = a0.defers
  old : ∀ t, (∀ (i : Nat) (o : Oper), ops[i]? = some o → o.dst = some t → L.getD i false = false) → a.tmps[t]? = a0.tmps[t]?
  new : ∀ (i : Nat) (o : Oper) (t : Nat), ops[i]? = some o → L.getD i false = true → o.dst = some t → a.tmps[t]? = some (val t)
theorem set_getD {L : Array Bool} {i j : Nat} (hi : i < L.size) : (L.setIfInBounds i true).getD j false = (L.getD j false || j == i) := by
  rw [Array.getD_eq_getD_getElem?, Array.getD_eq_getD_getElem?, Array.getElem?_setIfInBounds]
  by_cases h : i = j
  · subst h; simp [hi]
  · simp [h, Ne.symm h]
theorem RegI.put {val : Nat → Value} {a0 a : Act} {L : Array Bool} {i : Nat} {o : Oper} {v : Value} (h : RegI ops val a0 L a) (ho : ops[i]? = some o) (hL : L.size = ops.size)
    (hv : ∀ t, o.dst = some t → v = val t) (hd : ∀ t, o.dst = some t → t < a0.tmps.size) (hne : ∀ t, o.dst = some t → ∀ (j : Nat) (o' : Oper), ops[j]? = some o' → o'.dst = some t → j = i) : RegI ops val a0 (L.setIfInBounds i true) (a.put o.dst v) := by
  have hi : i < L.size := by rw [hL]; exact (Array.getElem?_eq_some_iff.1 ho).1
  cases hx : o.dst with
  | none =>
    refine ⟨h.size, h.df, fun t ht => h.old t fun j o' hj ho' => ?_, fun j o' t hj hl ho' => ?_⟩
    · have := ht j o' hj ho'
      rw [set_getD hi] at this
      exact (Bool.or_eq_false_iff.1 this).1
    · rw [set_getD hi, Bool.or_eq_true] at hl
      rcases hl with hl | hl
      · exact h.new j o' t hj hl ho'
      · have : j = i := by simpa using hl
        subst this
        rw [ho] at hj; cases hj
        rw [hx] at ho'; cases ho'
  | some d =>
    have hds : d < a.tmps.size := by rw [h.size]; exact hd d hx
    refine ⟨by show (a.tmps.setIfInBounds d v).size = _; simpa using h.size, h.df, fun t ht => ?_, fun j o' t hj hl ho' => ?_⟩
    · show (a.tmps.setIfInBounds d v)[t]? = _
      have : d ≠ t := fun e => by
        subst e
        have := ht i o ho hx
        rw [set_getD hi] at this
        simp at this
      rw [Array.getElem?_setIfInBounds, if_neg this]
      refine h.old t fun j o' hj ho' => ?_
      have := ht j o' hj ho'
      rw [set_getD hi] at this
      exact (Bool.or_eq_false_iff.1 this).1
    · show (a.tmps.setIfInBounds d v)[t]? = _
      rw [Array.getElem?_setIfInBounds]
      by_cases hdt : d = t
      · subst hdt
        rw [if_pos rfl, if_pos hds, hv d hx]
      · rw [if_neg hdt]
        rw [set_getD hi, Bool.or_eq_true] at hl
        rcases hl with hl | hl
        · exact h.new j o' t hj hl ho'
        · have : j = i := by simpa using hl
          subst this
          rw [ho] at hj; cases hj
          rw [hx] at ho'; cases ho'
          exact absurd rfl hdt
def puts (a : Act) (val : Nat → Value) : List Nat → Act
  | [] => a
  | d :: l => puts (a.put (some d) (val d)) val l
theorem puts_at {val : Nat → Value} : ∀ (l : List Nat) (a : Act) (t : Nat), (puts a val l).tmps[t]? = if t ∈ l ∧ t < a.tmps.size then some (val t) else a.tmps[t]?
  | [], a, t => by simp [puts]
  | d :: l, a, t => by
    rw [puts, puts_at l _ t]
    have hs : (a.put (some d) (val d)).tmps.size = a.tmps.size := by show (a.tmps.setIfInBounds d _).size = _; simp
    have hg : (a.put (some d) (val d)).tmps[t]? = if d = t then (if d < a.tmps.size then some (val d) else none) else a.tmps[t]? := by
      show (a.tmps.setIfInBounds d _)[t]? = _
      rw [Array.getElem?_setIfInBounds]
    rw [hs, hg]
    by_cases h1 : t ∈ l ∧ t < a.tmps.size
    · rw [if_pos h1, if_pos ⟨List.mem_cons_of_mem _ h1.1, h1.2⟩]
    · rw [if_neg h1]
      by_cases h2 : d = t
      · subst h2
        by_cases h3 : d < a.tmps.size
        · simp [h3]
        · simp [h3]
      · rw [if_neg h2, if_neg]
        intro ⟨h3, h4⟩
        rcases List.mem_cons.1 h3 with h5 | h5
        · exact h2 h5.symm
        · exact h1 ⟨h5, h4⟩
theorem puts_df {val : Nat → Value} : ∀ (l : List Nat) (a : Act), (puts a val l).defers = a.defers
  | [], a => rfl
  | d :: l, a => by rw [puts, puts_df l]; rfl
theorem act_ext {a b : Act} (h1 : ∀ t : Nat, a.tmps[t]? = b.tmps[t]?) (h2 : a.defers = b.defers) : a = b := by
  cases a; cases b
  simp only at h1 h2
  rw [h2, Array.ext_getElem? h1]
theorem RegI.done {val : Nat → Value} {a0 a : Act} {L : Array Bool} {D : List Nat} (h : RegI ops val a0 L a) (hall : ∀ i, i < ops.size → L.getD i false = true) (hD : D = ops.toList.filterMap (·.dst)) (hs : ∀ t ∈ D, t < a0.tmps.size) : a = puts a0 val D := by
  refine act_ext (fun t => ?_) (h.df.trans (puts_df _ _).symm)
  rw [puts_at]
  by_cases ht : t ∈ D
  · rw [if_pos ⟨ht, hs t ht⟩]
    rw [hD, List.mem_filterMap] at ht
    obtain ⟨o, ho, hd⟩ := ht
    obtain ⟨i, hi⟩ := List.getElem?_of_mem ho
    have hi' : ops[i]? = some o := by simpa using hi
    exact h.new i o t hi' (hall i (Array.getElem?_eq_some_iff.1 hi').1) hd
  · rw [if_neg (fun e => ht e.1)]
    refine h.old t fun i o ho hd => absurd ?_ ht
    rw [hD, List.mem_filterMap]
    exact ⟨o, by simpa using Array.mem_of_getElem? ho, hd⟩
end
end
section
section
variable {P : Program} {ops : Array Oper} {Q : Exit → Act → World → Prop} {w w' : World} {a : Act} {K : Act → World → Prop}
end
end
section
section
variable {P : Program} (w : World) {ops : Array Oper} {rest : List Oper} {o : Oper} {a : Act} {Q : Exit → Act → World → Prop}
end
end
section
end
end Go.Proofs.Ytlmnhbobgfpanaa
