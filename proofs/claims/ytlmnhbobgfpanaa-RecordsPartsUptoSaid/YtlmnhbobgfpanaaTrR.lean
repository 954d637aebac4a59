/-
  Code: what a body comes to, from a state.
-/
import Derived.Test.YtlmnhbobgfpanaaTrQ
import Derived.LoopN
namespace Go.Proofs.Ytlmnhbobgfpanaa
open Go.RowKit

inductive AC where
  | skip
  | region (ros : List RO) (deps : List (List Nat)) (draw : Bool)
  | seq (x y : AC)
  | cond (c : Operand) (x y : AC)
  | block (id : Nat) (x : AC)
  | loop (x : AC)
  | exit (id : Nat)
  | ret
  | join (x : AC)

mutual
/-- How many ways there are to a code's end. -/
def AC.ways : AC → Nat
  | .skip => 1
  | .region .. => 1
  | .seq x y => x.ways * y.ways
  | .cond _ x y => x.ways + y.ways
  | .block id x => x.ways + x.outs id
  | .loop _ => 0
  | .exit _ => 0
  | .ret => 0
  | .join x => min 1 x.ways
/-- .. and to an exit. -/
def AC.outs (x : AC) (i : Nat) : Nat := match x with
  | .skip => 0
  | .region .. => 0
  | .seq x y => x.outs i + x.ways * y.outs i
  | .cond _ x y => x.outs i + y.outs i
  | .block _ x => x.outs i
  | .loop x => x.outs i
  | .exit k => if k = i then 1 else 0
  | .ret => 0
  | .join x => x.outs i
end

inductive AX where
  | normal
  | exit (id : Nat)
  | ret

def AX.out : AX → Exit
  | .normal => .normal
  | .exit id => .exit id
  | .ret => .ret

def compO (P : Program) (N : Nat) (ops : Array Oper) (o : Oper) : Option RO :=
  match comp1 P o with
  | some ao =>
    if (match o.dst with | none => true | some d => decide (d < N)) = true then
      match o.guard with
      | none => some ⟨o.dst, none, ao⟩
      | some (j, want) => match (ops[j]?).bind (·.dst) with
        | some t => some ⟨o.dst, some (t, want), ao⟩
        | none => none
    else none
  | none => none

def compL (P : Program) (N : Nat) (ops : Array Oper) : List Oper → Option (List RO)
  | [] => some []
  | o :: os => match compO P N ops o, compL P N ops os with
    | some r, some rs => some (r :: rs)
    | _, _ => none

def depsOf (o : Oper) : List Nat := (o.after.toList.filter (Region.binds .any)).map (·.on)

def compC (P : Program) (j : Bool) (N : Nat) : Code → Option AC
  | .skip => some .skip
  | .region _ ops draw => match compL P N ops ops.toList with
    | some rs => if (ops.toList.zipIdx.all fun p => (depsOf p.1).all fun d => decide (d < p.2)) = true then some (.region rs (ops.toList.map depsOf) draw) else none
    | none => none
  | .seq x y => match compC P j N x, compC P j N y with
    | some x, some y => some (if (j && decide (2 ≤ x.ways)) = true then .seq (.join x) (.join y) else .seq x y)
    | _, _ => none
  | .cond c x y => match compC P j N x, compC P j N y with
    | some x, some y => some (.cond c x y)
    | _, _ => none
  | .block id x => (compC P j N x).map (.block id)
  | .loop x => (compC P j N x).map .loop
  | .exit id => some (.exit id)
  | .ret => some .ret
  | _ => none

def Weak (m : Nat) (σ σ' : St) : Prop := σ'.N = σ.N ∧ ∀ (E : Env) (ρ : Pl) (a : Act) (w : World), (∀ id, m ≤ id → E.O id = none) → Rel E ρ σ a w → ∃ ρ', Rel E ρ' σ' a w

def awp (P : Program) (m : Nat) : AC → (AX → St → Prop) → St → Prop
  | .skip, Q, σ => Q .normal σ
  | .region ros deps draw, Q, σ => regWp P σ.next ros 0 { σ with next := σ.next + 16 * ros.length } fun σ' efs => (draw = true → free deps efs = true) ∧ Q .normal σ'
  | .seq x y, Q, σ => awp P m x (fun e σ' => match e with | .normal => awp P m y Q σ' | e => Q e σ') σ
  | .cond c x y, Q, σ => match aev σ c with
    | .im (.val (.bool b)) => (b = true → awp P m x Q σ) ∧ (b = false → awp P m y Q σ)
    | _ => False
  | .block id x, Q, σ => awp P m x (fun e σ' => match e with | .exit i => if i = id then Q .normal σ' else Q (.exit i) σ' | e => Q e σ') σ
  | .loop x, Q, σ => ∃ (ι : Type) (S : ι → St) (μ : ι → Nat) (i : ι), Weak m σ (S i) ∧ ∀ i, awp P m x (fun e σ' => match e with | .normal => ∃ j, μ j < μ i ∧ Weak m σ' (S j) | e => Q e σ') (S i)
  | .exit id, Q, σ => Q (.exit id) σ
  | .ret, Q, σ => Q .ret σ
  | .join x, Q, σ => ∃ σ', Weak m σ σ' ∧ awp P m x Q σ'

section
variable {P : Program} {E : Env} {ρ ρ' ρc : Pl} {O O' Oc : Ow} {σ σ' : St} {a : Act} {w w' : World} {N m : Nat}

theorem compL_at {ops : Array Oper} : ∀ {l : List Oper} {rs : List RO}, compL P N ops l = some rs → rs.length = l.length ∧ ∀ (i : Nat) (r : RO), rs[i]? = some r → ∃ o, l[i]? = some o ∧ compO P N ops o = some r
  | [], rs, h => by
    simp only [compL, Option.some.injEq] at h
    subst h
    exact ⟨rfl, fun i r h => by simp at h⟩
  | o :: l, rs, h => by
    simp only [compL] at h
    split at h <;> simp only [Option.some.injEq, reduceCtorEq] at h
    rename_i r rs' h1 h2
    subst h
    obtain ⟨h3, h4⟩ := compL_at h2
    refine ⟨by simp [h3], fun i r' hr => ?_⟩
    cases i with
    | zero =>
      simp only [List.getElem?_cons_zero, Option.some.injEq] at hr
      subst hr
      exact ⟨o, rfl, h1⟩
    | succ i =>
      simp only [List.getElem?_cons_succ] at hr ⊢
      exact h4 i r' hr

theorem reg_of {ops : Array Oper} {rs : List RO} (h : compL P N ops ops.toList = some rs) (hd : (ops.toList.zipIdx.all fun p => (depsOf p.1).all fun d => decide (d < p.2)) = true) : Reg P N ops rs (ops.toList.map depsOf) := by
  obtain ⟨h1, h2⟩ := compL_at h
  refine ⟨by simpa using h1, fun i r hr => ?_, by simp, fun i o ho => ?_⟩
  · obtain ⟨o, ho, hc⟩ := h2 i r hr
    refine ⟨o, by simpa using ho, ?_⟩
    unfold compO at hc
    split at hc <;> try (simp at hc; done)
    rename_i ao h3
    have hif : ∀ (p : Bool) (x : Option RO), (if p = true then x else none) = some r → p = true ∧ x = some r := fun p x h => by cases p <;> simp_all
    obtain ⟨h4, hc⟩ := hif _ _ hc
    have hdst : ∀ d, o.dst = some d → d < N := fun d hd => by
      rw [hd] at h4
      exact of_decide_eq_true h4
    cases hg : o.guard with
    | none =>
      rw [hg] at hc
      simp only [Option.some.injEq] at hc
      subst hc
      exact ⟨rfl, h3, hdst, trivial⟩
    | some p =>
      obtain ⟨j, want⟩ := p
      rw [hg] at hc
      simp only at hc
      split at hc <;> simp only [Option.some.injEq, reduceCtorEq] at hc
      rename_i t ht
      subst hc
      exact ⟨rfl, h3, hdst, rfl, ht⟩
  · have hl : ops.toList[i]? = some o := by simpa using ho
    have e : (ops.toList.map depsOf).getD i [] = depsOf o := by simp [List.getD, ho]
    refine ⟨e, fun d hd' => ?_⟩
    rw [e] at hd'
    have := List.all_eq_true.1 hd (o, i) (by
      rw [List.mem_iff_getElem?]
      exact ⟨i, by simp [List.getElem?_zipIdx, hl]⟩)
    simpa using List.all_eq_true.1 this d hd'

end
end Go.Proofs.Ytlmnhbobgfpanaa
