/-
  Code: what a body comes to, from a state.
-/
import Derived.Test.YtahamggipcikgaaTrQ
import Derived.LoopN
namespace Go.Proofs.Ytahamggipcikgaa
open Go.RowKit

inductive AC where
  | skip
  | region (ros : List RO) (deps : List (List Nat)) (draw : Bool)
  | seq (x y : AC)
  | cond (c : Operand) (x y : AC)
  | block (id : Nat) (x : AC)
  | loop (x : AC)
  | exit (id : Nat)
  | ret
  | join (x : AC)

mutual
/-- How many ways there are to a code's end. -/
def AC.ways : AC → Nat
  | .skip => 1
  | .region .. => 1
  | .seq x y => x.ways * y.ways
  | .cond _ x y => x.ways + y.ways
  | .block id x => x.ways + x.outs id
  | .loop _ => 0
  | .exit _ => 0
  | .ret => 0
  | .join x => min 1 x.ways
/-- .. and to an exit. -/
def AC.outs (x : AC) (i : Nat) : Nat := match x with
  | .skip => 0
  | .region .. => 0
  | .seq x y => x.outs i + x.ways * y.outs i
  | .cond _ x y => x.outs i + y.outs i
  | .block _ x => x.outs i
  | .loop x => x.outs i
  | .exit k => if k = i then 1 else 0
  | .ret => 0
  | .join x => x.outs i
end

inductive AX where
  | normal
  | exit (id : Nat)
  | ret

def AX.out : AX → Exit
  | .normal => .normal
  | .exit id => .exit id
  | .ret => .ret

def compO (P : Program) (N : Nat) (ops : Array Oper) (o : Oper) : Option RO :=
  match comp1 P o with
  | some ao =>
    if (match o.dst with | none => true | some d => decide (d < N)) = true then
      match o.guard with
      | none => some ⟨o.dst, none, ao⟩
      | some (j, want) => match (ops[j]?).bind (·.dst) with
        | some t => some ⟨o.dst, some (t, want), ao⟩
        | none => none
    else none
  | none => none

def compL (P : Program) (N : Nat) (ops : Array Oper) : List Oper → Option (List RO)
  | [] => some []
  | o :: os => match compO P N ops o, compL P N ops os with
    | some r, some rs => some (r :: rs)
    | _, _ => none

def depsOf (o : Oper) : List Nat := (o.after.toList.filter (Region.binds .any)).map (·.on)

/-- (j: where several ways meet, a place to say less.) -/
def compC (P : Program) (j : Bool) (N : Nat) : Code → Option AC
  | .skip => some .skip
  | .region _ ops draw => match compL P N ops ops.toList with
    | some rs => if (ops.toList.zipIdx.all fun p => (depsOf p.1).all fun d => decide (d < p.2)) = true then some (.region rs (ops.toList.map depsOf) draw) else none
    | none => none
  | .seq x y => match compC P j N x, compC P j N y with
    | some x, some y => some (if (j && decide (2 ≤ x.ways)) = true then .seq (.join x) (.join y) else .seq x y)
    | _, _ => none
  | .cond c x y => match compC P j N x, compC P j N y with
    | some x, some y => some (.cond c x y)
    | _, _ => none
  | .block id x => (compC P j N x).map (.block id)
  | .loop x => (compC P j N x).map .loop
  | .exit id => some (.exit id)
  | .ret => some .ret
  | _ => none

/-- A state of which less is known. -/
def Weak (m : Nat) (σ σ' : St) : Prop := σ'.N = σ.N ∧ ∀ (E : Env) (ρ : Pl) (a : Act) (w : World), (∀ id, m ≤ id → E.O id = none) → Rel E ρ σ a w → ∃ ρ', Rel E ρ' σ' a w

/-- What a body comes to (m: so many objects were handed in). -/
def awp (P : Program) (m : Nat) : AC → (AX → St → Prop) → St → Prop
  | .skip, Q, σ => Q .normal σ
  | .region ros deps draw, Q, σ => regWp P σ.next ros 0 { σ with next := σ.next + 16 * ros.length } fun σ' efs => (draw = true → free deps efs = true) ∧ Q .normal σ'
  | .seq x y, Q, σ => awp P m x (fun e σ' => match e with | .normal => awp P m y Q σ' | e => Q e σ') σ
  | .cond c x y, Q, σ => match aev σ c with
    | .im (.val (.bool b)) => (b = true → awp P m x Q σ) ∧ (b = false → awp P m y Q σ)
    | _ => False
  | .block id x, Q, σ => awp P m x (fun e σ' => match e with | .exit i => if i = id then Q .normal σ' else Q (.exit i) σ' | e => Q e σ') σ
  | .loop x, Q, σ => ∃ (ι : Type) (S : ι → St) (μ : ι → Nat) (i : ι), Weak m σ (S i) ∧ ∀ i, awp P m x (fun e σ' => match e with | .normal => ∃ j, μ j < μ i ∧ Weak m σ' (S j) | e => Q e σ') (S i)
  | .exit id, Q, σ => Q (.exit id) σ
  | .ret, Q, σ => Q .ret σ
  | .join x, Q, σ => ∃ σ', Weak m σ σ' ∧ awp P m x Q σ'

theorem awp_mono {P : Program} {m : Nat} {c : AC} : ∀ {Q Q' : AX → St → Prop} {σ : St}, (∀ e σ, Q e σ → Q' e σ) → awp P m c Q σ → awp P m c Q' σ := by
  induction c with
  | skip => intro Q Q' σ h k; exact h _ _ k
  | region ros deps draw =>
    intro Q Q' σ h k
    have up : ∀ {rs : List RO} {i base : Nat} {σ : St} {K K' : St → List Ef → Prop}, (∀ a b, K a b → K' a b) → regWp P base rs i σ K → regWp P base rs i σ K' := by
      intro rs
      induction rs with
      | nil => intro i base σ K K' hk h; exact hk _ _ h
      | cons r rs ih => intro i base σ K K' hk h; exact AM.wp_mono (fun _ _ _ h => ih (fun _ _ h => hk _ _ h) h) h
    exact up (fun _ _ ⟨a, b⟩ => ⟨a, h _ _ b⟩) k
  | seq x y ihx ihy =>
    intro Q Q' σ h k
    refine ihx ?_ k
    intro e σ hk
    cases e
    · exact ihy h hk
    · exact h _ _ hk
    · exact h _ _ hk
  | cond c x y ihx ihy =>
    intro Q Q' σ h k
    simp only [awp] at k ⊢
    split at k
    · exact ⟨fun e => ihx h (k.1 e), fun e => ihy h (k.2 e)⟩
    · exact k.elim
  | block id x ih =>
    intro Q Q' σ h k
    refine ih ?_ k
    intro e σ hk
    cases e with
    | normal => exact h _ _ hk
    | ret => exact h _ _ hk
    | exit i =>
      by_cases e : i = id
      · simp only [if_pos e] at hk ⊢
        exact h _ _ hk
      · simp only [if_neg e] at hk ⊢
        exact h _ _ hk
  | loop x ih =>
    rintro Q Q' σ h ⟨ι, S, μ, i, h1, h2⟩
    refine ⟨ι, S, μ, i, h1, fun i => ih ?_ (h2 i)⟩
    intro e σ hk
    cases e
    · exact hk
    · exact h _ _ hk
    · exact h _ _ hk
  | exit id => intro Q Q' σ h k; exact h _ _ k
  | ret => intro Q Q' σ h k; exact h _ _ k
  | join x ih =>
    rintro Q Q' σ h ⟨σ', h1, h2⟩
    exact ⟨σ', h1, ih h h2⟩

section
variable {P : Program} {E : Env} {ρ ρ' ρc : Pl} {O O' Oc : Ow} {σ σ' : St} {a : Act} {w w' : World} {N m : Nat}

theorem compL_at {ops : Array Oper} : ∀ {l : List Oper} {rs : List RO}, compL P N ops l = some rs → rs.length = l.length ∧ ∀ (i : Nat) (r : RO), rs[i]? = some r → ∃ o, l[i]? = some o ∧ compO P N ops o = some r
  | [], rs, h => by
    simp only [compL, Option.some.injEq] at h
    subst h
    exact ⟨rfl, fun i r h => by simp at h⟩
  | o :: l, rs, h => by
    simp only [compL] at h
    split at h <;> simp only [Option.some.injEq, reduceCtorEq] at h
    rename_i r rs' h1 h2
    subst h
    obtain ⟨h3, h4⟩ := compL_at h2
    refine ⟨by simp [h3], fun i r' hr => ?_⟩
    cases i with
    | zero =>
      simp only [List.getElem?_cons_zero, Option.some.injEq] at hr
      subst hr
      exact ⟨o, rfl, h1⟩
    | succ i =>
      simp only [List.getElem?_cons_succ] at hr ⊢
      exact h4 i r' hr

theorem reg_of {ops : Array Oper} {rs : List RO} (h : compL P N ops ops.toList = some rs) (hd : (ops.toList.zipIdx.all fun p => (depsOf p.1).all fun d => decide (d < p.2)) = true) : Reg P N ops rs (ops.toList.map depsOf) := by
  obtain ⟨h1, h2⟩ := compL_at h
  refine ⟨by simpa using h1, fun i r hr => ?_, by simp, fun i o ho => ?_⟩
  · obtain ⟨o, ho, hc⟩ := h2 i r hr
    refine ⟨o, by simpa using ho, ?_⟩
    unfold compO at hc
    split at hc <;> try (simp at hc; done)
    rename_i ao h3
    have hif : ∀ (p : Bool) (x : Option RO), (if p = true then x else none) = some r → p = true ∧ x = some r := fun p x h => by cases p <;> simp_all
    obtain ⟨h4, hc⟩ := hif _ _ hc
    have hdst : ∀ d, o.dst = some d → d < N := fun d hd => by
      rw [hd] at h4
      exact of_decide_eq_true h4
    cases hg : o.guard with
    | none =>
      rw [hg] at hc
      simp only [Option.some.injEq] at hc
      subst hc
      exact ⟨rfl, h3, hdst, trivial⟩
    | some p =>
      obtain ⟨j, want⟩ := p
      rw [hg] at hc
      simp only at hc
      split at hc <;> simp only [Option.some.injEq, reduceCtorEq] at hc
      rename_i t ht
      subst hc
      exact ⟨rfl, h3, hdst, rfl, ht⟩
  · have hl : ops.toList[i]? = some o := by simpa using ho
    have e : (ops.toList.map depsOf).getD i [] = depsOf o := by simp [List.getD, ho]
    refine ⟨e, fun d hd' => ?_⟩
    rw [e] at hd'
    have := List.all_eq_true.1 hd (o, i) (by
      rw [List.mem_iff_getElem?]
      exact ⟨i, by simp [List.getElem?_zipIdx, hl]⟩)
    simpa using List.all_eq_true.1 this d hd'

theorem awp_ok {jn : Bool} (hm : P.follows .mixedOrders = true) : ∀ {code : Code} {c : AC} {Q : AX → St → Prop} {E : Env} {ρ : Pl} {σ : St} {a : Act} {w : World}, compC P jn N code = some c → σ.N = N → (∀ id, m ≤ id → E.O id = none) → Rel E ρ σ a w → awp P m c Q σ →
    code.wp P (fun e a' w' => ∃ x σ' ρ', e = AX.out x ∧ σ'.N = N ∧ Rel E ρ' σ' a' w' ∧ Q x σ') a w
  | .skip, _, Q, E, ρ, σ, a, w, hc, hN, hE, h, k => by
    simp only [compC, Option.some.injEq] at hc
    subst hc
    exact wp_skip ⟨.normal, σ, ρ, rfl, hN, h, k⟩
  | .region id ops draw, _, Q, E, ρ, σ, a, w, hc, hN, hE, h, k => by
    simp only [compC] at hc
    split at hc <;> try (simp at hc; done)
    rename_i rs h1
    split at hc <;> simp only [Option.some.injEq, reduceCtorEq] at hc
    rename_i h2
    subst hc
    obtain ⟨efs, σ', r1, r2, r3⟩ := regWp_runs k
    have hN' : σ'.N = N := by
      rw [runs_end r1]
      rw [(part_next (es := zl efs 0) (σ := { σ with next := σ.next + 16 * rs.length }) (S := fun _ => true)).2]
      exact hN
    exact region_ok (reg_of h1 h2) hm h hN r1 r2 (fun ρ' a' w' hr => ⟨.normal, σ', ρ', rfl, hN', hr, r3⟩) id
  | .seq x y, _, Q, E, ρ, σ, a, w, hc, hN, hE, h, k => by
    simp only [compC] at hc
    split at hc <;> simp only [Option.some.injEq, reduceCtorEq] at hc
    rename_i cx cy h1 h2
    split at hc
    · subst hc
      obtain ⟨σ0, ⟨f1, f2⟩, k⟩ := k
      obtain ⟨ρ0, h⟩ := f2 E ρ a w hE h
      refine wp_seq (wp_mono (awp_ok hm h1 (f1.trans hN) hE h k) ?_)
      rintro e a' w' ⟨x, σ', ρ', rfl, hN', hr, hq⟩
      cases x with
      | normal =>
        obtain ⟨σ'', ⟨g1, g2⟩, g3⟩ := hq
        obtain ⟨ρ'', hr'⟩ := g2 E ρ' a' w' hE hr
        exact awp_ok hm h2 (g1.trans hN') hE hr' g3
      | exit id => exact ⟨.exit id, σ', ρ', rfl, hN', hr, hq⟩
      | ret => exact ⟨.ret, σ', ρ', rfl, hN', hr, hq⟩
    · subst hc
      refine wp_seq (wp_mono (awp_ok hm h1 hN hE h k) ?_)
      rintro e a' w' ⟨x, σ', ρ', rfl, hN', hr, hq⟩
      cases x with
      | normal => exact awp_ok hm h2 hN' hE hr hq
      | exit id => exact ⟨.exit id, σ', ρ', rfl, hN', hr, hq⟩
      | ret => exact ⟨.ret, σ', ρ', rfl, hN', hr, hq⟩
  | .cond c x y, _, Q, E, ρ, σ, a, w, hc, hN, hE, h, k => by
    simp only [compC] at hc
    split at hc <;> simp only [Option.some.injEq, reduceCtorEq] at hc
    rename_i cx cy h1 h2
    subst hc
    have hv := aev_rel h c
    simp only [awp] at k
    split at k
    · rename_i b e
      rw [e] at hv
      have hv' : a.eval c = .bool b := hv
      refine wp_cond hv' ?_
      cases b with
      | true => exact awp_ok hm h1 hN hE h (k.1 rfl)
      | false => exact awp_ok hm h2 hN hE h (k.2 rfl)
    · exact k.elim
  | .block id x, _, Q, E, ρ, σ, a, w, hc, hN, hE, h, k => by
    simp only [compC, Option.map_eq_some_iff] at hc
    obtain ⟨cx, h1, rfl⟩ := hc
    refine wp_block (wp_mono (awp_ok hm h1 hN hE h k) ?_)
    rintro e a' w' ⟨x, σ', ρ', rfl, hN', hr, hq⟩
    cases x with
    | normal => exact ⟨.normal, σ', ρ', rfl, hN', hr, hq⟩
    | ret => exact ⟨.ret, σ', ρ', rfl, hN', hr, hq⟩
    | exit id' =>
      simp only at hq
      simp only [AX.out, Exit.inBlock]
      split at hq
      · rename_i e; rw [if_pos e]; exact ⟨.normal, σ', ρ', rfl, hN', hr, hq⟩
      · rename_i e; rw [if_neg e]; exact ⟨.exit id', σ', ρ', rfl, hN', hr, hq⟩
  | .loop x, _, Q, E, ρ, σ, a, w, hc, hN, hE, h, k => by
    simp only [compC, Option.map_eq_some_iff] at hc
    obtain ⟨cx, h1, rfl⟩ := hc
    obtain ⟨ι, S, μ, i0, hw, hb⟩ := k
    have key : ∀ n (i : ι), μ i < n → (S i).N = N → ∀ (ρ : Pl) (a : Act) (w : World), Rel E ρ (S i) a w → Code.rounds P x (fun e a' w' => ∃ x σ' ρ', e = AX.out x ∧ σ'.N = N ∧ Rel E ρ' σ' a' w' ∧ Q x σ') n a w := by
      intro n
      induction n with
      | zero => intro i hi; omega
      | succ n ih =>
        intro i hi hNi ρ a w hr
        rw [rounds_succ]
        refine wp_mono (awp_ok hm h1 hNi hE hr (hb i)) ?_
        rintro e a' w' ⟨x, σ', ρ', rfl, hN', hr', hq⟩
        cases x with
        | normal =>
          obtain ⟨j, hj, hwk⟩ := hq
          obtain ⟨ρ2, hr2⟩ := hwk.2 E ρ' a' w' hE hr'
          exact ih j (by omega) (hwk.1.trans hN') ρ2 a' w' hr2
        | exit id => exact ⟨.exit id, σ', ρ', rfl, hN', hr', hq⟩
        | ret => exact ⟨.ret, σ', ρ', rfl, hN', hr', hq⟩
    obtain ⟨ρ2, hr2⟩ := hw.2 E ρ a w hE h
    exact wp_loop_rounds (μ i0 + 1) (key _ i0 (by omega) (hw.1.trans hN) ρ2 a w hr2)
  | .exit id, _, Q, E, ρ, σ, a, w, hc, hN, hE, h, k => by
    simp only [compC, Option.some.injEq] at hc
    subst hc
    exact wp_exit ⟨.exit id, σ, ρ, rfl, hN, h, k⟩
  | .ret, _, Q, E, ρ, σ, a, w, hc, hN, hE, h, k => by
    simp only [compC, Option.some.injEq] at hc
    subst hc
    exact wp_ret ⟨.ret, σ, ρ, rfl, hN, h, k⟩
  | .rangeFunc .., _, _, _, _, _, _, _, hc, _, _, _, _ => by simp [compC] at hc
  | .scope _, _, _, _, _, _, _, _, hc, _, _, _, _ => by simp [compC] at hc
  | .label _, _, _, _, _, _, _, _, hc, _, _, _, _ => by simp [compC] at hc
  | .goto _, _, _, _, _, _, _, _, hc, _, _, _, _ => by simp [compC] at hc
  | .refuse _, _, _, _, _, _, _, _, hc, _, _, _, _ => by simp [compC] at hc
end
end Go.Proofs.Ytahamggipcikgaa
