/-
  Equality of flat structs: every field a number, a Bool or a text in one cell. General; nothing of this program.
-/
import Derived.Laws.StructEq
namespace Go.Proofs.Ytglholedidkbcaa
inductive Kd where
  | int | bool | str
deriving DecidableEq
def Kd.of (P : Program) (t : TypeId) : Option Kd := match P.underlying t with
  | some (.int _) => some .int
  | some .bool => some .bool
  | some .string => some .str
  | _ => none
def kindsAt (P : Program) : Nat → List Field → Option (List Kd)
  | _, [] => some []
  | j, f :: fs => if f.name != "_" && f.offset == j then match Kd.of P f.type, kindsAt P (j + 1) fs with
    | some k, some ks => some (k :: ks)
    | _, _ => none
    else none
/-- The cells of a flat struct that may be compared. -/
def flatEq (P : Program) (t : TypeId) : Option (List Kd) := match P.underlying t with
  | some (.struct fs) => if !P.stoodInHeld t && !P.eqGuardType P.depth t then kindsAt P 0 fs.toList else none
  | _ => none
def kdEq : Kd → Value → Value → Option Bool
  | .int, .int k a, .int k' b => if k = k' then some (a == b) else none
  | .bool, .bool a, .bool b => some (a == b)
  | .str, .string a, .string b => some (a == b)
  | _, _, _ => none
def cellsEq (f g : Nat → Option Value) : List Kd → Nat → Option Bool
  | [], _ => some true
  | k :: ks, j => match f j, g j with
    | some a, some b => match kdEq k a b, cellsEq f g ks (j + 1) with
      | some u, some v => some (u && v)
      | _, _ => none
    | _, _ => none
section
variable {P : Program} (w : World)
theorem run_kd {d : Nat} {t : TypeId} {k : Kd} {a b : Value} {r : Bool} (h : Kd.of P t = some k) (he : kdEq k a b = some r) : (Op.equalIn (d + 1) t a b).run P w = .ok r w := by
  unfold Kd.of at h
  split at h <;> simp only [Option.some.injEq, reduceCtorEq] at h <;> subst h
  · rename_i q hu
    cases a <;> cases b <;> simp only [kdEq, reduceCtorEq] at he
    split at he
    · rename_i hk; subst hk; cases he; exact run_equalIn_int w d t _ q _ _ hu
    · cases he
  · rename_i hu
    cases a <;> cases b <;> simp only [kdEq, reduceCtorEq, Option.some.injEq] at he
    subst he; exact run_equalIn_bool w d t _ _ hu
  · rename_i hu
    cases a <;> cases b <;> simp only [kdEq, reduceCtorEq, Option.some.injEq] at he
    subst he; rw [beq_toListBytes]; exact run_equalIn_string w d t _ _ hu
theorem part_kd {t : TypeId} {k : Kd} {xs : Array Value} {j : Nat} {v : Value} (h : Kd.of P t = some k) (hx : xs[j]? = some v) : (part t xs j).run P w = .ok v w := by
  unfold Kd.of at h
  have : (isAgg t).run P w = .ok false w := by
    split at h <;> simp only [Option.some.injEq, reduceCtorEq] at h <;> (rename_i hu; simp [isAgg, run_underlying hu])
  simp [part, this, hx]
theorem run_fields {d : Nat} {xs ys : Array Value} : ∀ {fs : List Field} {j : Nat} {ks : List Kd} {r : Bool}, kindsAt P j fs = some ks → cellsEq (fun i => xs[i]?) (fun i => ys[i]?) ks j = some r → (Op.eqFields (d + 1) xs ys fs).run P w = .ok r w
  | [], j, ks, r, h, he => by
    simp only [kindsAt, Option.some.injEq] at h
    subst h
    simp only [cellsEq, Option.some.injEq] at he
    subst he
    simp [Op.eqFields]
  | f :: fs, j, ks, r, h, he => by
    simp only [kindsAt] at h
    split at h
    · rename_i hn
      simp only [Bool.and_eq_true, bne_iff_ne, ne_eq, beq_iff_eq] at hn
      split at h
      · rename_i k ks' h1 h2
        simp only [Option.some.injEq] at h
        subst h
        simp only [cellsEq] at he
        split at he
        · rename_i a b ha hb
          split at he
          · rename_i u v e1 e2
            simp only [Option.some.injEq] at he
            subst he
            have ih := run_fields (d := d) h2 e2
            have q1 := part_kd w h1 ha
            have q2 := part_kd w h1 hb
            have q3 := run_kd w (d := d) h1 e1
            simp only [Op.eqFields, ne_eq, hn.1, not_false_eq_true, if_true, Sem.run_bind, hn.2, q1, q2, q3, Result.andThen_ok]
            cases u with
            | false => simp
            | true => simpa using ih
          · cases he
        · cases he
      · cases h
    · cases h
theorem run_flatEq {op : BinOp} {t : TypeId} {ks : List Kd} {xs ys : Array Value} {r neg : Bool} (ho : op = if neg then .neq else .eql) (h : flatEq P t = some ks) (he : cellsEq (fun i => xs[i]?) (fun i => ys[i]?) ks 0 = some r) :
    (binOp op t (.agg xs) (.agg ys)).run P w = .ok (.bool (if neg then !r else r)) w ∧ ∀ x y, (eqGuard op t x y (.agg xs) (.agg ys)).run P w = .ok () w := by
  unfold flatEq at h
  split at h
  · rename_i fs hu
    split at h
    · rename_i hc
      simp only [Bool.and_eq_true, Bool.not_eq_true'] at hc
      have hf : P.fieldsOf t = fs := by unfold Program.fieldsOf; rw [hu]
      have hq := run_equalIn_struct w 9999 t xs ys (by rw [hf]; exact hu) hc.1
      rw [hf, run_fields w (d := 9998) h he] at hq
      refine ⟨?_, fun x y => run_eqGuard_agg w op t x y xs ys hc.2⟩
      subst ho
      cases neg with
      | false => simp only [Bool.false_eq_true, if_false]; rw [run_eql_struct, hq]; rfl
      | true => simp only [if_true]; rw [run_neq_struct, hq]; rfl
    · cases h
  · cases h
end
end Go.Proofs.Ytglholedidkbcaa
