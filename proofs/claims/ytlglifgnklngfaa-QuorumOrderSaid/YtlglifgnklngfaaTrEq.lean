/-
  Equality of flat structs: every field a number, a Bool or a text in one cell. General; nothing of this program.
-/
import Derived.Laws.StructEq
namespace Go.Proofs.Ytlglifgnklngfaa
inductive Kd where
  | int | bool | str
deriving DecidableEq
def Kd.of (P : Program) (t : TypeId) : Option Kd := match P.underlying t with
  | some (.int _) => some .int
  | some .bool => some .bool
  | some .string => some .str
  | _ => none
/-- The kinds of a struct's cells; `sub`: those of a struct in it. -/
def kindsWith (P : Program) (sub : TypeId → Option (List Kd)) : Nat → List Field → Option (List Kd)
  | _, [] => some []
  | j, f :: fs => if f.name != "_" && f.offset == j then match Kd.of P f.type with
      | some k => match kindsWith P sub (j + 1) fs with
        | some ks => some (k :: ks)
        | none => none
      | none => match sub f.type with
        | some l => match kindsWith P sub (j + l.length) fs with
          | some ks => some (l ++ ks)
          | none => none
        | none => none
    else none
def subKinds (P : Program) : Nat → TypeId → Option (List Kd)
  | 0, _ => none
  | n + 1, t => match P.underlying t, P.info? t with
    | some (.struct fs), some i => if !P.stoodInHeld t then match kindsWith P (subKinds P n) 0 fs.toList with
        | some ks => if i.size == ks.length then some ks else none
        | none => none
      else none
    | _, _ => none
/-- The cells of a struct that may be compared, of numbers, Bools and texts, or of such structs. -/
def flatEq (P : Program) (t : TypeId) : Option (List Kd) := match P.underlying t with
  | some (.struct fs) => if !P.stoodInHeld t && !P.eqGuardType P.depth t then kindsWith P (subKinds P 4) 0 fs.toList else none
  | _ => none
def kdEq : Kd → Value → Value → Option Bool
  | .int, .int k a, .int k' b => if k = k' then some (a == b) else none
  | .bool, .bool a, .bool b => some (a == b)
  | .str, .string a, .string b => some (a == b)
  | _, _, _ => none
def cellsEq (f g : Nat → Option Value) : List Kd → Nat → Option Bool
  | [], _ => some true
  | k :: ks, j => match f j, g j with
    | some a, some b => match kdEq k a b, cellsEq f g ks (j + 1) with
      | some u, some v => some (u && v)
      | _, _ => none
    | _, _ => none
section
variable {P : Program} (w : World)
theorem run_kd {d : Nat} {t : TypeId} {k : Kd} {a b : Value} {r : Bool} (h : Kd.of P t = some k) (he : kdEq k a b = some r) : (Op.equalIn (d + 1) t a b).run P w = .ok r w := by
  unfold Kd.of at h
  split at h <;> simp only [Option.some.injEq, reduceCtorEq] at h <;> subst h
  · rename_i q hu
    cases a <;> cases b <;> simp only [kdEq, reduceCtorEq] at he
    split at he
    · rename_i hk; subst hk; cases he; exact run_equalIn_int w d t _ q _ _ hu
    · cases he
  · rename_i hu
    cases a <;> cases b <;> simp only [kdEq, reduceCtorEq, Option.some.injEq] at he
    subst he; exact run_equalIn_bool w d t _ _ hu
  · rename_i hu
    cases a <;> cases b <;> simp only [kdEq, reduceCtorEq, Option.some.injEq] at he
    subst he; rw [beq_toListBytes]; exact run_equalIn_string w d t _ _ hu
theorem part_kd {t : TypeId} {k : Kd} {xs : Array Value} {j : Nat} {v : Value} (h : Kd.of P t = some k) (hx : xs[j]? = some v) : (part t xs j).run P w = .ok v w := by
  unfold Kd.of at h
  have : (isAgg t).run P w = .ok false w := by
    split at h <;> simp only [Option.some.injEq, reduceCtorEq] at h <;> (rename_i hu; simp [isAgg, run_underlying hu])
  simp [part, this, hx]
theorem cellsEq_app {f g : Nat → Option Value} : ∀ {l ks : List Kd} {j : Nat} {r : Bool}, cellsEq f g (l ++ ks) j = some r → ∃ u v, cellsEq f g l j = some u ∧ cellsEq f g ks (j + l.length) = some v ∧ r = (u && v)
  | [], ks, j, r, h => ⟨true, r, rfl, h, by simp⟩
  | k :: l, ks, j, r, h => by
    simp only [List.cons_append, cellsEq] at h
    split at h
    · rename_i a b ha hb
      split at h
      · rename_i u v e1 e2
        simp only [Option.some.injEq] at h
        obtain ⟨u', v', q1, q2, q3⟩ := cellsEq_app e2
        refine ⟨u && u', v', ?_, ?_, ?_⟩
        · simp only [cellsEq, ha, hb, e1, q1]
        · rw [← q2, List.length_cons, Nat.add_assoc, Nat.add_comm 1]
        · rw [← h, q3, Bool.and_assoc]
      · cases h
    · cases h
theorem cellsEq_shift {f g f' g' : Nat → Option Value} : ∀ {ks : List Kd} {j j' : Nat}, (∀ i, i < ks.length → f' (j' + i) = f (j + i)) → (∀ i, i < ks.length → g' (j' + i) = g (j + i)) → cellsEq f' g' ks j' = cellsEq f g ks j
  | [], _, _, _, _ => rfl
  | k :: ks, j, j', h1, h2 => by
    have e1 := h1 0 (by simp)
    have e2 := h2 0 (by simp)
    rw [Nat.add_zero, Nat.add_zero] at e1 e2
    have ih := cellsEq_shift (f := f) (g := g) (f' := f') (g' := g') (ks := ks) (j := j + 1) (j' := j' + 1) (fun i hi => by
      have := h1 (i + 1) (by simp; omega)
      rw [Nat.add_right_comm, Nat.add_right_comm j]; simpa [Nat.add_assoc] using this) (fun i hi => by
      have := h2 (i + 1) (by simp; omega)
      rw [Nat.add_right_comm, Nat.add_right_comm j]; simpa [Nat.add_assoc] using this)
    simp only [cellsEq, e1, e2, ih]
/-- Structs in it may be compared. -/
def SubOK (P : Program) (w : World) (sub : TypeId → Option (List Kd)) (d : Nat) : Prop :=
  ∀ t l, sub t = some l → ∀ (xs ys : Array Value) (j : Nat) (r : Bool), cellsEq (fun i => xs[i]?) (fun i => ys[i]?) l j = some r → ∃ a b, (part t xs j).run P w = .ok a w ∧ (part t ys j).run P w = .ok b w ∧ (Op.equalIn (d + 1) t a b).run P w = .ok r w
theorem run_fields {d : Nat} {xs ys : Array Value} {sub : TypeId → Option (List Kd)} (hs : SubOK P w sub d) : ∀ {fs : List Field} {j : Nat} {ks : List Kd} {r : Bool}, kindsWith P sub j fs = some ks → cellsEq (fun i => xs[i]?) (fun i => ys[i]?) ks j = some r → (Op.eqFields (d + 1) xs ys fs).run P w = .ok r w
  | [], j, ks, r, h, he => by
    simp only [kindsWith, Option.some.injEq] at h
    subst h
    simp only [cellsEq, Option.some.injEq] at he
    subst he
    simp [Op.eqFields]
  | f :: fs, j, ks, r, h, he => by
    simp only [kindsWith] at h
    split at h
    · rename_i hn
      simp only [Bool.and_eq_true, bne_iff_ne, ne_eq, beq_iff_eq] at hn
      split at h
      · rename_i k h1
        split at h
        · rename_i ks' h2
          simp only [Option.some.injEq] at h
          subst h
          simp only [cellsEq] at he
          split at he
          · rename_i a b ha hb
            split at he
            · rename_i u v e1 e2
              simp only [Option.some.injEq] at he
              subst he
              have ih := run_fields hs h2 e2
              have q1 := part_kd w h1 ha
              have q2 := part_kd w h1 hb
              have q3 := run_kd w (d := d) h1 e1
              simp only [Op.eqFields, ne_eq, hn.1, not_false_eq_true, if_true, Sem.run_bind, hn.2, q1, q2, q3, Result.andThen_ok]
              cases u with
              | false => simp
              | true => simpa using ih
            · cases he
          · cases he
        · cases h
      · split at h
        · rename_i l h1
          split at h
          · rename_i ks' h2
            simp only [Option.some.injEq] at h
            subst h
            obtain ⟨u, v, e1, e2, rfl⟩ := cellsEq_app he
            have ih := run_fields hs h2 e2
            obtain ⟨a, b, q1, q2, q3⟩ := hs _ _ h1 xs ys j u e1
            simp only [Op.eqFields, ne_eq, hn.1, not_false_eq_true, if_true, Sem.run_bind, hn.2, q1, q2, q3, Result.andThen_ok]
            cases u with
            | false => simp
            | true => simpa using ih
          · cases h
        · cases h
    · cases h
theorem sub_ok : ∀ (n d : Nat), SubOK P w (subKinds P n) (d + n)
  | 0, _ => fun _ _ h => by cases h
  | n + 1, d => fun t l h xs ys j r he => by
    simp only [subKinds] at h
    split at h
    · rename_i fs i hu hi
      split at h
      · rename_i hp
        split at h
        · rename_i ks hk
          split at h
          · rename_i hz
            simp only [Option.some.injEq] at h
            subst h
            have hz : i.size = ks.length := by simpa using hz
            have hp : P.stoodInHeld t = false := by simpa using hp
            have ha : (isAgg t).run P w = .ok true w := by simp [isAgg, run_underlying hu]
            have hsz : (sizeOf t).run P w = .ok i.size w := by simp [sizeOf, typeInfo, hi, Result.andThen]
            have hpart : ∀ zs : Array Value, (part t zs j).run P w = .ok (.agg (zs.extract j (j + i.size))) w := fun zs => by simp [part, ha, hsz]
            refine ⟨_, _, hpart xs, hpart ys, ?_⟩
            have hf : P.fieldsOf t = fs := by unfold Program.fieldsOf; rw [hu]
            have get : ∀ zs : Array Value, ∀ k, k < ks.length → (zs.extract j (j + i.size))[0 + k]? = zs[j + k]? := fun zs k hk => by
              rw [Array.getElem?_extract, Nat.zero_add]
              by_cases hj : j + k < zs.size
              · rw [if_pos (by omega)]
              · rw [if_neg (by omega), Array.getElem?_eq_none (by omega)]
            have he' : cellsEq (fun k => (xs.extract j (j + i.size))[k]?) (fun k => (ys.extract j (j + i.size))[k]?) ks 0 = some r := by
              rw [← he]
              exact cellsEq_shift (fun k hk => get xs k hk) fun k hk => get ys k hk
            have hq := run_equalIn_struct w (d + (n + 1)) t (xs.extract j (j + i.size)) (ys.extract j (j + i.size)) (by rw [hf]; exact hu) hp
            rw [hf] at hq
            rw [hq]
            exact run_fields w (d := d + n) (sub_ok n d) hk he'
          · cases h
        · cases h
      · cases h
    · cases h
theorem run_flatEq {op : BinOp} {t : TypeId} {ks : List Kd} {xs ys : Array Value} {r neg : Bool} (ho : op = if neg then .neq else .eql) (h : flatEq P t = some ks) (he : cellsEq (fun i => xs[i]?) (fun i => ys[i]?) ks 0 = some r) :
    (binOp op t (.agg xs) (.agg ys)).run P w = .ok (.bool (if neg then !r else r)) w ∧ ∀ x y, (eqGuard op t x y (.agg xs) (.agg ys)).run P w = .ok () w := by
  unfold flatEq at h
  split at h
  · rename_i fs hu
    split at h
    · rename_i hc
      simp only [Bool.and_eq_true, Bool.not_eq_true'] at hc
      have hf : P.fieldsOf t = fs := by unfold Program.fieldsOf; rw [hu]
      have hq := run_equalIn_struct w 9999 t xs ys (by rw [hf]; exact hu) hc.1
      rw [hf, run_fields w (d := 9998) (sub_ok w 4 9994) h he] at hq
      refine ⟨?_, fun x y => run_eqGuard_agg w op t x y xs ys hc.2⟩
      subst ho
      cases neg with
      | false => simp only [Bool.false_eq_true, if_false]; rw [run_eql_struct, hq]; rfl
      | true => simp only [if_true]; rw [run_neq_struct, hq]; rfl
    · cases h
  · cases h
end
end Go.Proofs.Ytlglifgnklngfaa
