/-
  What the program's operations are for the states: their sizes and places looked up; and that they do so (1).
-/
import Derived.Test.YtlglifgnklngfaaTrC
namespace Go.Proofs.Ytlglifgnklngfaa
open Go.RowKit

def zOf (P : Program) (t : TypeId) : Option (Nat × List Value × Nat) :=
  match P.info? t with
  | some i => match i.zero with
    | some z => if z.cells.size = i.size ∧ z.cells.all Value.oneCell' = true ∧ 0 < i.size then some (i.size, z.cells.toList, i.bytes) else none
    | none => none
  | none => none

def aggT (P : Program) (t : TypeId) : Option Bool :=
  match P.underlying t with
  | some (.struct _) | some (.array _ _) => some true
  | some _ => some false
  | none => none

def bparts (P : Program) (fs : Array Field) (tot : Nat) : List (Nat × Operand) → Option (List (Nat × Nat × Operand))
  | [] => some []
  | (k, x) :: ps => match fs[k]? with
    | some f => match P.info? f.type with
      | some j => if f.offset + j.size ≤ tot ∧ 0 < j.size then (bparts P fs tot ps).map ((f.offset, j.size, x) :: ·) else none
      | none => none
    | none => none

/-- The type's nil, and which of them. -/
def nilOf (P : Program) (t : TypeId) : Option (Nat × Value) := match P.underlying t with
  | some (.pointer _) => some (0, .pointer none)
  | some (.interface _) => some (1, .nilIface)
  | some (.func ..) => some (2, .nilFunc)
  | some (.slice _) => some (3, .slice none 0 0)
  | _ => none
def isConst : Operand → Value → Bool
  | .const (.pointer none), .pointer none => true
  | .const .nilIface, .nilIface => true
  | .const .nilFunc, .nilFunc => true
  | .const (.slice none 0 0), .slice none 0 0 => true
  | _, _ => false
def nilQ (P : Program) (neg : Bool) (t : TypeId) (x y : Operand) : Option AOp := match nilOf P t with
  | some (kd, nl) => if isConst y nl = true then some (.pure (.nilq kd neg) [x]) else if isConst x nl = true then some (.pure (.nilq kd neg) [y]) else none
  | none => none
theorem nilQ_pure {P : Program} {neg : Bool} {t : TypeId} {x y : Operand} {ao : AOp} (h : nilQ P neg t x y = some ao) : ∃ kd z, ao = .pure (.nilq kd neg) [z] := by
  unfold nilQ at h
  split at h
  · split at h
    · cases h; exact ⟨_, _, rfl⟩
    · split at h
      · cases h; exact ⟨_, _, rfl⟩
      · cases h
  · cases h
/-- What an array is made of. -/
def aparts (sz tot : Nat) (ps : List (Nat × Operand)) : Option (List (Nat × Nat × Operand)) :=
  if ps.all (fun p => decide (p.1 * sz + sz ≤ tot)) = true then some (ps.map fun p => (p.1 * sz, sz, p.2)) else none
/-- What may stand behind a slice's elements. -/
def srcT (P : Program) (e t' : TypeId) : Bool := match P.underlying t' with
  | some (.slice e') => Nat.beq e' e
  | _ => false
/-- A text behind bytes. -/
def strT (P : Program) (e t' : TypeId) : Bool := match P.underlying t', P.info? e with
  | some .string, some i => match i.zero with
    | some (.int .u8 n) => n == 0 && (i.size == 1 && i.bytes == 1)
    | _ => false
  | _, _ => false
/-- What stands at a key that is not there, in a map of such elements. -/
def zOfM (P : Program) (t : TypeId) : Option (Bool × Nat × List Value) :=
  match P.info? t with
  | some i => match i.zero with
    | some (.agg cs) => if cs.size = i.size ∧ cs.all Value.oneCell' = true ∧ aggT P t = some true then some (true, cs.size, cs.toList) else none
    | some v => if v.oneCell' = true ∧ aggT P t = some false then some (false, 1, [v]) else none
    | none => none
  | none => none
/-- The keys' kind, and the elements. -/
def mapOf (P : Program) (t : TypeId) : Option (KK × Bool × Nat × List Value) :=
  match P.underlying t with
  | some (.map k e) => match zOfM P e with
    | some z => match P.underlying k with
      | some (.int q) => some (.int q, z)
      | some .string => some (.str, z)
      | some .bool => some (.bool, z)
      | _ => none
    | none => none
  | _ => none
def comp (P : Program) (o : Oper) : Option AOp :=
  match o.op with
  | .makeMap t r => (mapOf P t).map fun z => .mkmap t z.2.1 z.2.2.1 r
  | .lookup t x i ok => (mapOf P t).map fun z => .mlook z.1 ok z.2.1 z.2.2.1 z.2.2.2 x i
  | .mapUpdate t m k x => (mapOf P t).map fun z => .mset z.1 z.2.1 z.2.2.1 m k x
  | .insert t m k x => (mapOf P t).map fun z => .mset z.1 z.2.1 z.2.2.1 m k x
  | .mapEntry t m k => (mapOf P t).map fun z => .ment z.1 z.2.1 z.2.2.1 z.2.2.2 m k
  | .entryStore t m s x => (mapOf P t).map fun z => .mest z.2.1 z.2.2.1 m s x
  | .nilCheck x => some (.pure .nilc [x])
  | .index t x i => match P.underlying t with
    | some .string => some (.pure .sidx [x, i])
    | some (.array n e) => match aggT P e, P.info? e with
      | some false, some j => if j.size = 1 then some (.pure (.aidx false 1 n) [x, i]) else none
      | some true, some j => some (.pure (.aidx true j.size n) [x, i])
      | _, _ => none
    | _ => none
  | .move x | .assign x => some (.mov x)
  | .pick c x y => some (.pick c x y)
  | .alloc e => (zOf P e).map fun z => .alloc e z.1 z.2.1
  | .box e x => (zOf P e).map fun z => .box e z.1 x
  | .build t ps => match P.underlying t, zOf P t with
    | some (.struct fs), some z => if fs.toList.all (fun f => (P.info? f.type).isSome) = true then (bparts P fs z.1 ps.toList).map fun ps => .build z.1 z.2.1 ps else none
    | some (.array _ e), some z => match P.info? e with
      | some j => if 0 < j.size then (aparts j.size z.1 ps.toList).map fun ps => .build z.1 z.2.1 ps else none
      | none => none
    | _, _ => none
  | .buildSlice t len ps => match P.underlying t with
    | some (.slice e) => match zOf P e with
      | some z => if len * z.1 ≤ 2 ^ 24 ∧ ps.toList.map (·.1) = List.range len then some (.bslice e z.1 len z.2.1 ps.toList) else none
      | none => none
    | _ => none
  | .load t x => match aggT P t, P.info? t with
    | some true, some i => some (.load true i.size x)
    | some false, some _ => some (.load false 1 x)
    | _, _ => none
  | .store t y x => match P.info? t with
    | some i => if i.size = 0 then none else some (.store i.size y x)
    | none => none
  | .fieldAddr s x k => match P.underlying s with
    | some (.struct fs) => match fs[k]? with
      | some f => match P.info? f.type with
        | some j => if j.size = 0 then none else some (.faddr f.offset x)
        | none => none
      | none => none
    | _ => none
  | .indexAddr t x i => match P.underlying t with
    | some (.slice e) => match P.info? e with
      | some j => if j.size = 0 then none else some (.iaddr j.size x i)
      | none => none
    | some (.array n e) => match P.info? e with
      | some j => if j.size = 1 then some (.pure (.gidx n) [x, i]) else none
      | none => none
    | _ => none
  | .binOp op t x y _ => match op, P.underlying t with
    | .eql, some .bool => some (.beq false x y)
    | .neq, some .bool => some (.beq true x y)
    | .eql, some (.pointer _) | .eql, some (.interface _) | .eql, some (.func ..) | .eql, some (.slice _) => nilQ P false t x y
    | .neq, some (.pointer _) | .neq, some (.interface _) | .neq, some (.func ..) | .neq, some (.slice _) => nilQ P true t x y
    | .eql, some (.struct _) => (flatEq P t).map (AOp.seq false · x y)
    | .neq, some (.struct _) => (flatEq P t).map (AOp.seq true · x y)
    | _, some (.int _) | _, some .string => some (.bin op x y)
    | _, _ => none
  | .unOp .not _ x => some (.not x)
  | .unOp .neg _ x => some (.pure .neg [x])
  | .unOp .xor _ x => some (.pure .com [x])
  | .convert src dst x => match P.underlying src, P.underlying dst with
    | some (.int _), some (.int k) => some (.conv k x)
    | some (.slice e), some .string => match P.underlying e, P.info? e with
      | some (.int .u8), some j => if j.size = 1 then some (.b2s x) else none
      | _, _ => none
    | some .string, some (.slice e) => match P.underlying e, P.info? e with
      | some (.int .u8), some j => if j.size = 1 then some (.s2b e x) else none
      | _, _ => none
    | some (.slice e), some (.slice _) => match P.underlying e with
      | some (.int .u8) => if src = dst then some (.b2b x) else none
      | _ => none
    | _, _ => none
  | .field t x k => match P.underlying t with
    | some (.struct fs) => match fs[k]? with
      | some f => match aggT P f.type, P.info? f.type with
        | some true, some j => some (.fld true f.offset j.size x)
        | some false, some _ => some (.fld false f.offset 1 x)
        | _, _ => none
      | none => none
    | _ => none
  | .slice t x lo hi none => match P.underlying t with
    | some (.slice e) => match P.info? e with
      | some j => if j.size = 0 then none else some (.slc j.size x lo hi)
      | none => none
    | some .string => some (.slc 0 x lo hi)
    | _ => none
  | .slice t x lo hi (some mx) => match P.underlying t with
    | some (.slice e) => match P.info? e with
      | some j => if j.size = 0 then none else some (.slc3 j.size x lo hi (some mx))
      | none => none
    | _ => none
  | .makeSlice t l c => match P.underlying t with
    | some (.slice e) => (zOf P e).map fun z => .make (P.underlyingId t != t) e z.1 z.2.1 z.2.2 l c
    | _ => none
  | .extract x i => some (.ext x i)
  | .makeInterface t x => match P.underlying t with
    | some (.interface _) | none => none
    | _ => some (.ifc t x)
  | .makeFunc (.func f) fi ca => some (.fn f fi.toList ca.toList)
  | .call c => match c.callee with
    | .value (.func f) => some (.call f c.args.toList)
    | .value g => some (.callv g c.args.toList)
    | .builtin .len => match c.args.toList, c.argTypes.toList with
      | [x], [t] => match P.underlying t with
        | some (.slice _) => some (.len false x)
        | some .string => some (.len true x)
        | some (.map _ _) => some (.mlen x)
        | _ => none
      | _, _ => none
    | .builtin .min => match c.args.toList with
      | [x, y] => some (.mm false x y)
      | [x, y, z] => some (.pure (.mm3 false) [x, y, z])
      | _ => none
    | .builtin .max => match c.args.toList with
      | [x, y] => some (.mm true x y)
      | [x, y, z] => some (.pure (.mm3 true) [x, y, z])
      | _ => none
    | .builtin .copy => match c.args.toList, c.argTypes.toList with
      | [d, s], [t, _] => match P.underlying t with
          | some (.slice e) => match P.info? e with
            | some j => if j.size = 0 then none else some (.copy j.size d s)
            | none => none
          | _ => none
      | _, _ => none
    | .builtin .cap => match c.args.toList, c.argTypes.toList with
      | [x], [t] => match P.underlying t with
          | some (.slice _) => some (.pure .capn [x])
          | _ => none
      | _, _ => none
    | .builtin .clear => match c.args.toList, c.argTypes.toList with
      | [x], [t] => match P.underlying t with
          | some (.slice e) => (zOf P e).map fun z => .clr z.1 z.2.1 x
          | _ => none
      | _, _ => none
    | .builtin .append => match c.args.toList, c.argTypes.toList with
      | [s, x], [t, t'] => match P.underlying t with
          | some (.slice e) => if srcT P e t' = true then (zOf P e).map fun z => .app e z.1 z.2.1 z.2.2 s x else if strT P e t' = true then some (.apps e s x) else match P.underlying t' with
            | some (.int _) => (zOf P e).map fun z => .appz e z.1 z.2.1 z.2.2 s x
            | _ => none
          | _ => none
      | _, _ => none
    | _ => none
  | _ => none

/-- (What has no meaning yet fails where it is come to.) -/
def comp1 (P : Program) (o : Oper) : Option AOp := some ((comp P o).getD .bad)

def St.upd (σ : St) (d : Option Nat) (v : V) (ups : List (Nat × Ob)) : St :=
  { σ with tm := match d with | some d => (d, v) :: σ.tm | none => σ.tm, ob := ups ++ σ.ob }

section
variable {P : Program} {E : Env} {ρ : Pl} {σ : St} {a : Act} {w : World} {o : Oper} {fr : Nat} {K : Act → World → Prop} {Q : Exit → Act → World → Prop}

theorem upd_nil (d : Nat) (v : V) : σ.upd (some d) v [] = σ.put d v := rfl

/-- What an operation must come to. -/
def Comes' (P : Program) (E : Env) (σ' : St) (o : Oper) (a : Act) (w : World) : Prop :=
  ∃ x w' ρ', (execOp a.eval o).run P w = .ok x w' ∧ ((∃ u, x = .value u ∧ Rel E ρ' σ' (a.put o.dst u) w') ∨ (x = .skip ∧ Rel E ρ' σ' (a.put o.dst undef) w'))

theorem Comes'.wp {σ' : St} (h : Comes' P E σ' o a w) (k : ∀ ρ' a' w', Rel E ρ' σ' a' w' → K a' w') : o.wp P a w K Q := by
  obtain ⟨x, w', ρ', hr, h⟩ := h
  unfold Oper.wp
  rw [hr]
  rcases h with ⟨u, rfl, h⟩ | ⟨rfl, h⟩
  · exact k _ _ _ h
  · exact k _ _ _ h

theorem Rel.putO (h : Rel E ρ σ a w) {d : Option Nat} (hd : ∀ t, d = some t → t < σ.N) {v : V} {x : Value} (hv : v.rel E.b ρ σ.O w x) : Rel E ρ (σ.upd d v []) (a.put d x) w := by
  cases d with
  | none => exact h
  | some d => exact h.put (hd d rfl) hv

theorem aev_rel (h : Rel E ρ σ a w) (x : Operand) : (aev σ x).rel E.b ρ σ.O w (a.eval x) := by
  cases x with
  | tmp t => exact h.tm t
  | const v => exact rfl
  | global g => exact rfl
  | func f => exact ⟨#[], #[], rfl, rfl, rfl, fun j hj => by omega, fun j hj => by omega⟩

/-- An operation that turns no memory. -/
theorem comes_value (h : Rel E ρ σ a w) (hd : ∀ t, o.dst = some t → t < σ.N) {v : V} {x : Value} (hr : (execOp a.eval o).run P w = .ok (.value x) w) (hv : v.rel E.b ρ σ.O w x) : Comes' P E (σ.upd o.dst v []) o a w :=
  ⟨_, w, ρ, hr, .inl ⟨x, rfl, h.putO hd hv⟩⟩

theorem val_rel {v : Value} {x : Value} {b : Nat → Nat → Prop} {O : Ow} (h : (V.im (.val v)).rel b ρ O w x) : x = v := h

theorem mov_ok (h : Rel E ρ σ a w) (hd : ∀ t, o.dst = some t → t < σ.N) (x : Operand) (ho : o.op = .move x ∨ o.op = .assign x) {rd v ups} (k : (asem σ fr (.mov x)).wp P σ.O fr fun a b c => a = rd ∧ b = v ∧ c = ups) : Comes' P E (σ.upd o.dst v ups) o a w := by
  obtain ⟨-, rfl, rfl⟩ := k
  refine comes_value h hd ?_ (aev_rel h x)
  rcases ho with ho | ho <;> simp [execOp, ho]

theorem pick_ok (h : Rel E ρ σ a w) (hd : ∀ t, o.dst = some t → t < σ.N) (c x y : Operand) (ho : o.op = .pick c x y) {rd v ups} (k : (asem σ fr (.pick c x y)).wp P σ.O fr fun a b c => a = rd ∧ b = v ∧ c = ups) : Comes' P E (σ.upd o.dst v ups) o a w := by
  have hc := aev_rel h c
  simp only [asem] at k
  split at k
  · rename_i b e
    rw [e] at hc
    have hc' : a.eval c = .bool b := hc
    obtain ⟨k1, k2⟩ := k
    cases b with
    | true =>
      obtain ⟨-, rfl, rfl⟩ := k1 rfl
      exact comes_value h hd (by simp [execOp, ho, hc', asBool]) (aev_rel h x)
    | false =>
      obtain ⟨-, rfl, rfl⟩ := k2 rfl
      exact comes_value h hd (by simp [execOp, ho, hc', asBool]) (aev_rel h y)
  · exact k.1.elim

theorem aint_ok {op : BinOp} {k : IntKind} {x y : Int} {t : TypeId} (w : World) (h1 : op ≠ .shl) (h2 : op ≠ .shr) (h : (aint op k x y).1) : (binOp op t (.int k x) (.int k y)).run P w = .ok (aint op k x y).2 w := by
  cases op <;> simp_all [aint, binOp, Op.intArith, Op.intDiv, Op.intBits, Op.intCmp]

theorem abin_ok {op : BinOp} {x y : Value} {t : TypeId} (w : World) (h : (abin op x y).1) : (binOp op t x y).run P w = .ok (abin op x y).2 w := by
  cases x <;> cases y <;> simp only [abin] at h <;> first | exact h.elim | skip
  · rename_i k x k' y
    simp only [abin]
    split at h
    · simp only [binOp, Op.shift]
      have h' : 0 ≤ y := h
      rw [if_neg (by omega)]
      rfl
    · simp only [binOp, Op.shift]
      have h' : 0 ≤ y := h
      rw [if_neg (by omega)]
      rfl
    · rename_i e1 e2
      split at h
      · rename_i e; subst e
        simp only [if_true]
        exact aint_ok w e1 e2 h
      · exact h.elim
  · rename_i x y
    simp only [abin] at h ⊢
    cases op <;> simp only [astr] at h <;> first | exact h.elim | skip
    all_goals simp [astr, binOp, Op.stringOp]
    have h' : ¬ ((x.size + y.size : Nat) : Int) > IntKind.i64.max := by
      have : IntKind.i64.max = 9223372036854775807 := by decide
      rw [this]; have h2 : x.size + y.size ≤ 9223372036854775807 := h; omega
    simp at h'
    exact h'
end
end Go.Proofs.Ytlglifgnklngfaa
