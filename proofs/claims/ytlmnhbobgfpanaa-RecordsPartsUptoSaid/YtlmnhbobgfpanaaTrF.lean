/-
  What the program's operations are for the states: their sizes and places looked up; and that they do so (1).
-/
import Derived.Test.YtlmnhbobgfpanaaTrC
namespace Go.Proofs.Ytlmnhbobgfpanaa
open Go.RowKit
section

def zOf (P : Program) (t : TypeId) : Option (Nat × List Value × Nat) :=
  match P.info? t with
  | some i => match i.zero with
    | some z => if z.cells.size = i.size ∧ z.cells.all Value.oneCell' = true ∧ 0 < i.size then some (i.size, z.cells.toList, i.bytes) else none
    | none => none
  | none => none

def aggT (P : Program) (t : TypeId) : Option Bool :=
  match P.underlying t with
  | some (.struct _) | some (.array _ _) => some true
  | some _ => some false
  | none => none

def bparts (P : Program) (fs : Array Field) (tot : Nat) : List (Nat × Operand) → Option (List (Nat × Nat × Operand))
  | [] => some []
  | (k, x) :: ps => match fs[k]? with
    | some f => match P.info? f.type with
      | some j => if f.offset + j.size ≤ tot ∧ 0 < j.size then (bparts P fs tot ps).map ((f.offset, j.size, x) :: ·) else none
      | none => none
    | none => none

def nilOf (P : Program) (t : TypeId) : Option (Nat × Value) := match P.underlying t with
  | some (.pointer _) => some (0, .pointer none)
  | some (.interface _) => some (1, .nilIface)
  | some (.func ..) => some (2, .nilFunc)
  | some (.slice _) => some (3, .slice none 0 0)
  | _ => none
def isConst : Operand → Value → Bool
  | .const (.pointer none), .pointer none => true
  | .const .nilIface, .nilIface => true
  | .const .nilFunc, .nilFunc => true
  | .const (.slice none 0 0), .slice none 0 0 => true
  | _, _ => false
def nilQ (P : Program) (neg : Bool) (t : TypeId) (x y : Operand) : Option AOp := match nilOf P t with
  | some (kd, nl) => if isConst y nl = true then some (.pure (.nilq kd neg) [x]) else if isConst x nl = true then some (.pure (.nilq kd neg) [y]) else none
  | none => none
theorem nilQ_pure {P : Program} {neg : Bool} {t : TypeId} {x y : Operand} {ao : AOp} (h : nilQ P neg t x y = some ao) : ∃ kd z, ao = .pure (.nilq kd neg) [z] := by
  unfold nilQ at h
  split at h
  · split at h
    · cases h; exact ⟨_, _, rfl⟩
    · split at h
      · cases h; exact ⟨_, _, rfl⟩
      · cases h
  · cases h
def aparts (sz tot : Nat) (ps : List (Nat × Operand)) : Option (List (Nat × Nat × Operand)) :=
  if ps.all (fun p => decide (p.1 * sz + sz ≤ tot)) = true then some (ps.map fun p => (p.1 * sz, sz, p.2)) else none
def srcT (P : Program) (e t' : TypeId) : Bool := match P.underlying t' with
  | some (.slice e') => Nat.beq e' e
  | _ => false
def isFn (P : Program) (e : TypeId) : Bool := match P.underlying e with
  | some (.func ..) => true
  | _ => false
def strT (P : Program) (e t' : TypeId) : Bool := match P.underlying t', P.info? e with
  | some .string, some i => match i.zero with
    | some (.int .u8 n) => n == 0 && (i.size == 1 && i.bytes == 1)
    | _ => false
  | _, _ => false
def zOfM (P : Program) (t : TypeId) : Option (Bool × Nat × List Value) :=
  match P.info? t with
  | some i => match i.zero with
    | some (.agg cs) => if cs.size = i.size ∧ cs.all Value.oneCell' = true ∧ aggT P t = some true then some (true, cs.size, cs.toList) else none
    | some v => if v.oneCell' = true ∧ aggT P t = some false then some (false, 1, [v]) else none
    | none => none
  | none => none
def mapOf (P : Program) (t : TypeId) : Option (KK × Bool × Nat × List Value) :=
  match P.underlying t with
  | some (.map k e) => match zOfM P e with
    | some z => match P.underlying k with
      | some (.int q) => some (.int q, z)
      | some .string => some (.str, z)
      | some .bool => some (.bool, z)
      | _ => none
    | none => none
  | _ => none
def comp (P : Program) (o : Oper) : Option AOp :=
  match o.op with
  | .makeMap t r => (mapOf P t).map fun z => .mkmap t z.2.1 z.2.2.1 r
  | .lookup t x i ok => (mapOf P t).map fun z => .mlook z.1 ok z.2.1 z.2.2.1 z.2.2.2 x i
  | .mapUpdate t m k x => (mapOf P t).map fun z => .mset z.1 z.2.1 z.2.2.1 m k x
  | .insert t m k x => (mapOf P t).map fun z => .mset z.1 z.2.1 z.2.2.1 m k x
  | .mapEntry t m k => (mapOf P t).map fun z => .ment z.1 z.2.1 z.2.2.1 z.2.2.2 m k
  | .entryStore t m s x => (mapOf P t).map fun z => .mest z.2.1 z.2.2.1 m s x
  | .nilCheck x => some (.pure .nilc [x])
  | .index t x i => match P.underlying t with
    | some .string => some (.pure .sidx [x, i])
    | some (.array n e) => match aggT P e, P.info? e with
      | some false, some j => if j.size = 1 then some (.pure (.aidx false 1 n) [x, i]) else none
      | some true, some j => some (.pure (.aidx true j.size n) [x, i])
      | _, _ => none
    | _ => none
  | .move x | .assign x => some (.mov x)
  | .pick c x y => some (.pick c x y)
  | .alloc e => (zOf P e).map fun z => .alloc e z.1 z.2.1
  | .box e x => (zOf P e).map fun z => .box e z.1 x
  | .build t ps => match P.underlying t, zOf P t with
    | some (.struct fs), some z => if fs.toList.all (fun f => (P.info? f.type).isSome) = true then (bparts P fs z.1 ps.toList).map fun ps => .build z.1 z.2.1 ps else none
    | some (.array _ e), some z => match P.info? e with
      | some j => if 0 < j.size then (aparts j.size z.1 ps.toList).map fun ps => .build z.1 z.2.1 ps else none
      | none => none
    | _, _ => none
  | .buildSlice t len ps => match P.underlying t with
    | some (.slice e) => match zOf P e with
      | some z => if len * z.1 ≤ 2 ^ 24 ∧ ps.toList.map (·.1) = List.range len then (if isFn P e && (Nat.beq z.1 1 && Nat.blt 0 len) then some (.cslice e len ps.toList) else some (.bslice e z.1 len z.2.1 ps.toList)) else none
      | none => none
    | _ => none
  | .load t x => match aggT P t, P.info? t with
    | some true, some i => some (.load true i.size x)
    | some false, some _ => some (.load false 1 x)
    | _, _ => none
  | .store t y x => match P.info? t with
    | some i => if i.size = 0 then none else some (.store i.size y x)
    | none => none
  | .fieldAddr s x k => match P.underlying s with
    | some (.struct fs) => match fs[k]? with
      | some f => match P.info? f.type with
        | some j => if j.size = 0 then none else some (.faddr f.offset x)
        | none => none
      | none => none
    | _ => none
  | .indexAddr t x i => match P.underlying t with
    | some (.slice e) => match P.info? e with
      | some j => if j.size = 0 then none else some (.iaddr j.size x i)
      | none => none
    | some (.array n e) => match P.info? e with
      | some j => if j.size = 1 then some (.pure (.gidx n) [x, i]) else none
      | none => none
    | _ => none
  | .binOp op t x y _ => match op, P.underlying t with
    | .eql, some .bool => some (.beq false x y)
    | .neq, some .bool => some (.beq true x y)
    | .eql, some (.pointer _) | .eql, some (.interface _) | .eql, some (.func ..) | .eql, some (.slice _) => nilQ P false t x y
    | .neq, some (.pointer _) | .neq, some (.interface _) | .neq, some (.func ..) | .neq, some (.slice _) => nilQ P true t x y
    | .eql, some (.struct _) => (flatEq P t).map (AOp.seq false · x y)
    | .neq, some (.struct _) => (flatEq P t).map (AOp.seq true · x y)
    | _, some (.int _) | _, some .string => some (.bin op x y)
    | _, _ => none
  | .unOp .not _ x => some (.not x)
  | .unOp .neg _ x => some (.pure .neg [x])
  | .unOp .xor _ x => some (.pure .com [x])
  | .convert src dst x => match P.underlying src, P.underlying dst with
    | some (.int _), some (.int k) => some (.conv k x)
    | some (.slice e), some .string => match P.underlying e, P.info? e with
      | some (.int .u8), some j => if j.size = 1 then some (.b2s x) else none
      | _, _ => none
    | some .string, some (.slice e) => match P.underlying e, P.info? e with
      | some (.int .u8), some j => if j.size = 1 then some (.s2b e x) else none
      | _, _ => none
    | some (.slice e), some (.slice _) => match P.underlying e with
      | some (.int .u8) => if src = dst then some (.b2b x) else none
      | _ => none
    | _, _ => none
  | .field t x k => match P.underlying t with
    | some (.struct fs) => match fs[k]? with
      | some f => match aggT P f.type, P.info? f.type with
        | some true, some j => some (.fld true f.offset j.size x)
        | some false, some _ => some (.fld false f.offset 1 x)
        | _, _ => none
      | none => none
    | _ => none
  | .slice t x lo hi none => match P.underlying t with
    | some (.slice e) => match P.info? e with
      | some j => if j.size = 0 then none else some (.slc j.size x lo hi)
      | none => none
    | some .string => some (.slc 0 x lo hi)
    | _ => none
  | .slice t x lo hi (some mx) => match P.underlying t with
    | some (.slice e) => match P.info? e with
      | some j => if j.size = 0 then none else some (.slc3 j.size x lo hi (some mx))
      | none => none
    | _ => none
  | .makeSlice t l c => match P.underlying t with
    | some (.slice e) => (zOf P e).map fun z => .make (P.underlyingId t != t) e z.1 z.2.1 z.2.2 l c
    | _ => none
  | .extract x i => some (.ext x i)
  | .makeInterface t x => match P.underlying t with
    | some (.interface _) | none => none
    | _ => some (.ifc t x)
  | .makeFunc (.func f) fi ca => some (.fn f fi.toList ca.toList)
  | .call c => match c.callee with
    | .value (.func f) => some (.call f c.args.toList)
    | .value g => some (.callv g c.args.toList)
    | .builtin .len => match c.args.toList, c.argTypes.toList with
      | [x], [t] => match P.underlying t with
        | some (.slice _) => some (.len false x)
        | some .string => some (.len true x)
        | some (.map _ _) => some (.mlen x)
        | _ => none
      | _, _ => none
    | .builtin .min => match c.args.toList with
      | [x, y] => some (.mm false x y)
      | [x, y, z] => some (.pure (.mm3 false) [x, y, z])
      | _ => none
    | .builtin .max => match c.args.toList with
      | [x, y] => some (.mm true x y)
      | [x, y, z] => some (.pure (.mm3 true) [x, y, z])
      | _ => none
    | .builtin .copy => match c.args.toList, c.argTypes.toList with
      | [d, s], [t, _] => match P.underlying t with
          | some (.slice e) => match P.info? e with
            | some j => if j.size = 0 then none else some (.copy j.size d s)
            | none => none
          | _ => none
      | _, _ => none
    | .builtin .cap => match c.args.toList, c.argTypes.toList with
      | [x], [t] => match P.underlying t with
          | some (.slice _) => some (.pure .capn [x])
          | _ => none
      | _, _ => none
    | .builtin .clear => match c.args.toList, c.argTypes.toList with
      | [x], [t] => match P.underlying t with
          | some (.slice e) => (zOf P e).map fun z => .clr z.1 z.2.1 x
          | _ => none
      | _, _ => none
    | .builtin .append => match c.args.toList, c.argTypes.toList with
      | [s, x], [t, t'] => match P.underlying t with
          | some (.slice e) => if srcT P e t' = true then (zOf P e).map fun z => .app e z.1 z.2.1 z.2.2 s x else if strT P e t' = true then some (.apps e s x) else match P.underlying t' with
            | some (.int _) => (zOf P e).map fun z => .appz e z.1 z.2.1 z.2.2 s x
            | _ => none
          | _ => none
      | _, _ => none
    | _ => none
  | _ => none

def comp1 (P : Program) (o : Oper) : Option AOp := some ((comp P o).getD .bad)

def St.upd (σ : St) (d : Option Nat) (v : V) (ups : List (Nat × Ob)) : St :=
  { σ with tm := match d with | some d => (d, v) :: σ.tm | none => σ.tm, ob := ups ++ σ.ob }

section
variable {P : Program} {E : Env} {ρ : Pl} {σ : St} {a : Act} {w : World} {o : Oper} {fr : Nat} {K : Act → World → Prop} {Q : Exit → Act → World → Prop}

def Comes' (P : Program) (E : Env) (σ' : St) (o : Oper) (a : Act) (w : World) : Prop :=
  ∃ x w' ρ', (execOp a.eval o).run P w = .ok x w' ∧ ((∃ u, x = .value u ∧ Rel E ρ' σ' (a.put o.dst u) w') ∨ (x = .skip ∧ Rel E ρ' σ' (a.put o.dst undef) w'))

theorem Comes'.wp {σ' : St} (h : Comes' P E σ' o a w) (k : ∀ ρ' a' w', Rel E ρ' σ' a' w' → K a' w') : o.wp P a w K Q := by
  obtain ⟨x, w', ρ', hr, h⟩ := h
  unfold Oper.wp
  rw [hr]
  rcases h with ⟨u, rfl, h⟩ | ⟨rfl, h⟩
  · exact k _ _ _ h
  · exact k _ _ _ h

theorem Rel.putO (h : Rel E ρ σ a w) {d : Option Nat} (hd : ∀ t, d = some t → t < σ.N) {v : V} {x : Value} (hv : v.rel E.b ρ σ.O w x) : Rel E ρ (σ.upd d v []) (a.put d x) w := by
  cases d with
  | none => exact h
  | some d => exact h.put (hd d rfl) hv

theorem aev_rel (h : Rel E ρ σ a w) (x : Operand) : (aev σ x).rel E.b ρ σ.O w (a.eval x) := by
  cases x with
  | tmp t => exact h.tm t
  | const v => exact rfl
  | global g => exact rfl
  | func f => exact ⟨#[], #[], rfl, rfl, rfl, fun j hj => by omega, fun j hj => by omega⟩

theorem comes_value (h : Rel E ρ σ a w) (hd : ∀ t, o.dst = some t → t < σ.N) {v : V} {x : Value} (hr : (execOp a.eval o).run P w = .ok (.value x) w) (hv : v.rel E.b ρ σ.O w x) : Comes' P E (σ.upd o.dst v []) o a w :=
  ⟨_, w, ρ, hr, .inl ⟨x, rfl, h.putO hd hv⟩⟩

theorem mov_ok (h : Rel E ρ σ a w) (hd : ∀ t, o.dst = some t → t < σ.N) (x : Operand) (ho : o.op = .move x ∨ o.op = .assign x) {rd v ups} (k : (asem σ fr (.mov x)).wp P σ.O fr fun a b c => a = rd ∧ b = v ∧ c = ups) : Comes' P E (σ.upd o.dst v ups) o a w := by
  obtain ⟨-, rfl, rfl⟩ := k
  refine comes_value h hd ?_ (aev_rel h x)
  rcases ho with ho | ho <;> simp [execOp, ho]

theorem pick_ok (h : Rel E ρ σ a w) (hd : ∀ t, o.dst = some t → t < σ.N) (c x y : Operand) (ho : o.op = .pick c x y) {rd v ups} (k : (asem σ fr (.pick c x y)).wp P σ.O fr fun a b c => a = rd ∧ b = v ∧ c = ups) : Comes' P E (σ.upd o.dst v ups) o a w := by
  have hc := aev_rel h c
  simp only [asem] at k
  split at k
  · rename_i b e
    rw [e] at hc
    have hc' : a.eval c = .bool b := hc
    obtain ⟨k1, k2⟩ := k
    cases b with
    | true =>
      obtain ⟨-, rfl, rfl⟩ := k1 rfl
      exact comes_value h hd (by simp [execOp, ho, hc', asBool]) (aev_rel h x)
    | false =>
      obtain ⟨-, rfl, rfl⟩ := k2 rfl
      exact comes_value h hd (by simp [execOp, ho, hc', asBool]) (aev_rel h y)
  · exact k.1.elim

theorem aint_ok {op : BinOp} {k : IntKind} {x y : Int} {t : TypeId} (w : World) (h1 : op ≠ .shl) (h2 : op ≠ .shr) (h : (aint op k x y).1) : (binOp op t (.int k x) (.int k y)).run P w = .ok (aint op k x y).2 w := by
  cases op <;> simp_all [aint, binOp, Op.intArith, Op.intDiv, Op.intBits, Op.intCmp]

theorem abin_ok {op : BinOp} {x y : Value} {t : TypeId} (w : World) (h : (abin op x y).1) : (binOp op t x y).run P w = .ok (abin op x y).2 w := by
  cases x <;> cases y <;> simp only [abin] at h <;> first | exact h.elim | skip
  · rename_i k x k' y
    simp only [abin]
    split at h
    · simp only [binOp, Op.shift]
      have h' : 0 ≤ y := h
      rw [if_neg (by omega)]
      rfl
    · simp only [binOp, Op.shift]
      have h' : 0 ≤ y := h
      rw [if_neg (by omega)]
      rfl
    · rename_i e1 e2
      split at h
      · rename_i e; subst e
        simp only [if_true]
        exact aint_ok w e1 e2 h
      · exact h.elim
  · rename_i x y
    simp only [abin] at h ⊢
    cases op <;> simp only [astr] at h <;> first | exact h.elim | skip
    all_goals simp [astr, binOp, Op.stringOp]
    have h' : ¬ ((x.size + y.size : Nat) : Int) > IntKind.i64.max := by
      have : IntKind.i64.max = 9223372036854775807 := by decide
      rw [this]; have h2 : x.size + y.size ≤ 9223372036854775807 := h; omega
    simp at h'
    exact h'
end
end
section

section
variable {P : Program} {E : Env} {ρ : Pl} {σ : St} {a : Act} {w : World} {o : Oper} {fr : Nat} {K : Act → World → Prop} {Q : Exit → Act → World → Prop}

theorem add_mk (g k j : Nat) : (⟨g, k, none⟩ : Addr).add j = ⟨g, k + j, none⟩ := by
  unfold Addr.add
  split
  · rename_i h; subst h; rfl
  · rfl
theorem add_add (ad : Addr) (k j : Nat) (h : ad.spot = none) : (ad.add k).add j = ad.add (k + j) := by
  obtain ⟨b, q, s⟩ := ad
  simp only at h
  subst h
  rw [add_mk, add_mk, add_mk, Nat.add_assoc]
theorem spot_of_cell {w : World} {ad : Addr} {u : Value} (h : w.cell? ad = some u) : ad.spot = none := by
  unfold World.cell? at h
  split at h
  · split at h
    · cases h
    · rename_i hs; simpa using hs
  · cases h
theorem cell_add (ad : Addr) (w : World) (k j : Nat) {u u' : Value} (h : w.cell? (ad.add k) = some u) (h' : w.cell? (ad.add (k + j)) = some u') : w.cell? ((ad.add k).add j) = some u' := by
  have hs := spot_of_cell h
  by_cases hk : k = 0
  · subst hk
    have e : ad.add 0 = ad := rfl
    rw [e] at hs ⊢
    rw [Nat.zero_add] at h'
    exact h'
  · by_cases hj : j = 0
    · subst hj; exact h'
    · have : (ad.add k).add j = ad.add (k + j) := by
        simp only [Addr.add, if_neg hk, if_neg hj, if_neg (show k + j ≠ 0 by omega)]
        congr 1
        omega
      rw [this]; exact h'

theorem run_loadVar_agg {t : TypeId} {i : TypeInfo} (h : aggT P t = some true) (hi : P.info? t = some i) (ad : Addr) (g : Nat → Value) (hc : ∀ j, j < i.size → w.cell? (ad.add j) = some (g j)) :
    (loadVar t ad).run P w = .ok (.agg ((List.range i.size).map g).toArray) w := by
  have hl := run_loadCells (P := P) w ad i.size g hc
  unfold aggT at h
  cases hu : P.underlying t with
  | none => rw [hu] at h; cases h
  | some d =>
    rw [hu] at h
    cases d <;> simp only at h <;> first | (simp at h; done) | simp [loadVar, isAgg, run_underlying hu, sizeOf, typeInfo, hi, hl, Result.andThen]
theorem run_loadVar_one {t : TypeId} (h : aggT P t = some false) (ad : Addr) {v : Value} (hc : w.cell? ad = some v) : (loadVar t ad).run P w = .ok v w := by
  unfold aggT at h
  cases hu : P.underlying t with
  | none => rw [hu] at h; cases h
  | some d =>
    rw [hu] at h
    cases d <;> simp only at h <;> first | (simp at h; done) | simp [loadVar, isAgg, run_underlying hu, hc, Result.andThen]

theorem getD_range (f : Nat → Value) (n j : Nat) (h : j < n) : ((List.range n).map f).toArray.getD j undef = f j := by
  simp [h]

theorem getD_some {cs : Array Value} {k : Nat} (h : k < cs.size) : cs[k]? = some (cs.getD k undef) := by
  simp [h]

theorem load_run {t : TypeId} {x : Operand} {g : Bool} {sz : Nat} (ho : o.op = .load t x) (hc : comp P o = some (.load g sz x)) (ad : Addr) (he : a.eval x = .pointer (some ad)) (f : Nat → Value)
    (hf : ∀ j, j < sz → w.cell? (ad.add j) = some (f j)) : (execOp a.eval o).run P w = .ok (.value (if g then .agg ((List.range sz).map f).toArray else f 0)) w := by
  unfold comp at hc
  rw [ho] at hc
  simp only at hc
  split at hc <;> simp only [Option.some.injEq, AOp.load.injEq, reduceCtorEq] at hc
  · rename_i i h1 h2
    obtain ⟨rfl, rfl, -⟩ := hc
    simp [execOp, ho, Instr.loadAt, Instr.sureAddr, he, run_loadVar_agg h1 h2 ad f hf, Result.andThen]
  · rename_i i h1 h2
    obtain ⟨rfl, rfl, -⟩ := hc
    have h0 := hf 0 (by omega)
    have e : ad.add 0 = ad := rfl
    rw [e] at h0
    simp [execOp, ho, Instr.loadAt, Instr.sureAddr, he, run_loadVar_one h1 ad h0, Result.andThen]

theorem load_ok (h : Rel E ρ σ a w) (hd : ∀ t, o.dst = some t → t < σ.N) (t : TypeId) (x : Operand) (g : Bool) (sz : Nat) (ho : o.op = .load t x) (hc : comp P o = some (.load g sz x)) {rd v ups}
    (k : (asem σ fr (.load g sz x)).wp P σ.O fr fun a b c => a = rd ∧ b = v ∧ c = ups) : Comes' P E (σ.upd o.dst v ups) o a w := by
  have hx := aev_rel h x
  have hsz : g = false → sz = 1 := by
    intro e
    subst e
    unfold comp at hc
    rw [ho] at hc
    simp only at hc
    split at hc <;> simp at hc
    exact hc.symm
  simp only [asem] at k
  split at k
  · rename_i id ver i j e
    rw [e] at hx
    obtain ⟨pa, ob, e1, e2, e3, e4⟩ := hx
    obtain ⟨ob', e2', k⟩ := k
    rw [e2] at e2'
    cases e2'
    have hob := h.ob id ob e2
    cases ob with
    | map => exact k.1.elim
    | gone v => exact k.1.elim
    | var el size f =>
      obtain ⟨⟨rfl, rfl, hj⟩, -, rfl, rfl⟩ := k
      obtain ⟨q, hq, rfl⟩ := e4 rfl rfl
      obtain ⟨q', cs, p1, p2, p3, p4⟩ := hob
      rw [hq] at p1; cases p1
      have hcell : ∀ m, m < sz → w.cell? ((⟨q, 0 * (Ob.var el size f).size + j, none⟩ : Addr).add m) = some (cs.getD (j + m) undef) := by
        intro m hm
        rw [add_mk, cell_of_row w q _ cs el (0, 0) p2, Nat.zero_mul, Nat.zero_add]
        exact getD_some (by omega)
      refine comes_value h hd (load_run ho hc _ e1 _ hcell) ?_
      cases g with
      | true => exact ⟨_, rfl, by simp, fun m hm => by rw [getD_range _ _ _ hm]; exact p4 _ (by omega)⟩
      | false => have := hsz rfl; subst this; exact (p4 j (by omega)).2
    | arr zz el size ver' n f =>
      obtain ⟨⟨rfl, hi, hj⟩, -, rfl, rfl⟩ := k
      obtain ⟨q, hq, rfl⟩ := e4 rfl rfl
      rcases hob with ⟨p1, -⟩ | ⟨q', cs, cap, p1, p2, p3, p4, p5, p6⟩
      · rw [hq] at p1; cases p1
      rw [hq] at p1; cases p1
      have hbnd : ∀ m, j + m < size → i * size + (j + m) < cs.size := by
        intro m hm
        have : (i + 1) * size ≤ cap * size := Nat.mul_le_mul_right _ (by omega)
        rw [Nat.add_mul] at this
        omega
      have hcell : ∀ m, m < sz → w.cell? ((⟨q, i * (Ob.arr zz el size ver' n f).size + j, none⟩ : Addr).add m) = some (cs.getD (i * size + (j + m)) undef) := by
        intro m hm
        rw [add_mk, cell_of_row w q _ cs el (0, 0) p2, Nat.add_assoc]
        exact getD_some (hbnd m (by omega))
      refine comes_value h hd (load_run ho hc _ e1 _ hcell) ?_
      cases g with
      | true => exact ⟨_, rfl, by simp, fun m hm => by rw [getD_range _ _ _ hm]; exact p6 _ _ hi (by omega)⟩
      | false => have := hsz rfl; subst this; exact (p6 i j hi (by omega)).2
  · rename_i size n f i j e
    rw [e] at hx
    obtain ⟨ad, e1, e2, -, e3⟩ := hx
    obtain ⟨⟨hi, hj⟩, -, rfl, rfl⟩ := k
    have hex : ∀ m, ∃ u, m < sz → w.cell? (ad.add (i * size + (j + m))) = some u ∧ u.oneCell' = true ∧ (f i (j + m)).rel (okb E.b ρ σ.O) w u := by
      intro m
      by_cases hm : m < sz
      · obtain ⟨_, u, hu⟩ := e3 (j + m) (by omega)
        exact ⟨u, fun _ => hu⟩
      · exact ⟨undef, fun h => absurd h hm⟩
    obtain ⟨fu, hfu⟩ := Classical.axiomOfChoice hex
    by_cases hz : sz = 0
    · subst hz
      cases g with
      | false => exact absurd (hsz rfl) (by omega)
      | true =>
        refine comes_value h hd (load_run ho hc _ e1 fu (fun m hm => by omega)) ?_
        exact ⟨_, rfl, by simp, fun m hm => by omega⟩
    · have h0 := (hfu 0 (by omega)).1
      have hcell : ∀ m, m < sz → w.cell? ((ad.add (i * size + j)).add m) = some (fu m) := fun m hm => by
        have hm' := (hfu m hm).1
        rw [← Nat.add_assoc] at hm'
        exact cell_add ad w (i * size + j) m h0 hm'
      refine comes_value h hd (load_run ho hc _ e1 _ hcell) ?_
      cases g with
      | true => exact ⟨_, rfl, by simp, fun m hm => by rw [getD_range _ _ _ hm]; exact (hfu m hm).2⟩
      | false => have := hsz rfl; subst this; exact (hfu 0 (by omega)).2.2
  · rename_i q e
    rw [e] at hx
    obtain ⟨rfl, k⟩ := k
    split at k
    · rename_i tt hg
      obtain ⟨-, rfl, rfl⟩ := k
      obtain ⟨ad, g1, g2⟩ := h.gl.2 _ (gpk_mem hg)
      have := hsz rfl
      subst this
      refine comes_value h hd (load_run ho hc ⟨q, 0, none⟩ hx (fun _ => .iface tt (.pointer (some ad))) (fun m hm => ?_)) ⟨g1, g2, ad, rfl⟩
      obtain rfl : m = 0 := by omega
      exact g2
    · exact k.1.elim
  · exact k.1.elim
end
end
section

section
variable {P : Program} {E : Env} {ρ : Pl} {σ : St} {a : Act} {w : World} {o : Oper} {fr : Nat} {K : Act → World → Prop} {Q : Exit → Act → World → Prop}

theorem faddr_ok (h : Rel E ρ σ a w) (hd : ∀ t, o.dst = some t → t < σ.N) (s : TypeId) (x : Operand) (q off : Nat) (ho : o.op = .fieldAddr s x q) (hc : comp P o = some (.faddr off x)) {rd v ups}
    (k : (asem σ fr (.faddr off x)).wp P σ.O fr fun a b c => a = rd ∧ b = v ∧ c = ups) : Comes' P E (σ.upd o.dst v ups) o a w := by
  have hx := aev_rel h x
  have hrun : ∀ ad, a.eval x = .pointer (some ad) → (execOp a.eval o).run P w = .ok (.value (.pointer (some (ad.add off)))) w := by
    intro ad he
    unfold comp at hc
    rw [ho] at hc
    simp only at hc
    split at hc <;> try (simp at hc; done)
    rename_i fs h1
    split at hc <;> try (simp at hc; done)
    rename_i f h2
    split at hc <;> try (simp at hc; done)
    rename_i j h3
    split at hc <;> try (simp at hc; done)
    rename_i h4
    simp only [Option.some.injEq, AOp.faddr.injEq, and_true] at hc
    subst hc
    simp [execOp, ho, Instr.fieldAt, run_underlying h1, h2, he, Instr.sureAddr, fieldPlace, sizeOf, typeInfo, h3, h4, Result.andThen]
  simp only [asem] at k
  split at k
  · rename_i id ver i j e
    rw [e] at hx
    obtain ⟨pa, ob, e1, e2, e3, e4⟩ := hx
    obtain ⟨-, rfl, rfl⟩ := k
    refine comes_value h hd (hrun _ e1) ⟨_, ob, rfl, e2, e3, fun hv hl => ?_⟩
    obtain ⟨g, hg, rfl⟩ := e4 hv hl
    exact ⟨g, hg, by rw [add_mk, Nat.add_assoc]⟩
  · rename_i size n f i j e
    rw [e] at hx
    obtain ⟨ad, e1, e2, es, e3⟩ := hx
    obtain ⟨-, rfl, rfl⟩ := k
    exact comes_value h hd (hrun _ e1) ⟨ad, by rw [add_add _ _ _ es, Nat.add_assoc], e2, es, e3⟩
  · exact k.1.elim

theorem addr_of_sl {ok : Sees} {qq : Qc} {A : Option Addr} {size n : Nat} {f : Nat → Nat → T} {w : World} (hn : 0 < n) (hs : 0 < size)
    (h : ∀ i j, i < n → j < size → ∃ ad u, A = some ad ∧ Okw ok w qq ad.block (ad.off + (i * size + j)) ∧ w.cell? (ad.add (i * size + j)) = some u ∧ u.oneCell' = true ∧ (f i j).rel ok w u) :
    ∃ ad, A = some ad ∧ ad.spot = none ∧ ∀ i j, i < n → j < size → Okw ok w qq ad.block (ad.off + (i * size + j)) ∧ ∃ u, w.cell? (ad.add (i * size + j)) = some u ∧ u.oneCell' = true ∧ (f i j).rel ok w u := by
  obtain ⟨ad, u, rfl, hok, hc, _⟩ := h 0 0 hn hs
  refine ⟨ad, rfl, ?_, fun i j hi hj => ?_⟩
  · have := spot_of_cell hc
    simpa [Addr.add] using this
  · obtain ⟨ad', u, e, h1, h2, h3, h4⟩ := h i j hi hj
    cases e
    exact ⟨h1, u, h2, h3, h4⟩

theorem iaddr_ok (h : Rel E ρ σ a w) (hd : ∀ t, o.dst = some t → t < σ.N) (t : TypeId) (x i : Operand) (sz : Nat) (ho : o.op = .indexAddr t x i) (hc : comp P o = some (.iaddr sz x i)) {rd v ups}
    (k : (asem σ fr (.iaddr sz x i)).wp P σ.O fr fun a b c => a = rd ∧ b = v ∧ c = ups) : Comes' P E (σ.upd o.dst v ups) o a w := by
  have hx := aev_rel h x
  have hi := aev_rel h i
  have hrun : 0 < sz ∧ ∀ ad len c kk (q : Int), a.eval x = .slice (some ad) len c → a.eval i = .int kk q → 0 ≤ q → q < len → (execOp a.eval o).run P w = .ok (.value (.pointer (some (ad.add (q.toNat * sz))))) w := by
    unfold comp at hc
    rw [ho] at hc
    simp only at hc
    split at hc <;> try (simp at hc; done)
    · rename_i e h1
      split at hc <;> try (simp at hc; done)
      rename_i j h2
      split at hc <;> try (simp at hc; done)
      rename_i h3
      simp only [Option.some.injEq, AOp.iaddr.injEq, and_true] at hc
      subst hc
      refine ⟨by omega, fun ad len c kk q he hi h0 hl => ?_⟩
      simp [execOp, ho, Instr.indexAt, run_underlying h1, he, hi, asIntOf, sizeOf, typeInfo, h2, h0, hl, Result.andThen]
    · split at hc <;> (try split at hc) <;> simp at hc
  obtain ⟨hsz, hrun⟩ := hrun
  simp only [asem] at k
  split at k
  · rename_i kk q e
    rw [e] at hi
    have hi' : a.eval i = .int kk q := hi
    split at k
    · rename_i id ver off len e
      rw [e] at hx
      obtain ⟨A, c, ob, e1, e2, e3, e4, e5⟩ := hx
      obtain ⟨ob', e3', k⟩ := k
      rw [e3] at e3'
      cases e3'
      cases ob with
      | map => exact k.1.elim
      | gone v => exact k.1.elim
      | var el size f => exact k.1.elim
      | arr zz el size ver' n f =>
        obtain ⟨⟨rfl, rfl, h0, hl⟩, -, rfl, rfl⟩ := k
        obtain ⟨_, _, _, _, _, hob, hoff, hp⟩ := e5 rfl
        cases hob
        rcases hp with ⟨p1, p2, p3, p4⟩ | ⟨g, cs, p1, p2, p3, p4⟩
        · omega
        · have hA := p2 (.inl (by omega))
          subst hA
          refine comes_value h hd (hrun _ _ _ _ _ e1 hi' h0 hl) ⟨_, _, rfl, e3, Nat.le_refl _, fun _ _ => ⟨g, p1, ?_⟩⟩
          rw [add_mk, ← Nat.add_mul]
          rfl
    · rename_i id len e
      rw [e] at hx
      obtain ⟨g, c, ob, e1, e2, e3, e5⟩ := hx
      obtain ⟨ob', e3', k⟩ := k
      rw [e3] at e3'
      cases e3'
      cases ob with
      | map => exact k.1.elim
      | gone v => exact k.1.elim
      | arr => exact k.1.elim
      | var el size f =>
        obtain ⟨⟨rfl, hs, h0, hl⟩, -, rfl, rfl⟩ := k
        refine comes_value h hd (hrun _ _ _ _ _ e1 hi' h0 hl) ⟨_, _, rfl, e3, Nat.le_refl _, fun _ _ => ⟨g, e5 rfl, ?_⟩⟩
        simp [Addr.add]
        omega
    · rename_i size n f e
      rw [e] at hx
      obtain ⟨A, c, e1, e2, e3⟩ := hx
      obtain ⟨⟨rfl, h0, hl⟩, -, rfl, rfl⟩ := k
      obtain ⟨ad, rfl, hs, hcl⟩ := addr_of_sl (by omega) hsz e3
      exact comes_value h hd (hrun _ _ _ _ _ e1 hi' h0 hl) ⟨ad, rfl, by omega, hs, fun m hm => hcl _ _ (by omega) hm⟩
    · exact k.1.elim
  · exact k.1.elim

theorem bin_ok (h : Rel E ρ σ a w) (hd : ∀ t, o.dst = some t → t < σ.N) (op : BinOp) (t t' : TypeId) (x y : Operand) (ho : o.op = .binOp op t x y t') {rd v ups}
    (k : (asem σ fr (.bin op x y)).wp P σ.O fr fun a b c => a = rd ∧ b = v ∧ c = ups) : Comes' P E (σ.upd o.dst v ups) o a w := by
  have hx := aev_rel h x
  have hy := aev_rel h y
  simp only [asem] at k
  split at k
  · rename_i u v e1 e2
    rw [e1] at hx
    rw [e2] at hy
    have hx' : a.eval x = u := hx
    have hy' : a.eval y = v := hy
    obtain ⟨hp, -, rfl, rfl⟩ := k
    have hg : (eqGuard op t x y u v).run P w = .ok () w := by
      cases u <;> cases v <;> simp only [abin] at hp <;> first | exact hp.elim | skip
      all_goals
        unfold eqGuard
        cases op <;> simp
    refine comes_value h hd ?_ (v := .im (.val _)) rfl
    simp [execOp, ho, hx', hy', hg, abin_ok w hp, Result.andThen]
  · rename_i k1 k2 n e1 e2
    rw [e1] at hx
    rw [e2] at hy
    obtain ⟨m, hx'⟩ : ∃ m : Int, a.eval x = .int k1 m := hx
    have hy' : a.eval y = .int k2 n := hy
    obtain ⟨⟨rfl, rfl⟩, -, rfl, rfl⟩ := k
    have hg : (eqGuard .add t x y (.int k1 m) (.int k1 n)).run P w = .ok () w := by unfold eqGuard; simp
    have hp : (abin .add (.int k1 m) (.int k1 n)).1 := by simp [abin, aint]
    refine comes_value h hd (x := (abin .add (.int k1 m) (.int k1 n)).2) ?_ (v := .im (.anyn _)) ⟨k1.wrap (m + n), by simp [abin, aint]⟩
    simp [execOp, ho, hx', hy', hg, abin_ok w hp, Result.andThen]
  · exact k.1.elim

theorem equalIn_bool {t : TypeId} (hu : P.underlying t = some .bool) (d : Nat) (u v : Bool) (w : World) : (Op.equalIn (d + 1) t (.bool u) (.bool v)).run P w = .ok (u == v) w := by
  simp [Op.equalIn, run_underlying hu, Result.andThen]
theorem equal_bool {t : TypeId} (hu : P.underlying t = some .bool) (u v : Bool) (w : World) : (Op.equal t (.bool u) (.bool v)).run P w = .ok (u == v) w := equalIn_bool hu 9999 u v w

theorem beq_ok (h : Rel E ρ σ a w) (hd : ∀ t, o.dst = some t → t < σ.N) (op : BinOp) (t t' : TypeId) (x y : Operand) (neg : Bool) (ho : o.op = .binOp op t x y t') (hc : comp P o = some (.beq neg x y)) {rd v ups}
    (k : (asem σ fr (.beq neg x y)).wp P σ.O fr fun a b c => a = rd ∧ b = v ∧ c = ups) : Comes' P E (σ.upd o.dst v ups) o a w := by
  have hx := aev_rel h x
  have hy := aev_rel h y
  simp only [asem] at k
  split at k
  · rename_i u v e1 e2
    rw [e1] at hx
    rw [e2] at hy
    have hx' : a.eval x = .bool u := hx
    have hy' : a.eval y = .bool v := hy
    obtain ⟨-, rfl, rfl⟩ := k
    have hr : (execOp a.eval o).run P w = .ok (.value (.bool (if neg then !(u == v) else u == v))) w := by
      unfold comp at hc
      rw [ho] at hc
      simp only at hc
      split at hc <;> first | (obtain ⟨_, _, e⟩ := nilQ_pure hc; cases e; done) | skip
      all_goals try simp only [Option.some.injEq, AOp.beq.injEq, reduceCtorEq, and_true, Option.map_eq_some_iff, and_false, exists_false] at hc
      · rename_i h1
        subst hc
        simp [execOp, ho, hx', hy', eqGuard, binOp, equal_bool h1, Result.andThen]
      · rename_i h1
        subst hc
        simp [execOp, ho, hx', hy', eqGuard, binOp, equal_bool h1, Result.andThen]
    exact comes_value h hd hr (v := .im (.val _)) rfl
  · exact k.1.elim

theorem sub_rel {b : Sees} {ρ : Pl} {O : Ow} {w : World} {v : V} {u : Value} {n : Nat} {f : Nat → V} (h : V.rel b ρ O w v u) (hs : v.sub = some (n, f)) : ∃ cs : Array Value, u = .agg cs ∧ cs.size = n ∧ ∀ j, j < n → ∀ a, vval f j = some a → cs[j]? = some a := by
  unfold V.sub at hs
  split at hs <;> simp only [Option.some.injEq, Prod.mk.injEq, reduceCtorEq] at hs
  · obtain ⟨rfl, rfl⟩ := hs
    obtain ⟨cs, e2, e3, e4⟩ := h
    refine ⟨cs, e2, e3, fun j hj a ha => ?_⟩
    have := (e4 j hj).2
    unfold vval at ha
    split at ha <;> simp only [Option.some.injEq, reduceCtorEq] at ha
    rename_i q hq
    subst ha
    rw [hq] at this
    have h1 : cs.getD j undef = q := this
    rw [← h1, getD_some (show j < cs.size by omega)]
  · obtain ⟨rfl, rfl⟩ := hs
    obtain ⟨cs, e2, e3, e4⟩ := h
    refine ⟨cs, e2, e3, fun j hj a ha => ?_⟩
    have := (e4 j hj).2
    unfold vval at ha
    split at ha <;> simp only [Option.some.injEq, reduceCtorEq] at ha
    rename_i q hq
    subst ha
    simp only [V.im.injEq] at hq
    rw [hq] at this
    have h1 : cs.getD j undef = q := this
    rw [← h1, getD_some (show j < cs.size by omega)]
theorem cellsEq_mono {f g f' g' : Nat → Option Value} : ∀ {ks : List Kd} {j : Nat} {r : Bool}, (∀ i, j ≤ i → i < j + ks.length → ∀ a, f i = some a → f' i = some a) → (∀ i, j ≤ i → i < j + ks.length → ∀ a, g i = some a → g' i = some a) → cellsEq f g ks j = some r → cellsEq f' g' ks j = some r
  | [], _, _, _, _, h => h
  | k :: ks, j, r, hf, hg, h => by
    simp only [cellsEq] at h ⊢
    split at h
    · rename_i a b ha hb
      rw [hf j (Nat.le_refl _) (by simp) a ha, hg j (Nat.le_refl _) (by simp) b hb]
      simp only
      split at h
      · rename_i u v e1 e2
        rw [e1, cellsEq_mono (fun i h1 h2 => hf i (by omega) (by simp; omega)) (fun i h1 h2 => hg i (by omega) (by simp; omega)) e2]
        exact h
      · cases h
    · cases h
theorem seq_ok (h : Rel E ρ σ a w) (hd : ∀ t, o.dst = some t → t < σ.N) (op : BinOp) (t t' : TypeId) (x y : Operand) (neg : Bool) (ks : List Kd) (ho : o.op = .binOp op t x y t') (hn : op = if neg then .neq else .eql) (hc : flatEq P t = some ks) {rd v ups}
    (k : (asem σ fr (.seq neg ks x y)).wp P σ.O fr fun a b c => a = rd ∧ b = v ∧ c = ups) : Comes' P E (σ.upd o.dst v ups) o a w := by
  have hx := aev_rel h x
  have hy := aev_rel h y
  simp only [asem] at k
  split at k
  · rename_i n f m g e1 e2
    split at k
    · rename_i r he
      obtain ⟨⟨rfl, rfl⟩, -, rfl, rfl⟩ := k
      obtain ⟨xs, x1, x2, x3⟩ := sub_rel hx e1
      obtain ⟨ys, y1, y2, y3⟩ := sub_rel hy e2
      have he' := cellsEq_mono (f' := fun i => xs[i]?) (g' := fun i => ys[i]?) (fun i _ hi => x3 i (by omega)) (fun i _ hi => y3 i (by omega)) he
      obtain ⟨q1, q2⟩ := run_flatEq w (neg := neg) hn hc he'
      exact comes_value h hd (by simp [execOp, ho, x1, y1, q1, q2, Result.andThen]) (v := .im (.val _)) rfl
    · exact k.1.elim
  · exact k.1.elim
theorem not_ok (h : Rel E ρ σ a w) (hd : ∀ t, o.dst = some t → t < σ.N) (t : TypeId) (x : Operand) (ho : o.op = .unOp .not t x) {rd v ups}
    (k : (asem σ fr (.not x)).wp P σ.O fr fun a b c => a = rd ∧ b = v ∧ c = ups) : Comes' P E (σ.upd o.dst v ups) o a w := by
  have hx := aev_rel h x
  simp only [asem] at k
  split at k
  · rename_i u e1
    rw [e1] at hx
    have hx' : a.eval x = .bool u := hx
    obtain ⟨-, rfl, rfl⟩ := k
    exact comes_value h hd (by simp [execOp, ho, hx', Op.unary]) (v := .im (.val _)) rfl
  · exact k.1.elim

theorem conv_ok (h : Rel E ρ σ a w) (hd : ∀ t, o.dst = some t → t < σ.N) (s t : TypeId) (x : Operand) (q : IntKind) (ho : o.op = .convert s t x) (hc : comp P o = some (.conv q x)) {rd v ups}
    (k : (asem σ fr (.conv q x)).wp P σ.O fr fun a b c => a = rd ∧ b = v ∧ c = ups) : Comes' P E (σ.upd o.dst v ups) o a w := by
  have hx := aev_rel h x
  simp only [asem] at k
  split at k
  · rename_i kk u e1
    rw [e1] at hx
    have hx' : a.eval x = .int kk u := hx
    obtain ⟨-, rfl, rfl⟩ := k
    refine comes_value h hd ?_ (v := .im (.val _)) rfl
    unfold comp at hc
    rw [ho] at hc
    simp only at hc
    split at hc <;> try (simp at hc; done)
    · rename_i h1 h2
      simp only [Option.some.injEq, AOp.conv.injEq, and_true] at hc
      subst hc
      simp [execOp, ho, hx', convert, run_underlying h1, run_underlying h2, Conv.intToInt, Result.andThen]
    all_goals ((repeat' (split at hc)) <;> simp at hc)
  · exact k.1.elim

theorem len_ok (h : Rel E ρ σ a w) (hd : ∀ t, o.dst = some t → t < σ.N) (x : Operand) (str : Bool) (c : Call) (hcb : c.callee = .builtin .len) (ho : o.op = .call c) (hc : comp P o = some (.len str x)) {rd v ups}
    (k : (asem σ fr (.len str x)).wp P σ.O fr fun a b c => a = rd ∧ b = v ∧ c = ups) : Comes' P E (σ.upd o.dst v ups) o a w := by
  have hx := aev_rel h x
  obtain ⟨callee, args, argTypes⟩ := c
  simp only at hcb
  subst hcb
  unfold comp at hc
  rw [ho] at hc
  simp only at hc
  split at hc <;> try (simp at hc; done)
  rename_i x' t ea et
  obtain ⟨args⟩ := args
  obtain ⟨argTypes⟩ := argTypes
  simp only at ea et
  subst ea et
  have hrun : (str = true → ∀ s, a.eval x = .string s → (execOp a.eval o).run P w = .ok (.value (.int .i64 s.size)) w) ∧ (str = false → ∀ A n c, a.eval x = .slice A n c → (execOp a.eval o).run P w = .ok (.value (.int .i64 n)) w) := by
    split at hc <;> simp only [Option.some.injEq, AOp.len.injEq, reduceCtorEq] at hc
    · rename_i e hu
      obtain ⟨rfl, rfl⟩ := hc
      refine ⟨fun e => (by cases e), fun _ A n c hx' => ?_⟩
      simp [execOp, ho, resolve, invoke, builtin, Builtin.len_, hx', run_underlying hu, Result.andThen, goInt]
    · rename_i hu
      obtain ⟨rfl, rfl⟩ := hc
      refine ⟨fun _ s hx' => ?_, fun e => (by cases e)⟩
      simp [execOp, ho, resolve, invoke, builtin, Builtin.len_, hx', run_underlying hu, Result.andThen, goInt]
  simp only [asem] at k
  split at k
  · rename_i s e1
    rw [e1] at hx
    obtain ⟨hs, -, rfl, rfl⟩ := k
    exact comes_value h hd (hrun.1 hs _ hx) (v := .im (.val _)) rfl
  · rename_i s n f e1
    rw [e1] at hx
    obtain ⟨A, c, hx', -⟩ := hx
    obtain ⟨hs, -, rfl, rfl⟩ := k
    exact comes_value h hd (hrun.2 hs _ _ _ hx') (v := .im (.val _)) rfl
  · rename_i s n m f e1
    rw [e1] at hx
    obtain ⟨A, c, hx', -⟩ := hx
    obtain ⟨hs, -, rfl, rfl⟩ := k
    exact comes_value h hd (hrun.2 hs _ _ _ hx') (v := .im (.val _)) rfl
  · rename_i A n c e1
    rw [e1] at hx
    obtain ⟨hs, -, rfl, rfl⟩ := k
    exact comes_value h hd (hrun.2 hs _ _ _ hx) (v := .im (.val _)) rfl
  · rename_i id ver off len e1
    rw [e1] at hx
    obtain ⟨A, c, ob, hx', -⟩ := hx
    obtain ⟨hs, -, rfl, rfl⟩ := k
    exact comes_value h hd (hrun.2 hs _ _ _ hx') (v := .im (.val _)) rfl
  · rename_i id len e1
    rw [e1] at hx
    obtain ⟨g, c, ob, hx', -⟩ := hx
    obtain ⟨hs, -, rfl, rfl⟩ := k
    exact comes_value h hd (hrun.2 hs _ _ _ hx') (v := .im (.val _)) rfl
  · exact k.1.elim

theorem ext_ok (h : Rel E ρ σ a w) (hd : ∀ t, o.dst = some t → t < σ.N) (x : Operand) (i : Nat) (ho : o.op = .extract x i) {rd v ups}
    (k : (asem σ fr (.ext x i)).wp P σ.O fr fun a b c => a = rd ∧ b = v ∧ c = ups) : Comes' P E (σ.upd o.dst v ups) o a w := by
  have hx := aev_rel h x
  simp only [asem] at k
  split at k
  · rename_i n f e1
    rw [e1] at hx
    obtain ⟨cs, e2, e3, e4⟩ := hx
    obtain ⟨hi, -, rfl, rfl⟩ := k
    refine comes_value h hd ?_ (e4 i hi)
    have hg := getD_some (show i < cs.size by omega)
    simp only [execOp, ho, Instr.extract, e2, hg, bind_pure_comp, Functor.map]
    rfl
  · exact k.1.elim

theorem ifc_ok (h : Rel E ρ σ a w) (hd : ∀ t, o.dst = some t → t < σ.N) (t : TypeId) (x : Operand) (ho : o.op = .makeInterface t x) (hc : comp P o = some (.ifc t x)) {rd v ups}
    (k : (asem σ fr (.ifc t x)).wp P σ.O fr fun a b c => a = rd ∧ b = v ∧ c = ups) : Comes' P E (σ.upd o.dst v ups) o a w := by
  have hx := aev_rel h x
  obtain ⟨-, rfl, rfl⟩ := k
  refine comes_value h hd ?_ (v := .ifc t (aev σ x)) ⟨_, rfl, hx⟩
  unfold comp at hc
  rw [ho] at hc
  simp only at hc
  cases hu : P.underlying t with
  | none => rw [hu] at hc; simp at hc
  | some d =>
    rw [hu] at hc
    cases d <;> simp only [reduceCtorEq] at hc <;> simp only [execOp, ho, Instr.makeInterface, Sem.run_bind, run_underlying hu, Result.andThen, Sem.run_pure]

theorem fn_ok (h : Rel E ρ σ a w) (hd : ∀ t, o.dst = some t → t < σ.N) (f : FuncId) (fi ca : Array Operand) (ho : o.op = .makeFunc (.func f) fi ca) {rd v ups}
    (k : (asem σ fr (.fn f fi.toList ca.toList)).wp P σ.O fr fun a b c => a = rd ∧ b = v ∧ c = ups) : Comes' P E (σ.upd o.dst v ups) o a w := by
  obtain ⟨-, rfl, rfl⟩ := k
  refine comes_value h hd (x := .func (.func f) (fi.map a.eval) (ca.map a.eval)) ?_ ⟨_, _, rfl, by simp, by simp, fun j hj => ?_, fun j hj => ?_⟩
  · simp [execOp, ho, Instr.makeFunc]
  · simp only [Array.length_toList] at hj
    have := aev_rel h fi[j]
    simpa [lf, hj] using this
  · simp only [Array.length_toList] at hj
    have := aev_rel h ca[j]
    simpa [lf, hj] using this

theorem fld_ok (h : Rel E ρ σ a w) (hd : ∀ t, o.dst = some t → t < σ.N) (t : TypeId) (x : Operand) (q : Nat) (g : Bool) (off sz : Nat) (ho : o.op = .field t x q) (hc : comp P o = some (.fld g off sz x)) {rd v ups}
    (k : (asem σ fr (.fld g off sz x)).wp P σ.O fr fun a b c => a = rd ∧ b = v ∧ c = ups) : Comes' P E (σ.upd o.dst v ups) o a w := by
  have hx := aev_rel h x
  have hrun : (g = false → sz = 1) ∧ ∀ cs : Array Value, a.eval x = .agg cs → off + sz ≤ cs.size → (execOp a.eval o).run P w = .ok (.value (if g then .agg ((List.range sz).map fun j => cs.getD (off + j) undef).toArray else cs.getD off undef)) w := by
    unfold comp at hc
    rw [ho] at hc
    simp only at hc
    split at hc <;> try (simp at hc; done)
    rename_i fs h1
    split at hc <;> try (simp at hc; done)
    rename_i f h2
    split at hc <;> simp only [Option.some.injEq, AOp.fld.injEq, reduceCtorEq] at hc
    · rename_i j h3 h4
      obtain ⟨rfl, rfl, rfl, -⟩ := hc
      refine ⟨fun e => by (cases e), fun cs he hsz => ?_⟩
      have hpart : (part f.type cs f.offset).run P w = .ok (.agg (cs.extract f.offset (f.offset + j.size))) w := by
        unfold aggT at h3
        cases hu : P.underlying f.type with
        | none => rw [hu] at h3; cases h3
        | some d =>
          rw [hu] at h3
          cases d <;> simp only at h3 <;> first | (simp at h3; done) | simp [part, isAgg, run_underlying hu, sizeOf, typeInfo, h4, Result.andThen]
      have hex : cs.extract f.offset (f.offset + j.size) = ((List.range j.size).map fun m => cs.getD (f.offset + m) undef).toArray := by
        apply Array.ext
        · simp; omega
        · intro m h5 h6
          simp at h5 h6
          simp [Array.getElem_extract, show f.offset + m < cs.size by omega]
      simp [execOp, ho, Instr.field, run_underlying h1, h2, he, asAgg, hpart, Result.andThen, hex]
    · rename_i j h3 h4
      obtain ⟨rfl, rfl, rfl, -⟩ := hc
      refine ⟨fun _ => rfl, fun cs he hsz => ?_⟩
      have hgs := getD_some (show f.offset < cs.size by omega)
      have hpart : (part f.type cs f.offset).run P w = .ok (cs.getD f.offset undef) w := by
        unfold aggT at h3
        cases hu : P.underlying f.type with
        | none => rw [hu] at h3; cases h3
        | some d =>
          rw [hu] at h3
          cases d <;> simp only at h3 <;> first | (simp at h3; done) | (simp only [part, isAgg, Sem.run_bind, run_underlying hu, Result.andThen, Sem.run_pure, hgs]; rfl)
      simp [execOp, ho, Instr.field, run_underlying h1, h2, he, asAgg, hpart, Result.andThen]
  obtain ⟨hg, hrun⟩ := hrun
  simp only [asem] at k
  split at k
  · rename_i n f e1
    rw [e1] at hx
    obtain ⟨cs, e2, e3, e4⟩ := hx
    obtain ⟨hi, -, rfl, rfl⟩ := k
    refine comes_value h hd (hrun cs e2 (by omega)) ?_
    cases g with
    | true => exact ⟨_, rfl, by simp, fun m hm => by rw [getD_range _ _ _ hm]; exact e4 _ (by omega)⟩
    | false => have := hg rfl; subst this; exact (e4 off (by omega)).2
  · rename_i n f e1
    rw [e1] at hx
    obtain ⟨cs, e2, e3, e4⟩ := hx
    obtain ⟨hi, -, rfl, rfl⟩ := k
    refine comes_value h hd (hrun cs e2 (by omega)) ?_
    cases g with
    | true => exact ⟨_, rfl, by simp, fun m hm => by rw [getD_range _ _ _ hm]; exact e4 _ (by omega)⟩
    | false => have := hg rfl; subst this; exact (e4 off (by omega)).2
  · exact k.1.elim
end
end
end Go.Proofs.Ytlmnhbobgfpanaa
