/-
  Operations on typed states. General; nothing of this program.
-/
import Derived.Test.YtlglifgnklngfaaDaA
namespace Go.Proofs.Ytlglifgnklngfaa
open Go.RowKit

/-- Shapes: what a slot, a result or what came in looks like, with holes for data. -/
inductive Sh where
  | hole (τ : Tp)
  | own (z : Zz) (e : TypeId) (τ : Tp)
  | mown (agg : Bool) (κ τ : Tp)
  | box (e : TypeId) (n : Nat) (l : Sh)
  | ptr (id : Nat)
  | nilp
  | nils
  | nilv (kd : Nat)
  | alt (a b : Sh)
  | look (l : Sh)
  | agg (n : Nat) (l : Sh)
  | tup (n : Nat) (l : Sh)
  | clo (fn : FuncId) (n : Nat) (l : Sh) (m : Nat) (c : Sh)
  | ifc (t : TypeId) (s : Sh)
  | dead
  | nil
  | cons (a b : Sh)
def Sh.ty : Sh → Tp
  | .hole τ => τ
  | .own _ _ τ => .sl τ
  | .mown _ κ τ => .sl (.pair κ τ)
  | .box _ _ l => l.ty
  | .agg _ l => l.ty
  | .tup _ l => l.ty
  | .clo _ _ l _ c => .pair l.ty c.ty
  | .ifc _ s => s.ty
  | .cons a b => .pair a.ty b.ty
  | .alt a b => .pair .bool (.pair a.ty b.ty)
  | .look l => l.ty
  | _ => .unit

/-- What is asked of a call: the callee's shapes, and what it answers. -/
structure Ent where
  f : FuncId
  ash : Sh
  osh : Sh
  vsh : Sh
  p : den ash.ty → Option (den osh.ty × den vsh.ty)

inductive Hint where
  | none
  | ty (τ : Tp)
  | ent (e : Ent)
  | either (a b : Hint)
/-- What is said of a function's call. -/
def Hint.pick : Hint → FuncId → Hint
  | .either (.ent e) b, f => cond (Nat.beq e.f f) (.ent e) (b.pick f)
  | .either _ b, f => b.pick f
  | h, _ => h

/-- A nil slice; a nil pointer; what an operation gives that was passed over. -/
def isNil : Value → Bool
  | .slice none 0 0 => true
  | _ => false
def isNilP : Value → Bool
  | .pointer none => true
  | _ => false
def isTup : Value → Bool
  | .tuple _ => true
  | _ => false
section
variable {R : Type}
/-- Numbers added, of which the first may be none. -/
def nadd : Nat → Nat → Nat
  | 0, n => n
  | k + 1, n => (k + 1) + n
/-- A row's contents, some of it. -/
def subl {τ : Tp} (l : List (den τ)) (off len : Nat) (w : Bool) : List (den τ) :=
  cond w l (match off with
    | 0 => l.take len
    | off + 1 => (l.drop (off + 1)).take len)
/-- Is it the whole row, if that is believed? -/
def wholeB (off len n : Nat) (w : Bool) : Bool := cond w (Nat.beq off 0 && decide (len = n)) (decide (off + len ≤ n))
/-- A cell as data of a type; a slice that is owned is given away. -/
def dconv (σ : DSt) (τ : Tp) (v : DV) (k : den τ → List (Nat × DOb) → Option R) : Option R :=
  match v with
  | .im τ' x => match castTp τ' τ x with
    | some y => k y []
    | none => none
  | .raw v => cond (isNil v) (match τ, k with
    | .sl _, k => k [] []
    | _, _ => none) none
  | .buf id ver off len w => match σ.O id with
    | some (.arr _ e τ' ver' l) => cond (Nat.beq ver' ver) (match castTp (.sl τ') τ (subl (τ := τ') l off len w) with
      | some y => cond (wholeB off len l.length w) (k y [(id, .arr .sh e τ' ver' l)]) none
      | none => none) none
    | _ => none
  | _ => none
/-- Cells as a row. -/
def drow (σ : DSt) : (τ : Tp) → (Nat → DV) → (k : den τ → List (Nat × DOb) → Option R) → Option R
  | .pair a b, f, k => drow σ a f fun x u => drow σ b (fun j => f (j + a.size)) fun y u' => k (x, y) (u ++ u')
  | .unit, _, k => k () []
  | .bool, f, k => dconv σ .bool (f 0) k
  | .str, f, k => dconv σ .str (f 0) k
  | .int q, f, k => dconv σ (.int q) (f 0) k
  | .sl e, f, k => dconv σ (.sl e) (f 0) k
/-- One cell of a row. -/
def dset1 (σ : DSt) : (τ : Tp) → den τ → Nat → DV → (k : den τ → List (Nat × DOb) → Option R) → Option R
  | .pair a b, x, j, v, k => cond (Nat.blt j a.size) (dset1 σ a x.1 j v fun y u => k (y, x.2) u) (dset1 σ b x.2 (j - a.size) v fun y u => k (x.1, y) u)
  | .unit, _, _, _, _ => none
  | .bool, _, _, v, k => dconv σ .bool v k
  | .str, _, _, v, k => dconv σ .str v k
  | .int q, _, _, v, k => dconv σ (.int q) v k
  | .sl e, _, _, v, k => dconv σ (.sl e) v k
def drows (σ : DSt) (τ : Tp) : List DV → (k : List (den τ) → List (Nat × DOb) → Option R) → Option R
  | [], k => k [] []
  | v :: vs, k => drow σ τ v.cell fun x u => drows σ τ vs fun l us => k (x :: l) (u ++ us)
/-- What is read of a slice: its type's size, what it reads. -/
def dsrc (σ : DSt) (τ : Tp) (v : DV) (k : List Nat → List (den τ) → Option R) : Option R :=
  match v with
  | .im τ' x => match castTp τ' (.sl τ) x with
    | some y => k [] y
    | none => none
  | .raw v => cond (isNil v) (k [] []) none
  | .buf id ver off len w => match σ.O id with
    | some (.arr _ _ τ' ver' l) => cond (Nat.beq ver' ver) (match castTp (.sl τ') (.sl τ) (subl (τ := τ') l off len w) with
      | some y => cond (wholeB off len l.length w) (k [id] y) none
      | none => none) none
    | _ => none
  | _ => none
def dover : List (Nat × Nat × DV) → (Nat → DV) → Nat → DV
  | [], g, j => g j
  | (off, sz, v) :: ps, g, j => dover ps (fun j => cond (Nat.ble off j && Nat.blt j (off + sz)) (v.cell (j - off)) (g j)) j
def dbnd (σ : DSt) (d : Nat) (x : Option Operand) (k : Nat → Option R) : Option R :=
  match x with
  | none => k d
  | some x => match daev σ x with
    | .im (.int _) n => cond (decide ((0 : Int) ≤ n)) (k (Int.toNat n)) none
    | _ => none
def dint (op : BinOp) (k : IntKind) (x y : Int) (K : DV → Option R) : Option R :=
  match op with
  | .add => K (.im (.int k) (k.wrap (x + y)))
  | .sub => K (.im (.int k) (k.wrap (x - y)))
  | .mul => K (.im (.int k) (k.wrap (x * y)))
  | .quo => cond (!(y == 0)) (K (.im (.int k) (k.wrap (x.tdiv y)))) none
  | .rem => cond (!(y == 0)) (K (.im (.int k) (x.tmod y))) none
  | .and => K (.im (.int k) (k.wrap ((BitVec.ofInt k.bits x) &&& (BitVec.ofInt k.bits y)).toNat))
  | .or => K (.im (.int k) (k.wrap ((BitVec.ofInt k.bits x) ||| (BitVec.ofInt k.bits y)).toNat))
  | .xor => K (.im (.int k) (k.wrap ((BitVec.ofInt k.bits x) ^^^ (BitVec.ofInt k.bits y)).toNat))
  | .andNot => K (.im (.int k) (k.wrap ((BitVec.ofInt k.bits x) &&& ~~~(BitVec.ofInt k.bits y)).toNat))
  | .eql => K (.im .bool (x == y))
  | .neq => K (.im .bool (x != y))
  | .lss => K (.im .bool (decide (x < y)))
  | .leq => K (.im .bool (decide (x ≤ y)))
  | .gtr => K (.im .bool (decide (x > y)))
  | .geq => K (.im .bool (decide (x ≥ y)))
  | _ => none
def dstr (op : BinOp) (x y : ByteArray) (K : DV → Option R) : Option R :=
  match op with
  | .add => cond (decide (x.size + y.size ≤ 9223372036854775807)) (K (.im .str (x ++ y))) none
  | .eql => K (.im .bool (x.toList == y.toList))
  | .neq => K (.im .bool !(x.toList == y.toList))
  | .lss => K (.im .bool (Op.bytesLess x.toList y.toList))
  | .leq => K (.im .bool (Op.bytesLess x.toList y.toList || x.toList == y.toList))
  | .gtr => K (.im .bool !(Op.bytesLess x.toList y.toList || x.toList == y.toList))
  | .geq => K (.im .bool !Op.bytesLess x.toList y.toList)
  | _ => none
def dbin (op : BinOp) (a b : DV) (K : DV → Option R) : Option R :=
  match a, b with
  | .im (.int k) x, .im (.int k') y => match op with
    | .shl => cond (decide ((0 : Int) ≤ y)) (K (.im (.int k) (k.wrap (x * 2 ^ (min (Int.toNat y) k.bits))))) none
    | .shr => cond (decide ((0 : Int) ≤ y)) (K (.im (.int k) (Int.fdiv x (2 ^ (min (Int.toNat y) k.bits))))) none
    | _ => cond (ikEq k k') (dint op k x y K) none
  | .im .str x, .im .str y => dstr op x y K
  | _, _ => none

/-- A contents' piece. -/
def slice' {α : Type} (l : List α) (lo : Nat) (hi : Option Nat) : List α :=
  match lo, hi with
  | 0, none => l
  | lo + 1, none => l.drop (lo + 1)
  | 0, some h => l.take h
  | lo + 1, some h => (l.drop (lo + 1)).take (h - (lo + 1))

def maxBytes : Nat := 140737488355328
end
end Go.Proofs.Ytlglifgnklngfaa
