/-
  Typed contents: types of data, their trees; what a slot holds, what is owned, with typed contents. General; nothing of this program.
-/
import Derived.Test.YtlglifgnklngfaaTrU
namespace Go.Proofs.Ytlglifgnklngfaa
open Go.RowKit

/-- Types of data: rows of cells are nested pairs. -/
inductive Tp where
  | bool | str
  | int (k : IntKind)
  | sl (e : Tp)
  | unit
  | pair (a b : Tp)
@[reducible] def den : Tp → Type
  | .bool => Bool
  | .str => ByteArray
  | .int _ => Int
  | .sl e => List (den e)
  | .unit => Unit
  | .pair a b => den a × den b
def dflt : (τ : Tp) → den τ
  | .bool => false
  | .str => ⟨#[]⟩
  | .int _ => (0 : Int)
  | .sl _ => []
  | .unit => ()
  | .pair a b => (dflt a, dflt b)
def Tp.size : Tp → Nat
  | .unit => 0
  | .pair a b => a.size + b.size
  | _ => 1
/-- The trees of a row's cells. -/
def cellT : (τ : Tp) → den τ → Nat → T
  | .bool, b, 0 => .val (.bool b)
  | .str, s, 0 => .val (.string s)
  | .int k, n, 0 => .val (.int k n)
  | .sl e, l, 0 => .sl e.size l.length fun i j => cellT e (l.getD i (dflt e)) j
  | .pair a b, x, j => if j < a.size then cellT a x.1 j else cellT b x.2 (j - a.size)
  | _, _, _ => .val undef
abbrev rowsT (τ : Tp) (l : List (den τ)) : Nat → Nat → T := fun i j => cellT τ (l.getD i (dflt τ)) j

def ikEq : IntKind → IntKind → Bool
  | .i8, .i8 | .i16, .i16 | .i32, .i32 | .i64, .i64 | .u8, .u8 | .u16, .u16 | .u32, .u32 | .u64, .u64 => true
  | _, _ => false
def Tp.beq : Tp → Tp → Bool
  | .bool, .bool => true
  | .str, .str => true
  | .int k, .int k' => ikEq k k'
  | .sl e, .sl e' => e.beq e'
  | .unit, .unit => true
  | .pair a b, .pair a' b' => a.beq a' && b.beq b'
  | _, _ => false
theorem ikEq_eq {k k' : IntKind} (h : ikEq k k' = true) : k = k' := by cases k <;> cases k' <;> first | rfl | cases h
theorem Tp.beq_eq {a b : Tp} (h : a.beq b = true) : a = b := by
  induction a generalizing b with
  | bool => cases b <;> first | rfl | cases h
  | str => cases b <;> first | rfl | cases h
  | unit => cases b <;> first | rfl | cases h
  | int k =>
    cases b with
    | int k' => rw [ikEq_eq h]
    | _ => cases h
  | sl e ih =>
    cases b with
    | sl e' => rw [ih h]
    | _ => cases h
  | pair a b ih1 ih2 =>
    cases b with
    | pair a' b' =>
      simp only [Tp.beq, Bool.and_eq_true] at h
      rw [ih1 h.1, ih2 h.2]
    | _ => cases h
/-- The same type, or nothing. -/
def castTp (a b : Tp) (x : den a) : Option (den b) :=
  match h : a.beq b with
  | true => some (Tp.beq_eq h ▸ x)
  | false => none

def Zz.eqb : Zz → Zz → Bool
  | .own, .own | .app, .app | .sh, .sh => true
  | _, _ => false
theorem Zz.eqb_eq {a b : Zz} (h : a.eqb b = true) : a = b := by cases a <;> cases b <;> first | rfl | cases h
/-- It is somebody's. -/
def Zz.alive : Zz → Bool
  | .sh => false
  | _ => true
theorem Zz.alive_ne {a : Zz} (h : a.alive = true) : a ≠ .sh := by rintro rfl; cases h
/-- What is known of a slot (w: a slice that is believed to be the whole of its row). -/
inductive DV where
  | dead
  | im (τ : Tp) (x : den τ)
  | raw (v : Value)
  | agg (n : Nat) (f : Nat → DV)
  | tup (n : Nat) (f : Nat → DV)
  | buf (id ver off len : Nat) (w : Bool)
  | ptr (id ver i j : Nat)
  | elem (τ : Tp) (l : List (den τ)) (i j : Nat)
  | ifc (t : TypeId) (v : DV)
  | clo (fn : FuncId) (n : Nat) (fst : Nat → DV) (m : Nat) (cap : Nat → DV)
  | mp (id : Nat)
  | unk
inductive DOb where
  | var (e : TypeId) (size : Nat) (f : Nat → DV)
  | arr (z : Zz) (e : TypeId) (τ : Tp) (ver : Nat) (l : List (den τ))
  | map (agg : Bool) (κ τ : Tp) (l : List (den κ × den τ))
  | gone (ver : Nat)
/-- A key. -/
def keyV : (κ : Tp) → den κ → Value
  | .int k, n => .int k n
  | .str, s => .string s
  | .bool, b => .bool b
  | _, _ => undef
def DV.toV : DV → V
  | .dead => .dead
  | .im τ x => .im (cellT τ x 0)
  | .raw v => .im (.val v)
  | .agg n f => .agg n fun j => (f j).toV
  | .tup n f => .tup n fun j => (f j).toV
  | .buf id ver off len _ => .buf id ver off len
  | .ptr id ver i j => .ptr id ver i j
  | .elem τ l i j => .elem τ.size l.length (rowsT τ l) i j
  | .ifc t v => .ifc t v.toV
  | .clo fn n f m g => .clo fn n (fun j => (f j).toV) m fun j => (g j).toV
  | .mp id => .mp id
  | .unk => .im .anyb
def DOb.toOb : DOb → Ob
  | .var e s f => .var e s fun j => (f j).toV
  | .arr z e τ ver l => .arr z e τ.size ver l.length (rowsT τ l)
  | .map agg κ τ l => .map agg τ.size l.length (fun i => keyV κ (l.getD i (dflt κ, dflt τ)).1) fun i j => cellT τ (l.getD i (dflt κ, dflt τ)).2 j
  | .gone v => .gone v
structure DSt where
  tm : List (Nat × DV)
  ob : List (Nat × DOb)
  next : Nat
  N : Nat
  m : Nat
  wr : Nat → Bool
def DSt.st (σ : DSt) : St := ⟨σ.tm.map fun p => (p.1, p.2.toV), σ.ob.map fun p => (p.1, p.2.toOb), σ.next, σ.N⟩
def dlk : List (Nat × DV) → Nat → DV
  | [], _ => .dead
  | (k, v) :: l, t => cond (Nat.beq k t) v (dlk l t)
def dlo : List (Nat × DOb) → Nat → Option DOb
  | [], _ => none
  | (k, o) :: l, t => cond (Nat.beq k t) (some o) (dlo l t)
def DSt.get (σ : DSt) (t : Nat) : DV := dlk σ.tm t
def DSt.O (σ : DSt) : Nat → Option DOb := dlo σ.ob
/-- A list as a function. -/
def dl (l : List DV) (j : Nat) : DV := l.getD j .dead
/-- A literal. -/
def dval : Value → DV
  | .int k n => .im (.int k) n
  | .bool b => .im .bool b
  | .string s => .im .str s
  | v => .raw v
def daev (σ : DSt) : Operand → DV
  | .tmp t => σ.get t
  | .const v => dval v
  | .global g => .raw (.pointer (some ⟨g, 0, none⟩))
  | .func f => .clo f 0 (fun _ => .dead) 0 fun _ => .dead
/-- A row's cells as slots. -/
def rowC : (τ : Tp) → den τ → Nat → DV
  | .pair a b, x, j => cond (Nat.blt j a.size) (rowC a x.1 j) (rowC b x.2 (j - a.size))
  | .unit, _, _ => .dead
  | .bool, x, _ => .im .bool x
  | .str, x, _ => .im .str x
  | .int k, x, _ => .im (.int k) x
  | .sl e, x, _ => .im (.sl e) x
/-- How many cells the first of them is. -/
def Tp.nc : Tp → Nat
  | .unit => 0
  | .pair a b => cond (Nat.blt 0 a.size) a.nc b.nc
  | _ => 1
def DV.cell : DV → Nat → DV
  | .agg _ f, j => f j
  | v, _ => v
def DV.ncell : DV → Nat
  | .agg n _ => n
  | .im τ _ => τ.nc
  | .raw v => if v.oneCell' then 1 else 0
  | .dead => 0
  | .tup _ _ => 0
  | _ => 1
end Go.Proofs.Ytlglifgnklngfaa
