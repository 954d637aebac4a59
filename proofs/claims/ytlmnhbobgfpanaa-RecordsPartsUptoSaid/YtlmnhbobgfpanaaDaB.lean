/-
  Typed contents: types of data, their trees; what a slot holds, what is owned, with typed contents. General; nothing of this program.
-/
import Derived.Test.YtlmnhbobgfpanaaTrU
namespace Go.Proofs.Ytlmnhbobgfpanaa
open Go.RowKit
section

@[reducible] def Nk.den : Nk → Type
  | .int _ => Int
  | .str => ByteArray
def Nk.dflt : (κ : Nk) → κ.den
  | .int _ => (0 : Int)
  | .str => ⟨#[]⟩
def Nk.size : Nk → Nat := fun _ => 1
inductive Tp where
  | bool | str
  | hv (κ : Nk)
  | op (e : Tp)
  | int (k : IntKind)
  | sl (q : Qc) (e : Tp)
  | unit
  | pair (a b : Tp)
@[reducible] def den : Tp → Type
  | .bool => Bool
  | .str => ByteArray
  | .int _ => Int
  | .hv κ => κ.den
  | .op e => den e
  | .sl _ e => List (den e)
  | .unit => Unit
  | .pair a b => den a × den b
def dflt : (τ : Tp) → den τ
  | .bool => false
  | .str => ⟨#[]⟩
  | .int _ => (0 : Int)
  | .hv κ => κ.dflt
  | .op e => dflt e
  | .sl _ _ => []
  | .unit => ()
  | .pair a b => (dflt a, dflt b)
def Tp.size : Tp → Nat
  | .unit => 0
  | .pair a b => a.size + b.size
  | _ => 1
def cellT : (τ : Tp) → den τ → Nat → T
  | .bool, b, 0 => .val (.bool b)
  | .str, s, 0 => .val (.string s)
  | .int k, n, 0 => .val (.int k n)
  | .hv κ, _, 0 => .anyn κ
  | .op _, _, 0 => .opq
  | .sl q e, l, 0 => .sl q e.size l.length fun i j => cellT e (l.getD i (dflt e)) j
  | .pair a b, x, j => if j < a.size then cellT a x.1 j else cellT b x.2 (j - a.size)
  | _, _, _ => .val undef
abbrev rowsT (τ : Tp) (l : List (den τ)) : Nat → Nat → T := fun i j => cellT τ (l.getD i (dflt τ)) j

def ikEq : IntKind → IntKind → Bool
  | .i8, .i8 | .i16, .i16 | .i32, .i32 | .i64, .i64 | .u8, .u8 | .u16, .u16 | .u32, .u32 | .u64, .u64 => true
  | _, _ => false
def nkEq : Nk → Nk → Bool
  | .int k, .int k' => ikEq k k'
  | .str, .str => true
  | _, _ => false
def Qc.beq : Qc → Qc → Bool
  | .any, .any | .new, .new | .old, .old | .mid, .mid | .saf, .saf => true
  | _, _ => false
def Qc.leb : Qc → Qc → Bool
  | _, .any | .new, .new | .old, .old | .mid, .mid | .saf, .saf | .new, .saf | .old, .saf => true
  | _, _ => false
theorem Qc.beq_eq {q q' : Qc} (h : q.beq q' = true) : q = q' := by cases q <;> cases q' <;> first | rfl | cases h
theorem Qc.leb_le {q q' : Qc} (h : q.leb q' = true) : q.le q' := by cases q <;> cases q' <;> first | exact .inl rfl | exact .inr (.inl rfl) | exact .inr (.inr ⟨rfl, .inl rfl⟩) | exact .inr (.inr ⟨rfl, .inr rfl⟩) | cases h
def Tp.beq : Tp → Tp → Bool
  | .bool, .bool => true
  | .str, .str => true
  | .int k, .int k' => ikEq k k'
  | .hv κ, .hv κ' => nkEq κ κ'
  | .op e, .op e' => e.beq e'
  | .sl q e, .sl q' e' => q.beq q' && e.beq e'
  | .unit, .unit => true
  | .pair a b, .pair a' b' => a.beq a' && b.beq b'
  | _, _ => false
theorem ikEq_eq {k k' : IntKind} (h : ikEq k k' = true) : k = k' := by cases k <;> cases k' <;> first | rfl | cases h
theorem nkEq_eq {k k' : Nk} (h : nkEq k k' = true) : k = k' := by cases k <;> cases k' <;> first | rfl | (rw [ikEq_eq h]; done) | cases h
theorem Tp.beq_eq {a b : Tp} (h : a.beq b = true) : a = b := by
  induction a generalizing b with
  | bool => cases b <;> first | rfl | cases h
  | str => cases b <;> first | rfl | cases h
  | unit => cases b <;> first | rfl | cases h
  | int k =>
    cases b with
    | int k' => rw [ikEq_eq h]
    | _ => cases h
  | hv κ =>
    cases b with
    | hv κ' => rw [nkEq_eq h]
    | _ => cases h
  | op e ih =>
    cases b with
    | op e' => rw [ih h]
    | _ => cases h
  | sl q e ih =>
    cases b with
    | sl q' e' =>
      simp only [Tp.beq, Bool.and_eq_true] at h
      rw [ih h.2, Qc.beq_eq h.1]
    | _ => cases h
  | pair a b ih1 ih2 =>
    cases b with
    | pair a' b' =>
      simp only [Tp.beq, Bool.and_eq_true] at h
      rw [ih1 h.1, ih2 h.2]
    | _ => cases h
def castTp (a b : Tp) (x : den a) : Option (den b) :=
  match h : a.beq b with
  | true => some (Tp.beq_eq h ▸ x)
  | false => none

def Tp.leb : Tp → Tp → Bool
  | .bool, .bool => true
  | .str, .str => true
  | .int k, .int k' => ikEq k k'
  | .int k, .hv (.int k') => ikEq k k'
  | .str, .hv .str => true
  | .hv κ, .hv κ' => nkEq κ κ'
  | .op e, .op e' => e.beq e'
  | .sl q e, .sl q' e' => q.leb q' && e.leb e'
  | .unit, .unit => true
  | .pair a b, .pair a' b' => a.leb a' && b.leb b'
  | _, _ => false
theorem Tp.leb_den {a b : Tp} (h : a.leb b = true) : den a = den b := by
  induction a generalizing b with
  | bool => cases b <;> first | rfl | cases h
  | str =>
    cases b with
    | str => rfl
    | hv κ => cases κ <;> first | rfl | cases h
    | _ => cases h
  | unit => cases b <;> first | rfl | cases h
  | int k =>
    cases b with
    | int k' => rfl
    | hv κ => cases κ <;> first | rfl | cases h
    | _ => cases h
  | hv κ =>
    cases b with
    | hv κ' => rw [nkEq_eq h]
    | _ => cases h
  | op e ih =>
    cases b with
    | op e' => rw [Tp.beq_eq (a := e) (b := e') h]
    | _ => cases h
  | sl q e ih =>
    cases b with
    | sl q' e' =>
      simp only [Tp.leb, Bool.and_eq_true] at h
      simp only [den, ih h.2]
    | _ => cases h
  | pair a b ih1 ih2 =>
    cases b with
    | pair a' b' =>
      simp only [Tp.leb, Bool.and_eq_true] at h
      simp only [den, ih1 h.1, ih2 h.2]
    | _ => cases h
def castLe (a b : Tp) (x : den a) : Option (den b) :=
  match h : a.leb b with
  | true => some (cast (Tp.leb_den h) x)
  | false => none

def Zz.eqb : Zz → Zz → Bool
  | .own none, .own none | .app, .app | .sh, .sh => true
  | .own (some a), .own (some b) => decide (a = b)
  | _, _ => false
theorem Zz.eqb_eq {a b : Zz} (h : a.eqb b = true) : a = b := by
  unfold Zz.eqb at h
  split at h
  · rfl
  · rfl
  · rfl
  · rw [of_decide_eq_true h]
  · cases h
def Zz.isO : Zz → Bool
  | .own _ => true
  | _ => false
def Zz.geb (a b : Zz) : Bool := a.eqb b || (a.isO && b.eqb (.own none))
theorem Zz.geb_ok {a b : Zz} (h : a.geb b = true) : Zz.ok a b := by
  simp only [Zz.geb, Bool.or_eq_true, Bool.and_eq_true] at h
  rcases h with h | ⟨h1, h2⟩
  · exact .inl (Zz.eqb_eq h).symm
  · exact .inr ⟨(by cases a <;> first | exact ⟨_, rfl⟩ | cases h1), .inr (Zz.eqb_eq h2)⟩
def Zz.alive : Zz → Bool
  | .sh => false
  | _ => true
theorem Zz.alive_ne {a : Zz} (h : a.alive = true) : a ≠ .sh := by rintro rfl; cases h
inductive DV where
  | dead
  | im (τ : Tp) (x : den τ)
  | raw (v : Value)
  | agg (n : Nat) (f : Nat → DV)
  | tup (n : Nat) (f : Nat → DV)
  | buf (id ver off len : Nat) (w : Bool)
  | ptr (id ver i j : Nat)
  | elem (q : Qc) (τ : Tp) (l : List (den τ)) (i j : Nat)
  | ifc (t : TypeId) (v : DV)
  | clo (fn : FuncId) (n : Nat) (fst : Nat → DV) (m : Nat) (cap : Nat → DV)
  | mp (id : Nat)
  | vsl (id len : Nat)
  | glo (g : Nat) (t : Nat)
  | sd (q : Qc) (τ : Tp) (l : List (den τ)) (n : Nat)
  | alt (c : Bool) (x y : DV)
  | unk
inductive DOb where
  | var (e : TypeId) (size : Nat) (f : Nat → DV)
  | arr (z : Zz) (e : TypeId) (τ : Tp) (ver : Nat) (l : List (den τ))
  | map (agg : Bool) (κ τ : Tp) (l : List (den κ × den τ))
  | gone (ver : Nat)
def keyV : (κ : Tp) → den κ → Value
  | .int k, n => .int k n
  | .str, s => .string s
  | .bool, b => .bool b
  | _, _ => undef
def DV.isOne : DV → Bool
  | .ifc _ _ => true
  | .raw v => v.oneCell'
  | .glo _ _ => true
  | .elem _ _ _ _ _ => true
  | _ => false
def DV.toV : DV → V
  | .dead => .dead
  | .im τ x => .im (cellT τ x 0)
  | .raw v => .im (.val v)
  | .agg n f => .agg n fun j => (f j).toV
  | .tup n f => .tup n fun j => (f j).toV
  | .buf id ver off len _ => .buf id ver off len
  | .ptr id ver i j => .ptr id ver i j
  | .elem q τ l i j => .elem q τ.size l.length (rowsT τ l) i j
  | .ifc t v => .ifc t v.toV
  | .clo fn n f m g => .clo fn n (fun j => (f j).toV) m fun j => (g j).toV
  | .mp id => .mp id
  | .vsl id len => .vsl id len
  | .glo g t => .im (.glo g t)
  | .sd q τ l n => .im (.slr q τ.size n l.length (rowsT τ l))
  | .alt c x y => cond (x.isOne && y.isOne) (cond c x.toV y.toV) .dead
  | .unk => .im .anyb
def DOb.toOb : DOb → Ob
  | .var e s f => .var e s fun j => (f j).toV
  | .arr z e τ ver l => .arr z e τ.size ver l.length (rowsT τ l)
  | .map agg κ τ l => .map agg τ.size l.length (fun i => keyV κ (l.getD i (dflt κ, dflt τ)).1) fun i j => cellT τ (l.getD i (dflt κ, dflt τ)).2 j
  | .gone v => .gone v
structure DSt where
  tm : List (Nat × DV)
  ob : List (Nat × DOb)
  next : Nat
  N : Nat
  m : Nat
  wr : Nat → Bool
def DSt.st (σ : DSt) : St := ⟨σ.tm.map fun p => (p.1, p.2.toV), σ.ob.map fun p => (p.1, p.2.toOb), σ.next, σ.N⟩
def dlk : List (Nat × DV) → Nat → DV
  | [], _ => .dead
  | (k, v) :: l, t => cond (Nat.beq k t) v (dlk l t)
def dlo : List (Nat × DOb) → Nat → Option DOb
  | [], _ => none
  | (k, o) :: l, t => cond (Nat.beq k t) (some o) (dlo l t)
def DSt.get (σ : DSt) (t : Nat) : DV := dlk σ.tm t
def DSt.O (σ : DSt) : Nat → Option DOb := dlo σ.ob
def dl (l : List DV) (j : Nat) : DV := l.getD j .dead
def dval : Value → DV
  | .int k n => .im (.int k) n
  | .bool b => .im .bool b
  | .string s => .im .str s
  | v => .raw v
def daev (σ : DSt) : Operand → DV
  | .tmp t => σ.get t
  | .const v => dval v
  | .global g => .raw (.pointer (some ⟨g, 0, none⟩))
  | .func f => .clo f 0 (fun _ => .dead) 0 fun _ => .dead
def rowC : (τ : Tp) → den τ → Nat → DV
  | .pair a b, x, j => cond (Nat.blt j a.size) (rowC a x.1 j) (rowC b x.2 (j - a.size))
  | .unit, _, _ => .dead
  | .bool, x, _ => .im .bool x
  | .str, x, _ => .im .str x
  | .int k, x, _ => .im (.int k) x
  | .hv κ, x, _ => .im (.hv κ) x
  | .op e, x, _ => .im (.op e) x
  | .sl q e, x, _ => .im (.sl q e) x
def Tp.nc : Tp → Nat
  | .unit => 0
  | .pair a b => cond (Nat.blt 0 a.size) a.nc b.nc
  | _ => 1
def DV.cell : DV → Nat → DV
  | .agg _ f, j => f j
  | v, _ => v
def DV.ncell : DV → Nat
  | .agg n _ => n
  | .im τ _ => τ.nc
  | .raw v => if v.oneCell' then 1 else 0
  | .dead => 0
  | .tup _ _ => 0
  | .alt _ x y => cond (x.isOne && y.isOne) 1 0
  | _ => 1
end
section

inductive Sh where
  | hole (τ : Tp)
  | own (z : Zz) (e : TypeId) (τ : Tp)
  | mown (agg : Bool) (κ τ : Tp)
  | box (e : TypeId) (n : Nat) (l : Sh)
  | ptr (id : Nat)
  | nilp
  | nils
  | nilv (kd : Nat)
  | alt (q : Bool) (a b : Sh)
  | look (l : Sh)
  | cst (g : Nat) (t : Nat)
  | agg (n : Nat) (l : Sh)
  | tup (n : Nat) (l : Sh)
  | clo (fn : FuncId) (n : Nat) (l : Sh) (m : Nat) (c : Sh)
  | ifc (t : TypeId) (s : Sh)
  | dead
  | nil
  | cons (a b : Sh)
def Sh.ty : Sh → Tp
  | .hole τ => τ
  | .own _ _ τ => .sl .new τ
  | .mown _ κ τ => .sl .new (.pair κ τ)
  | .box _ _ l => l.ty
  | .agg _ l => l.ty
  | .tup _ l => l.ty
  | .clo _ _ l _ c => .pair l.ty c.ty
  | .ifc _ s => s.ty
  | .cons a b => .pair a.ty b.ty
  | .alt _ a b => .pair .bool (.pair a.ty b.ty)
  | .look l => l.ty
  | _ => .unit

structure Ent where
  f : FuncId
  ash : Sh
  osh : Sh
  vsh : Sh
  p : den ash.ty → Option (den osh.ty × den vsh.ty)

structure Spo where
  f : FuncId
  ag : Bool
  τ : Tp
  p : den τ → Bool
  rm : Option (List Zc)

inductive Hint where
  | none
  | ty (τ : Tp)
  | ent (e : Ent)
  | spo (s : Spo)
  | either (a b : Hint)
def Hint.pick : Hint → FuncId → Hint
  | .either (.ent e) b, f => cond (Nat.beq e.f f) (.ent e) (b.pick f)
  | .either _ b, f => b.pick f
  | h, _ => h

def isNil : Value → Bool
  | .slice none 0 0 => true
  | _ => false
def isNilP : Value → Bool
  | .pointer none => true
  | _ => false
def isTup : Value → Bool
  | .tuple _ => true
  | _ => false
section
variable {R : Type}
def nadd : Nat → Nat → Nat
  | 0, n => n
  | k + 1, n => (k + 1) + n
def subl {τ : Tp} (l : List (den τ)) (off len : Nat) (w : Bool) : List (den τ) :=
  cond w l (match off with
    | 0 => l.take len
    | off + 1 => (l.drop (off + 1)).take len)
def wholeB (off len n : Nat) (w : Bool) : Bool := cond w (Nat.beq off 0 && decide (len = n)) (decide (off + len ≤ n))
def dconv (σ : DSt) (τ : Tp) (v : DV) (k : den τ → List (Nat × DOb) → Option R) : Option R :=
  match v with
  | .im τ' x => match castLe τ' τ x with
    | some y => k y []
    | none => none
  | .raw v => cond (isNil v) (match τ, k with
    | .sl _ _, k => k [] []
    | _, _ => none) none
  | .sd q τ' l n => match castLe (.sl q τ') τ (List.take n l) with
    | some y => cond (decide (n ≤ List.length l)) (k y []) none
    | none => none
  | .buf id ver off len w => match σ.O id with
    | some (.arr _ e τ' ver' l) => cond (Nat.beq ver' ver) (match castLe (.sl .new τ') τ (subl (τ := τ') l off len w) with
      | some y => cond (wholeB off len l.length w) (k y [(id, .arr .sh e τ' ver' l)]) none
      | none => none) none
    | _ => none
  | _ => none
def drow (σ : DSt) : (τ : Tp) → (Nat → DV) → (k : den τ → List (Nat × DOb) → Option R) → Option R
  | .pair a b, f, k => drow σ a f fun x u => drow σ b (fun j => f (j + a.size)) fun y u' => k (x, y) (u ++ u')
  | .unit, _, k => k () []
  | .bool, f, k => dconv σ .bool (f 0) k
  | .str, f, k => dconv σ .str (f 0) k
  | .int q, f, k => dconv σ (.int q) (f 0) k
  | .hv κ, f, k => dconv σ (.hv κ) (f 0) k
  | .op e, f, k => dconv σ (.op e) (f 0) k
  | .sl q e, f, k => dconv σ (.sl q e) (f 0) k
def dset1 (σ : DSt) : (τ : Tp) → den τ → Nat → DV → (k : den τ → List (Nat × DOb) → Option R) → Option R
  | .pair a b, x, j, v, k => cond (Nat.blt j a.size) (dset1 σ a x.1 j v fun y u => k (y, x.2) u) (dset1 σ b x.2 (j - a.size) v fun y u => k (x.1, y) u)
  | .unit, _, _, _, _ => none
  | .bool, _, _, v, k => dconv σ .bool v k
  | .str, _, _, v, k => dconv σ .str v k
  | .int q, _, _, v, k => dconv σ (.int q) v k
  | .hv κ, _, _, v, k => dconv σ (.hv κ) v k
  | .op e, _, _, v, k => dconv σ (.op e) v k
  | .sl q e, _, _, v, k => dconv σ (.sl q e) v k
def drows (σ : DSt) (τ : Tp) : List DV → (k : List (den τ) → List (Nat × DOb) → Option R) → Option R
  | [], k => k [] []
  | v :: vs, k => drow σ τ v.cell fun x u => drows σ τ vs fun l us => k (x :: l) (u ++ us)
def dsrc (σ : DSt) (τ : Tp) (v : DV) (k : List Nat → List (den τ) → Option R) : Option R :=
  match v with
  | .im (.sl _ τ') x => match castTp (.sl .new τ') (.sl .new τ) x with
    | some y => k [] y
    | none => none
  | .raw v => cond (isNil v) (k [] []) none
  | .sd _ τ' l n => match castTp (.sl .new τ') (.sl .new τ) (List.take n l) with
    | some y => cond (decide (n ≤ List.length l)) (k [] y) none
    | none => none
  | .buf id ver off len w => match σ.O id with
    | some (.arr _ _ τ' ver' l) => cond (Nat.beq ver' ver) (match castTp (.sl .new τ') (.sl .new τ) (subl (τ := τ') l off len w) with
      | some y => cond (wholeB off len l.length w) (k [id] y) none
      | none => none) none
    | _ => none
  | _ => none
def dover : List (Nat × Nat × DV) → (Nat → DV) → Nat → DV
  | [], g, j => g j
  | (off, sz, v) :: ps, g, j => dover ps (fun j => cond (Nat.ble off j && Nat.blt j (off + sz)) (v.cell (j - off)) (g j)) j
def dbnd (σ : DSt) (d : Nat) (x : Option Operand) (k : Nat → Option R) : Option R :=
  match x with
  | none => k d
  | some x => match daev σ x with
    | .im (.int _) n => cond (decide ((0 : Int) ≤ n)) (k (Int.toNat n)) none
    | _ => none
def dint (op : BinOp) (k : IntKind) (x y : Int) (K : DV → Option R) : Option R :=
  match op with
  | .add => K (.im (.int k) (k.wrap (x + y)))
  | .sub => K (.im (.int k) (k.wrap (x - y)))
  | .mul => K (.im (.int k) (k.wrap (x * y)))
  | .quo => cond (!(y == 0)) (K (.im (.int k) (k.wrap (x.tdiv y)))) none
  | .rem => cond (!(y == 0)) (K (.im (.int k) (x.tmod y))) none
  | .and => K (.im (.int k) (k.wrap ((BitVec.ofInt k.bits x) &&& (BitVec.ofInt k.bits y)).toNat))
  | .or => K (.im (.int k) (k.wrap ((BitVec.ofInt k.bits x) ||| (BitVec.ofInt k.bits y)).toNat))
  | .xor => K (.im (.int k) (k.wrap ((BitVec.ofInt k.bits x) ^^^ (BitVec.ofInt k.bits y)).toNat))
  | .andNot => K (.im (.int k) (k.wrap ((BitVec.ofInt k.bits x) &&& ~~~(BitVec.ofInt k.bits y)).toNat))
  | .eql => K (.im .bool (x == y))
  | .neq => K (.im .bool (x != y))
  | .lss => K (.im .bool (decide (x < y)))
  | .leq => K (.im .bool (decide (x ≤ y)))
  | .gtr => K (.im .bool (decide (x > y)))
  | .geq => K (.im .bool (decide (x ≥ y)))
  | _ => none
def dstr (op : BinOp) (x y : ByteArray) (K : DV → Option R) : Option R :=
  match op with
  | .add => cond (decide (x.size + y.size ≤ 9223372036854775807)) (K (.im .str (x ++ y))) none
  | .eql => K (.im .bool (x.toList == y.toList))
  | .neq => K (.im .bool !(x.toList == y.toList))
  | .lss => K (.im .bool (Op.bytesLess x.toList y.toList))
  | .leq => K (.im .bool (Op.bytesLess x.toList y.toList || x.toList == y.toList))
  | .gtr => K (.im .bool !(Op.bytesLess x.toList y.toList || x.toList == y.toList))
  | .geq => K (.im .bool !Op.bytesLess x.toList y.toList)
  | _ => none
def dbin (op : BinOp) (a b : DV) (K : DV → Option R) : Option R :=
  match a, b with
  | .im (.int k) x, .im (.int k') y => match op with
    | .shl => cond (decide ((0 : Int) ≤ y)) (K (.im (.int k) (k.wrap (x * 2 ^ (min (Int.toNat y) k.bits))))) none
    | .shr => cond (decide ((0 : Int) ≤ y)) (K (.im (.int k) (Int.fdiv x (2 ^ (min (Int.toNat y) k.bits))))) none
    | _ => cond (ikEq k k') (dint op k x y K) none
  | .im .str x, .im .str y => dstr op x y K
  | _, _ => none

def dhv (op : BinOp) : (κ : Nk) → κ.den → DV → (DV → Option R) → Option R
  | .int k, x, b, K => match op, b with
    | .add, .im (.int k') _ => cond (ikEq k k') (K (.im (.hv (.int k)) x)) none
    | _, _ => none
  | _, _, _, _ => none
def dbinH (op : BinOp) (a b : DV) (K : DV → Option R) : Option R :=
  match a with
  | .im (.hv κ) x => dhv op κ x b K
  | a => dbin op a b K

def slice' {α : Type} (l : List α) (lo : Nat) (hi : Option Nat) : List α :=
  match lo, hi with
  | 0, none => l
  | lo + 1, none => l.drop (lo + 1)
  | 0, some h => l.take h
  | lo + 1, some h => (l.drop (lo + 1)).take (h - (lo + 1))

end
end
end Go.Proofs.Ytlmnhbobgfpanaa
