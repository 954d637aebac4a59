/-
  Operations, regions and code on typed states. General; nothing of this program.
-/
import Derived.Test.YtlmnhbobgfpanaaDaB
namespace Go.Proofs.Ytlmnhbobgfpanaa
open Go.RowKit

def nilV : Nat → Value
  | 0 => .pointer none
  | 1 => .nilIface
  | _ => .nilFunc
def Sh.closed : Sh → Bool
  | .own .. => false
  | .mown .. => false
  | .box .. => false
  | .ptr _ => false
  | .agg _ l => l.closed
  | .tup _ l => l.closed
  | .clo _ _ l _ c => l.closed && c.closed
  | .ifc _ s => s.closed
  | .cons a b => a.closed && b.closed
  | .alt _ a b => a.closed && b.closed
  | _ => true
def Sh.takes : Sh → DV → Bool
  | .clo fn _ _ _ _, .clo fn' _ _ _ _ => Nat.beq fn' fn
  | .ifc t _, .ifc t' _ => Nat.beq t' t
  | .nilv _, .raw _ => true
  | .nilp, .raw _ => true
  | .hole _, .im _ _ => true
  | .cst g _, .glo g' _ => Nat.beq g g'
  | .look _, .elem _ _ _ _ _ => true
  | .look _, .ptr _ _ _ _ => true
  | .alt _ a b, v => a.takes v || b.takes v
  | _, _ => false
def Sh.mk : (s : Sh) → den s.ty → Nat → List DV × List (Nat × DOb) × Nat
  | .hole τ, x, k => ([.im τ x], [], k)
  | .own zz e τ, l, k => ([.buf k 0 0 (List.length l) true], [(k, .arr zz e τ 0 l)], k + 1)
  | .mown ag κ τ, l, k => ([.mp k], [(k, .map ag κ τ l)], k + 1)
  | .box e n l, x, k => ([.ptr k 0 0 0], (k, .var e n (dl (l.mk x (k + 1)).1)) :: (l.mk x (k + 1)).2.1, (l.mk x (k + 1)).2.2)
  | .ptr id, _, k => ([.ptr id 0 0 0], [], k)
  | .nilp, _, k => ([.raw (.pointer none)], [], k)
  | .nils, _, k => ([.raw (.slice none 0 0)], [], k)
  | .nilv kd, _, k => ([.raw (nilV kd)], [], k)
  | .look l, x, k => ([.elem .any l.ty [x] 0 0], [], k)
  | .cst g t, _, k => ([.glo g t], [], k)
  | .alt q a b, x, k => ([cond (a.closed && b.closed) (cond q (.alt x.1 (dl (a.mk x.2.1 0).1 0) (dl (b.mk x.2.2 0).1 0)) (cond x.1 (dl (a.mk x.2.1 0).1 0) (dl (b.mk x.2.2 0).1 0))) .dead], [], k)
  | .agg n l, x, k => ([.agg n (dl (l.mk x k).1)], (l.mk x k).2)
  | .tup n l, x, k => ([.tup n (dl (l.mk x k).1)], (l.mk x k).2)
  | .clo fn n l m c, x, k => ([.clo fn n (dl (l.mk x.1 k).1) m (dl (c.mk x.2 (l.mk x.1 k).2.2).1)], (l.mk x.1 k).2.1 ++ (c.mk x.2 (l.mk x.1 k).2.2).2.1, (c.mk x.2 (l.mk x.1 k).2.2).2.2)
  | .ifc t s, x, k => ([.ifc t (dl (s.mk x k).1 0)], (s.mk x k).2)
  | .dead, _, k => ([.dead], [], k)
  | .nil, _, k => ([], [], k)
  | .cons a b, x, k => (dl (a.mk x.1 k).1 0 :: (b.mk x.2 (a.mk x.1 k).2.2).1, (a.mk x.1 k).2.1 ++ (b.mk x.2 (a.mk x.1 k).2.2).2.1, (b.mk x.2 (a.mk x.1 k).2.2).2.2)
def Sh.mkP (p : Nat → Nat) : (s : Sh) → den s.ty → Nat → List DV × List (Nat × DOb) × Nat
  | .hole τ, x, k => ([.im τ x], [], k)
  | .own zz e τ, l, k => ([.buf k 0 0 (List.length l) true], [(k, .arr zz e τ 0 l)], k + 1)
  | .mown ag κ τ, l, k => ([.mp k], [(k, .map ag κ τ l)], k + 1)
  | .box e n l, x, k => ([.ptr k 0 0 0], (k, .var e n (dl (l.mkP p x (k + 1)).1)) :: (l.mkP p x (k + 1)).2.1, (l.mkP p x (k + 1)).2.2)
  | .ptr id, _, k => ([.ptr (p id) 0 0 0], [], k)
  | .nilp, _, k => ([.raw (.pointer none)], [], k)
  | .nils, _, k => ([.raw (.slice none 0 0)], [], k)
  | .nilv kd, _, k => ([.raw (nilV kd)], [], k)
  | .look l, x, k => ([.elem .any l.ty [x] 0 0], [], k)
  | .cst g t, _, k => ([.glo g t], [], k)
  | .alt q a b, x, k => ([cond (a.closed && b.closed) (cond q (.alt x.1 (dl (a.mk x.2.1 0).1 0) (dl (b.mk x.2.2 0).1 0)) (cond x.1 (dl (a.mk x.2.1 0).1 0) (dl (b.mk x.2.2 0).1 0))) .dead], [], k)
  | .agg n l, x, k => ([.agg n (dl (l.mkP p x k).1)], (l.mkP p x k).2)
  | .tup n l, x, k => ([.tup n (dl (l.mkP p x k).1)], (l.mkP p x k).2)
  | .clo fn n l m c, x, k => ([.clo fn n (dl (l.mkP p x.1 k).1) m (dl (c.mkP p x.2 (l.mkP p x.1 k).2.2).1)], (l.mkP p x.1 k).2.1 ++ (c.mkP p x.2 (l.mkP p x.1 k).2.2).2.1, (c.mkP p x.2 (l.mkP p x.1 k).2.2).2.2)
  | .ifc t s, x, k => ([.ifc t (dl (s.mkP p x k).1 0)], (s.mkP p x k).2)
  | .dead, _, k => ([.dead], [], k)
  | .nil, _, k => ([], [], k)
  | .cons a b, x, k => (dl (a.mkP p x.1 k).1 0 :: (b.mkP p x.2 (a.mkP p x.1 k).2.2).1, (a.mkP p x.1 k).2.1 ++ (b.mkP p x.2 (a.mkP p x.1 k).2.2).2.1, (b.mkP p x.2 (a.mkP p x.1 k).2.2).2.2)
def Sh.mkM (m : Nat) : (s : Sh) → den s.ty → Nat → List DV × List (Nat × DOb) × Nat
  | .hole τ, x, k => ([.im τ x], [], k)
  | .own zz e τ, l, k => ([.buf (m + k) 0 0 (List.length l) true], [(m + k, .arr zz e τ 0 l)], k + 1)
  | .mown ag κ τ, l, k => ([.mp (m + k)], [(m + k, .map ag κ τ l)], k + 1)
  | .box e n l, x, k => ([.ptr k 0 0 0], (k, .var e n (dl (l.mkM m x (k + 1)).1)) :: (l.mkM m x (k + 1)).2.1, (l.mkM m x (k + 1)).2.2)
  | .ptr id, _, k => ([.ptr id 0 0 0], [], k)
  | .nilp, _, k => ([.raw (.pointer none)], [], k)
  | .nils, _, k => ([.raw (.slice none 0 0)], [], k)
  | .nilv kd, _, k => ([.raw (nilV kd)], [], k)
  | .look l, x, k => ([.elem .any l.ty [x] 0 0], [], k)
  | .cst g t, _, k => ([.glo g t], [], k)
  | .alt q a b, x, k => ([cond (a.closed && b.closed) (cond q (.alt x.1 (dl (a.mk x.2.1 0).1 0) (dl (b.mk x.2.2 0).1 0)) (cond x.1 (dl (a.mk x.2.1 0).1 0) (dl (b.mk x.2.2 0).1 0))) .dead], [], k)
  | .agg n l, x, k => ([.agg n (dl (l.mkM m x k).1)], (l.mkM m x k).2)
  | .tup n l, x, k => ([.tup n (dl (l.mkM m x k).1)], (l.mkM m x k).2)
  | .clo fn n l mm c, x, k => ([.clo fn n (dl (l.mkM m x.1 k).1) mm (dl (c.mkM m x.2 (l.mkM m x.1 k).2.2).1)], (l.mkM m x.1 k).2.1 ++ (c.mkM m x.2 (l.mkM m x.1 k).2.2).2.1, (c.mkM m x.2 (l.mkM m x.1 k).2.2).2.2)
  | .ifc t s, x, k => ([.ifc t (dl (s.mkM m x k).1 0)], (s.mkM m x k).2)
  | .dead, _, k => ([.dead], [], k)
  | .nil, _, k => ([], [], k)
  | .cons a b, x, k => (dl (a.mkM m x.1 k).1 0 :: (b.mkM m x.2 (a.mkM m x.1 k).2.2).1, (a.mkM m x.1 k).2.1 ++ (b.mkM m x.2 (a.mkM m x.1 k).2.2).2.1, (b.mkM m x.2 (a.mkM m x.1 k).2.2).2.2)
def Sh.kinds : Sh → List Bool
  | .own .. => [false]
  | .mown .. => [false]
  | .box _ _ l => true :: l.kinds
  | .agg _ l => l.kinds
  | .tup _ l => l.kinds
  | .clo _ _ l _ c => l.kinds ++ c.kinds
  | .ifc _ s => s.kinds
  | .cons a b => a.kinds ++ b.kinds
  | _ => []
def Sh.plain : Sh → Bool
  | .ptr _ => false
  | .box _ _ l => l.plain
  | .agg _ l => l.plain
  | .tup _ l => l.plain
  | .clo _ _ l _ c => l.plain && c.plain
  | .ifc _ s => s.plain
  | .cons a b => a.plain && b.plain
  | _ => true
def Sh.cnt : Sh → Nat
  | .own .. => 1
  | .mown .. => 1
  | .box _ _ l => l.cnt + 1
  | .agg _ l => l.cnt
  | .tup _ l => l.cnt
  | .clo _ _ l _ c => l.cnt + c.cnt
  | .ifc _ s => s.cnt
  | .cons a b => a.cnt + b.cnt
  | _ => 0
def Sh.chain : Sh → Bool
  | .nil => true
  | .cons _ b => b.chain
  | _ => false
def Sh.ptrs : Sh → List Nat
  | .box _ _ l => l.ptrs
  | .ptr id => [id]
  | .agg _ l => l.ptrs
  | .tup _ l => l.ptrs
  | .clo _ _ l _ c => l.ptrs ++ c.ptrs
  | .ifc _ s => s.ptrs
  | .cons a b => a.ptrs ++ b.ptrs
  | _ => []
def Sh.cells : Sh → Bool
  | .nil => true
  | .cons (.hole τ) b => Nat.beq τ.size 1 && b.cells
  | _ => false
def Sh.len : Sh → Nat
  | .cons _ b => b.len + 1
  | _ => 0
def Tp.flat : Tp → Bool
  | .sl q e => !(q.beq .any) && e.flat
  | .pair a b => a.flat && b.flat
  | _ => true
def Sh.flat : Sh → Bool
  | .hole τ => τ.flat
  | .own z _ τ => z.alive && τ.flat
  | .mown _ _ τ => τ.flat
  | .box _ _ l => l.flat
  | .agg _ l => l.flat
  | .tup _ l => l.flat
  | .clo _ _ l _ c => l.flat && c.flat
  | .ifc _ s => s.flat
  | .cons a b => a.flat && b.flat
  | .alt _ a b => a.flat && b.flat
  | .look _ => false
  | .cst .. => false
  | _ => true
def nodupN : List Nat → Bool
  | [] => true
  | a :: l => !(l.contains a) && nodupN l
inductive Md where
  | no | view | share
def Md.deep : Md → Md
  | .view => .no
  | m => m
def Md.looks : Md → Bool
  | .view => true
  | _ => false
def Md.shares : Md → Bool
  | .share => true
  | _ => false
def Md.sees : Md → Bool
  | .no => false
  | _ => true
def Md.may : Md → Zz → Bool
  | .share, .sh => true
  | .view, _ => true
  | _, _ => false
def Md.col : Md → Qc
  | .view => .any
  | _ => .new
def Md.fit : Md → Zz → Zz → Bool
  | .share, a, b => a.geb b
  | _, a, b => a.eqb b
theorem Md.fit_ok {md : Md} {a b : Zz} (h : md.fit a b = true) : Zz.ok a b ∧ (md ≠ .share → a = b) := by
  cases md with
  | share => exact ⟨Zz.geb_ok h, fun h => absurd rfl h⟩
  | _ => exact ⟨.inl (Zz.eqb_eq h).symm, fun _ => Zz.eqb_eq h⟩
def Md.ids : Md → Nat → List Nat
  | .view, id => [id]
  | _, _ => []
def isNilV : Nat → Value → Bool
  | 0, .pointer none => true
  | 1, .nilIface => true
  | 2, .nilFunc => true
  | _, _ => false
def Sh.alty : Sh → Bool
  | .box _ _ l => l.alty
  | .agg _ l => l.alty
  | .tup _ l => l.alty
  | .clo _ _ l _ c => l.alty || c.alty
  | .ifc _ s => s.alty
  | .cons a b => a.alty || b.alty
  | .alt q a b => !q || (a.alty || b.alty)
  | _ => false
section
variable {R : Type}
def Sh.norm : (s : Sh) → den s.ty → (den s.ty → Option R) → Option R
  | .box _ _ l, x, K => l.norm x K
  | .agg _ l, x, K => l.norm x K
  | .tup _ l, x, K => l.norm x K
  | .clo _ _ l _ c, x, K => l.norm x.1 fun u => c.norm x.2 fun v => K (u, v)
  | .ifc _ s, x, K => s.norm x K
  | .cons a b, x, K => a.norm x.1 fun u => b.norm x.2 fun v => K (u, v)
  | .alt q a b, x, K => cond q (a.norm x.2.1 fun u => b.norm x.2.2 fun v => K (x.1, u, v)) (cond x.1 (a.norm x.2.1 fun u => K (true, u, x.2.2)) (b.norm x.2.2 fun u => K (false, x.2.1, u)))
  | _, x, K => K x
def Sh.normK (s : Sh) (x : den s.ty) (K : den s.ty → Option R) : Option R := cond s.alty (s.norm x K) (K x)
theorem Sh.norm_eq : ∀ (s : Sh) (x : den s.ty) (K : den s.ty → Option R), s.norm x K = K x := by
  intro s
  induction s with
  | box e n l ih => intro x K; exact ih x K
  | agg n l ih => intro x K; exact ih x K
  | tup n l ih => intro x K; exact ih x K
  | ifc t s ih => intro x K; exact ih x K
  | clo fn n l m c ih1 ih2 => intro x K; simp only [Sh.norm, ih1, ih2]; rfl
  | cons a b ih1 ih2 => intro x K; simp only [Sh.norm, ih1, ih2]; rfl
  | alt q a b ih1 ih2 =>
    intro x K
    obtain ⟨c, u, v⟩ := x
    cases q with
    | true => exact (ih1 u _).trans (ih2 v _)
    | false =>
      cases c with
      | true => exact ih1 u _
      | false => exact ih2 v _
  | _ => intro x K; rfl
theorem Sh.normK_eq (s : Sh) (x : den s.ty) (K : den s.ty → Option R) : s.normK x K = K x := by
  unfold Sh.normK
  cases s.alty with
  | true => exact Sh.norm_eq s x K
  | false => rfl
def Sh.get (σ : DSt) (md : Md) : (s : Sh) → (Nat → DV) → (den s.ty → List (Option Nat) → List Nat → Option R) → Option R
  | .hole τ, f, K => match f 0 with
    | .im τ' x => match castLe τ' τ x with
      | some y => K y [] []
      | none => none
    | .raw v => cond (isNil v) (match τ, K with
      | .sl _ _, K => K [] [] []
      | _, _ => none) none
    | .sd q τ' l n => match castLe (.sl q τ') τ (List.take n l) with
      | some y => cond (decide (n ≤ List.length l)) (K y [] []) none
      | none => none
    | .buf id ver off len w => cond md.sees (match σ.O id with
      | some (.arr z' _ τ' ver' l) => cond (Nat.beq ver' ver && md.may z') (match castLe (.sl md.col τ') τ (subl (τ := τ') l off len w) with
        | some y => cond (wholeB off len l.length w) (K y [] (md.ids id)) none
        | none => none) none
      | _ => none) none
    | _ => none
  | .own zz e τ, f, K => match f 0 with
    | .buf id ver off len _ => match σ.O id with
      | some (.arr z' e' τ' ver' l) => cond (md.fit z' zz && (Nat.beq e' e && (Nat.beq ver' ver && Nat.beq off 0))) (match castTp (.sl .new τ') (.sl .new τ) l with
        | some y => cond (decide (len = l.length)) (K y [some id] []) none
        | none => none) none
      | _ => none
    | .raw v => cond (isNil v) (K [] [none] []) none
    | _ => none
  | .mown ag κ τ, f, K => match f 0 with
    | .mp id => match σ.O id with
      | some (.map ag' κ' τ' l) => cond (ag' == ag) (match castTp (.sl .new (.pair κ' τ')) (.sl .new (.pair κ τ)) l with
        | some y => K y [some id] []
        | none => none) none
      | _ => none
    | _ => none
  | .box e n l, f, K => match f 0 with
    | .ptr id 0 0 0 => match σ.O id with
      | some (.var e' n' g) => cond (Nat.beq e' e && Nat.beq n' n) (l.get σ md.deep g fun x s u => K x (some id :: s) u) none
      | _ => none
    | _ => none
  | .ptr id', f, K => match f 0 with
    | .ptr id 0 0 0 => cond (Nat.beq id id') (K () [] []) none
    | _ => none
  | .nilp, f, K => match f 0 with
    | .raw v => cond (isNilP v) (K () [] []) none
    | _ => none
  | .nils, f, K => match f 0 with
    | .raw v => cond (isNil v) (K () [] []) none
    | _ => none
  | .nilv kd, f, K => match f 0 with
    | .raw v => cond (isNilV kd v) (K () [] []) none
    | _ => none
  | .look l, f, K => match f 0 with
    | .ptr id 0 0 0 => cond l.cells (match σ.O id with
      | some (.var _ n g) => cond (md.looks && Nat.beq n l.ty.size) (l.get σ .view g fun x s u => K x s (id :: u)) none
      | some (.arr z _ τ' ver l') => cond (md.shares && (z.eqb .sh && Nat.beq ver 0)) (match castTp (.sl .new τ') (.sl .new l.ty) l' with
        | some [y] => K y [] []
        | _ => none) none
      | _ => none) none
    | .elem _ τ' l' 0 0 => match castTp (.sl .new τ') (.sl .new l.ty) l' with
      | some [y] => K y [] []
      | _ => none
    | _ => none
  | .cst g t, f, K => match f 0 with
    | .glo g' t' => cond (Nat.beq g' g && Nat.beq t' t) (K () [] []) none
    | _ => none
  | .alt _ a b, f, K => cond (a.closed && b.closed) (match f 0 with
    | .alt c x y => cond (x.isOne && y.isOne) (a.get σ .no (fun _ => x) fun u _ _ => b.get σ .no (fun _ => y) fun v _ _ => K (c, u, v) [] []) none
    | _ => cond (a.takes (f 0)) (a.get σ md.deep f fun x s u => K (true, x, dflt b.ty) s u) (b.get σ md.deep f fun y s u => K (false, dflt a.ty, y) s u)) none
  | .agg n l, f, K => match f 0 with
    | .agg n' g => cond (Nat.beq n' n) (l.get σ md g K) none
    | _ => none
  | .tup n l, f, K => match f 0 with
    | .tup n' g => cond (Nat.beq n' n) (l.get σ md.deep g K) none
    | _ => none
  | .clo fn n l m c, f, K => match f 0 with
    | .clo fn' n' g m' g' => cond (Nat.beq fn' fn && (Nat.beq n' n && Nat.beq m' m)) (l.get σ md.deep g fun x s u => c.get σ md.deep g' fun y s' u' => K (x, y) (s ++ s') (u ++ u')) none
    | _ => none
  | .ifc t s, f, K => match f 0 with
    | .ifc t' v => cond (Nat.beq t' t) (s.get σ md.deep (fun _ => v) K) none
    | _ => none
  | .dead, _, K => K () [] []
  | .nil, _, K => K () [] []
  | .cons a b, f, K => a.get σ md f fun x s u => b.get σ md (fun j => f (j + 1)) fun y s' u' => K (x, y) (s ++ s') (u ++ u')

def Ent.wf (en : Ent) : Bool := en.ash.chain && (en.ash.plain && ((en.osh.ptrs ++ en.vsh.ptrs).all (fun i => en.ash.kinds.getD i false) && Nat.ble (en.osh.cnt + en.vsh.cnt) 16))
def rootD (o : Option DOb) (v : DV) : DOb :=
  match o with
  | some (.var e n _) => .var e n v.cell
  | some (.arr z e τ ver _) => match v with
    | .im (.sl _ τ') l' => cond (Nat.beq τ'.size τ.size && z.alive) (.arr z e τ' ver l') (.gone (ver + 1))
    | _ => .gone (ver + 1)
  | some (.map ..) => .gone 1
  | _ => .gone 0
def shownD (o : Option DOb) : DOb :=
  match o with
  | some (.arr _ e τ v l) => .arr .sh e τ v l
  | _ => .gone 0
def isRow : Option DOb → Bool
  | some (.arr ..) => true
  | _ => false
def dcall (σ : DSt) (fr : Nat) (f : FuncId) (evs : List DV) (h : Hint) (K : List Nat → DV → List (Nat × DOb) → Option R) : Option R :=
  match h with
  | .ent en => cond (Nat.beq en.f f && (Nat.beq evs.length en.ash.len && en.wf)) (en.ash.get σ .view (dl evs) fun x s u =>
      cond (s.all Option.isSome && (nodupN (s.filterMap id) && u.all fun q => !((s.filterMap id).contains q) && (isRow (σ.O q) || (en.osh.flat && en.vsh.flat)))) (Option.bind (en.p x) fun y => en.osh.normK y.1 fun y1 => en.vsh.normK y.2 fun y2 =>
        K (s.filterMap id ++ u) (dl (en.vsh.mkP (fun i => (s.filterMap id).getD i 0) y2 (en.osh.mkP (fun i => (s.filterMap id).getD i 0) y1 fr).2.2).1 0)
          ((s.filterMap id).zipIdx.map (fun p => (p.1, rootD (σ.O p.1) (dl (en.osh.mkP (fun i => (s.filterMap id).getD i 0) y1 fr).1 p.2))) ++ ((en.osh.mkP (fun i => (s.filterMap id).getD i 0) y1 fr).2.1 ++ ((en.vsh.mkP (fun i => (s.filterMap id).getD i 0) y2 (en.osh.mkP (fun i => (s.filterMap id).getD i 0) y1 fr).2.2).2.1 ++
            cond (en.osh.flat && en.vsh.flat) [] (u.map fun id => (id, shownD (σ.O id))))))) none) none
  | _ => none

def dpick (b : Bool) (x y : DV) (K : DV → Option R) : Option R :=
  match x, y with
  | .im τ u, .im τ' v => match castTp τ' τ v with
    | some v => K (.im τ (cond b u v))
    | none => cond b (K x) (K y)
  | _, _ => cond b (K x) (K y)

def dkdEq : Kd → DV → DV → Option Bool
  | .int, .im (.int k) a, .im (.int k') b => cond (ikEq k k') (some ((a : Int) == (b : Int))) none
  | .bool, .im .bool a, .im .bool b => some ((a : Bool) == (b : Bool))
  | .str, .im .str a, .im .str b => some ((a : ByteArray) == (b : ByteArray))
  | _, _, _ => none
def dcells (f g : Nat → DV) : List Kd → Nat → Option Bool
  | [], _ => some true
  | k :: ks, j => match dkdEq k (f j) (g j), dcells f g ks (j + 1) with
    | some u, some v => some (u && v)
    | _, _ => none
def dsel {R : Type} : Nat → Nat → Int → (Nat → Option R) → Option R
  | 0, _, _, _ => none
  | n + 1, j, i, k => cond (i == (j : Int)) (k j) (dsel n (j + 1) i k)
def Nk.denQ : (κ : Nk) → κ.den → κ.den → Bool
  | .int _, a, b => (a : Int) == b
  | .str, a, b => (a : ByteArray).data.toList == (b : ByteArray).data.toList
theorem Nk.denQ_iff : ∀ (κ : Nk) (a b : κ.den), κ.denQ a b = true ↔ a = b
  | .int _, a, b => by simp [Nk.denQ]
  | .str, a, b => by
    simp only [Nk.denQ, beq_iff_eq]
    constructor
    · intro h
      obtain ⟨⟨a⟩⟩ := a
      obtain ⟨⟨b⟩⟩ := b
      simp only at h
      rw [h]
    · rintro rfl; rfl
def denQ : (τ : Tp) → den τ → den τ → Bool
  | .bool, a, b => (a : Bool) == b
  | .str, a, b => ByteArray.toList a == ByteArray.toList b && (a : ByteArray).data.toList == (b : ByteArray).data.toList
  | .int _, a, b => (a : Int) == b
  | .hv κ, a, b => κ.denQ a b
  | .op e, a, b => denQ e a b
  | .sl _ e, a, b => listQ (denQ e) a b
  | .unit, _, _ => true
  | .pair u v, a, b => denQ u a.1 b.1 && denQ v a.2 b.2
where listQ {α : Type} (q : α → α → Bool) : List α → List α → Bool
  | [], [] => true
  | x :: l, y :: m => q x y && listQ q l m
  | _, _ => false
theorem listQ_iff {α : Type} {q : α → α → Bool} (hq : ∀ a b, q a b = true ↔ a = b) : ∀ l m : List α, denQ.listQ q l m = true ↔ l = m
  | [], [] => by simp [denQ.listQ]
  | [], _ :: _ => by simp [denQ.listQ]
  | _ :: _, [] => by simp [denQ.listQ]
  | x :: l, y :: m => by simp [denQ.listQ, hq, listQ_iff hq l m]
theorem denQ_iff : ∀ (τ : Tp) (a b : den τ), denQ τ a b = true ↔ a = b
  | .bool, a, b => by simp [denQ]
  | .str, a, b => by
    simp only [denQ, Bool.and_eq_true, beq_iff_eq]
    constructor
    · rintro ⟨_, h⟩
      obtain ⟨⟨a⟩⟩ := a
      obtain ⟨⟨b⟩⟩ := b
      simp only at h
      rw [h]
    · rintro rfl; exact ⟨rfl, rfl⟩
  | .int _, a, b => by simp [denQ]
  | .hv κ, a, b => by simp only [denQ]; exact κ.denQ_iff a b
  | .op e, a, b => by simp only [denQ]; exact denQ_iff e a b
  | .sl _ e, a, b => by simp only [denQ]; exact listQ_iff (denQ_iff e) a b
  | .unit, a, b => by simp [denQ]
  | .pair u v, a, b => by
    simp only [denQ, Bool.and_eq_true, denQ_iff u, denQ_iff v]
    obtain ⟨a1, a2⟩ := a
    obtain ⟨b1, b2⟩ := b
    simp
def prodQ {α β : Type} (q : α → α → Bool) (q' : β → β → Bool) (a b : α × β) : Bool := q a.1 b.1 && q' a.2 b.2
def sumQ {α β : Type} (q : α → α → Bool) (q' : β → β → Bool) : α ⊕ β → α ⊕ β → Bool
  | .inl a, .inl b => q a b
  | .inr a, .inr b => q' a b
  | _, _ => false
def SoundQ {α : Type} (q : α → α → Bool) : Prop := ∀ a b, q a b = true ↔ a = b
theorem denQ_sound (τ : Tp) : SoundQ (denQ τ) := denQ_iff τ
theorem prodQ_sound {α β : Type} {q : α → α → Bool} {q' : β → β → Bool} (h : SoundQ q) (h' : SoundQ q') : SoundQ (prodQ q q') := fun ⟨a1, a2⟩ ⟨b1, b2⟩ => by
  simp only [prodQ, Bool.and_eq_true, h a1 b1, h' a2 b2, Prod.mk.injEq]
theorem sumQ_sound {α β : Type} {q : α → α → Bool} {q' : β → β → Bool} (h : SoundQ q) (h' : SoundQ q') : SoundQ (sumQ q q') := fun a b => by
  cases a <;> cases b <;> simp [sumQ, h _ _, h' _ _]
def both {R : Type} (q : R → R → Bool) (a b : Option R) : Option R :=
  match a, b with
  | some x, some y => cond (q x y) (some x) none
  | _, _ => none
theorem both_some {R : Type} {q : R → R → Bool} (hq : SoundQ q) {a b : Option R} {r : R} (h : both q a b = some r) : a = some r ∧ b = some r := by
  unfold both at h
  split at h
  · rename_i x y
    cases hb : q x y with
    | false => rw [hb] at h; cases h
    | true =>
      rw [hb] at h
      have := (hq x y).1 hb
      subst this
      exact ⟨h, h⟩
  · cases h
def nilKd : Nat → Value → Bool
  | 0, .pointer none => true
  | 1, .nilIface => true
  | 2, .nilFunc => true
  | 3, .slice none 0 0 => true
  | _, _ => false
def dnilc (v : DV) (K : DV → Option R) : Option R :=
  match v with
  | .ptr .. => K v
  | .elem .. => K v
  | .clo .. => K v
  | _ => none
def dnilq (kd : Nat) (ng : Bool) (v : DV) (K : DV → Option R) : Option R :=
  match v with
  | .ptr .. => cond (Nat.beq kd 0) (K (.im .bool ng)) none
  | .elem .. => cond (Nat.beq kd 0) (K (.im .bool ng)) none
  | .ifc .. => cond (Nat.beq kd 1) (K (.im .bool ng)) none
  | .glo .. => cond (Nat.beq kd 1) (K (.im .bool ng)) none
  | .clo .. => cond (Nat.beq kd 2) (K (.im .bool ng)) none
  | .raw q => cond (nilKd kd q) (K (.im .bool (!ng))) none
  | .buf .. => cond (Nat.beq kd 3) (K .unk) none
  | .im (.sl _ τ) l => cond (Nat.beq kd 3) (cond (Nat.blt 0 τ.size && decide (0 < List.length l)) (K (.im .bool ng)) (K .unk)) none
  | _ => none
def dpure (p : PO) (vs : List DV) (K : DV → Option R) : Option R :=
  match p, vs with
  | .nilc, [v] => dnilc v K
  | .capn, [x] => match x with
    | .raw v => cond (isNil v) (K (.im (.int .i64) 0)) none
    | _ => none
  | .sidx, [x, i] => match x, i with
    | .im .str s, .im (.int _) i => cond (decide ((0 : Int) ≤ i ∧ (i : Int) < (ByteArray.size s : Int))) (K (.im (.int .u8) (bAt s (Int.toNat i)))) none
    | _, _ => none
  | .neg, [x] => match x with
    | .im (.int k) n => K (.im (.int k) (k.wrap (0 - (n : Int))))
    | _ => none
  | .com, [x] => match x with
    | .im (.int k) n => dint .xor k (if k.signed then -1 else k.max) n K
    | _ => none
  | .nilq kd ng, [v] => dnilq kd ng v K
  | .aidx ag sz len, [x, i] => match x, i with
    | .agg n f, .im (.int _) i => cond (Nat.beq n (len * sz)) (cond (decide ((0 : Int) ≤ i ∧ (i : Int) < (len : Int))) (dsel len 0 i fun j => K (cond ag (.agg sz fun k => f (j * sz + k)) (f (j * sz)))) none) none
    | _, _ => none
  | .gidx len, [x, i] => match x, i with
    | .raw (.pointer (some ⟨g, 0, none⟩)), .im (.int _) i => match glk gnum g with
      | some (k, cs) => cond (decide ((0 : Int) ≤ i ∧ (i : Int) < (len : Int) ∧ cs.length = len)) (K (.elem .old (.int k) cs (Int.toNat i) 0)) none
      | none => none
    | _, _ => none
  | .mm3 big, [x, y, z] => match x, y, z with
    | .im (.int k) a, .im (.int _) b, .im (.int _) c => K (.im (.int k) (cond big (if (c : Int) > (if (b : Int) > a then b else a) then c else (if (b : Int) > a then b else a)) (if (c : Int) < (if (b : Int) < a then b else a) then c else (if (b : Int) < a then b else a))))
    | _, _, _ => none
  | _, _ => none
def numsOf (s : ByteArray) : List Int := s.data.toList.map fun b => (b.toNat : Int)
def eqK : (κ : Tp) → den κ → den κ → Bool
  | .int _, a, b => (a : Int) == b
  | .str, a, b => (a : ByteArray) == b
  | .bool, a, b => (a : Bool) == b
  | _, _, _ => false
def lookM (κ : Tp) {α : Type} : List (den κ × α) → den κ → Option α
  | [], _ => none
  | p :: l, k => cond (eqK κ k p.1) (some p.2) (lookM κ l k)
def hasM (κ : Tp) {α : Type} : List (den κ × α) → den κ → Bool
  | [], _ => false
  | p :: l, k => eqK κ k p.1 || hasM κ l k
def idxM (κ : Tp) {α : Type} : List (den κ × α) → den κ → Nat
  | [], _ => 0
  | p :: l, k => cond (eqK κ k p.1) 0 (idxM κ l k + 1)
def setM (κ : Tp) {α : Type} : List (den κ × α) → den κ → α → List (den κ × α)
  | [], k, v => [(k, v)]
  | p :: l, k, v => cond (eqK κ k p.1) ((p.1, v) :: l) (p :: setM κ l k v)
def entM (κ : Tp) {α : Type} (l : List (den κ × α)) (k : den κ) (z : α) : List (den κ × α) := cond (hasM κ l k) l (l ++ [(k, z)])
def putM {β α : Type} : List (β × α) → Nat → α → List (β × α)
  | [], _, _ => []
  | p :: l, 0, v => (p.1, v) :: l
  | p :: l, n + 1, v => p :: putM l n v
def kkOk : KK → Tp → Bool
  | .int k, .int k' => ikEq k k'
  | .str, .str => true
  | .bool, .bool => true
  | _, _ => false
def isAggD : DV → Bool
  | .agg .. => true
  | _ => false
def atD (agg : Bool) (sz : Nat) (τ : Tp) (y : den τ) : DV := cond agg (.agg sz fun k => rowC τ y k) (rowC τ y 0)
def lookD (cok : Bool) (v : DV) (ok : Bool) : DV := cond cok (.tup 2 fun j => cond (Nat.beq j 0) v (.im .bool ok)) v
def dintO (σ : DSt) : Option Operand → Bool
  | none => true
  | some x => match daev σ x with
    | .im (.int _) _ => true
    | _ => false
def copyL {α : Type} (l : List α) (off n : Nat) (m : List α) : List α :=
  match off with
  | 0 => m.take n ++ l.drop (min m.length n)
  | o + 1 => l.take (o + 1) ++ (m.take n ++ l.drop (o + 1 + min m.length n))
def dsem (σ : DSt) (fr : Nat) (o : AOp) (h : Hint) (K : List Nat → DV → List (Nat × DOb) → Option R) : Option R :=
  match o with
  | .mov x => K [] (daev σ x) []
  | .mkmap _ agg sz r => match h with
    | .ty (.pair κ τ) => cond (Nat.beq τ.size sz && ((agg || Nat.beq sz 1) && dintO σ r)) (K [] (.mp fr) [(fr, .map agg κ τ [])]) none
    | _ => none
  | .mlook kc cok agg sz z x i => match daev σ x, daev σ i with
    | .mp id, .im κ' kv => match σ.O id with
      | some (.map agg' κ τ l) => cond (agg' == agg && (kkOk kc κ && (Nat.beq τ.size sz && (agg || Nat.beq sz 1)))) (match castTp κ' κ kv with
        | some k => drow σ τ (fun j => dval (z.getD j undef)) fun zv us => cond us.isEmpty (K [id] (lookD cok (atD agg sz τ ((lookM κ l k).getD zv)) (hasM κ l k)) []) none
        | none => none) none
      | _ => none
    | _, _ => none
  | .mset kc agg sz m i x => match daev σ m, daev σ i with
    | .mp id, .im κ' kv => match σ.O id with
      | some (.map agg' κ τ l) => cond (agg' == agg && (kkOk kc κ && (Nat.beq τ.size sz && ((agg || Nat.beq sz 1) && (Nat.beq (daev σ x).ncell sz && (isAggD (daev σ x) == agg)))))) (match castTp κ' κ kv with
        | some k => drow σ τ (daev σ x).cell fun row us => cond (us.all fun u => !(Nat.beq u.1 id)) (K (id :: us.map (·.1)) (.raw undef) ((id, .map agg κ τ (setM κ l k row)) :: us)) none
        | none => none) none
      | _ => none
    | _, _ => none
  | .ment kc agg sz z m i => match daev σ m, daev σ i with
    | .mp id, .im κ' kv => match σ.O id with
      | some (.map agg' κ τ l) => cond (agg' == agg && (kkOk kc κ && (Nat.beq τ.size sz && (agg || Nat.beq sz 1)))) (match castTp κ' κ kv with
        | some k => drow σ τ (fun j => dval (z.getD j undef)) fun zv us => cond us.isEmpty (K [id] (.tup 2 fun j => cond (Nat.beq j 0) (atD agg sz τ ((lookM κ l k).getD zv)) (.im (.int .i64) ((idxM κ l k : Nat) : Int))) [(id, .map agg κ τ (entM κ l k zv))]) none
        | none => none) none
      | _ => none
    | _, _ => none
  | .mest agg sz m s x => match daev σ m, daev σ s with
    | .mp id, .im (.int _) q => match σ.O id with
      | some (.map agg' κ τ l) => cond (agg' == agg && (Nat.beq τ.size sz && ((agg || Nat.beq sz 1) && (Nat.beq (daev σ x).ncell sz && (isAggD (daev σ x) == agg))))) (cond (decide ((0 : Int) ≤ q ∧ q < (List.length l : Int)))
        (drow σ τ (daev σ x).cell fun row us => cond (us.all fun u => !(Nat.beq u.1 id)) (K (id :: us.map (·.1)) (.raw undef) ((id, .map agg κ τ (putM l (Int.toNat q) row)) :: us)) none) none) none
      | _ => none
    | _, _ => none
  | .mlen x => match daev σ x with
    | .mp id => match σ.O id with
      | some (.map _ _ _ l) => K [id] (.im (.int .i64) (List.length l : Int)) []
      | _ => none
    | _ => none
  | .pick c x y => match daev σ c with
    | .im .bool b => dpick b (daev σ x) (daev σ y) fun v => K [] v []
    | _ => none
  | .alloc e sz z => K [] (.ptr fr 0 0 0) [(fr, .var e sz fun j => dval (z.getD j undef))]
  | .box e sz x => cond (Nat.beq (daev σ x).ncell sz) (K [] (.ptr fr 0 0 0) [(fr, .var e sz (daev σ x).cell)]) none
  | .build sz z parts => cond (parts.all fun p => Nat.beq (daev σ p.2.2).ncell p.2.1)
      (K [] (.agg sz (dover (parts.map fun p => (p.1, p.2.1, daev σ p.2.2)) fun j => dval (z.getD j undef))) []) none
  | .bslice e sz len _ parts => match h with
    | .ty τ => cond (Nat.beq τ.size sz && (Nat.beq parts.length len && parts.all fun p => Nat.beq (daev σ p.2).ncell sz))
      (drows σ τ (parts.map fun p => daev σ p.2) fun l us => K (us.map (·.1)) (.buf fr 0 0 len true) ((fr, .arr (.own none) e τ 0 l) :: us)) none
    | _ => none
  | .cslice e len parts => cond (parts.all fun p => Nat.beq (daev σ p.2).ncell 1) (K [] (.vsl fr len) [(fr, .var e len fun j => (daev σ (parts.getD j (0, .const undef)).2).cell 0)]) none
  | .load agg sz x => match daev σ x with
    | .ptr id ver i j => match σ.O id with
      | some (.var _ size f) => cond (Nat.beq i 0 && (Nat.beq ver 0 && Nat.ble (j + sz) size)) (K [id] (cond agg (.agg sz fun k => f (j + k)) (f j)) []) none
      | some (.arr _ _ τ ver' l) => cond (Nat.beq ver' ver && Nat.ble (j + sz) τ.size && Nat.blt 0 sz) (cond (decide (i < l.length))
          (K [id] (cond agg (.agg sz fun k => rowC τ (l.getD i (dflt τ)) (j + k)) (rowC τ (l.getD i (dflt τ)) j)) []) none) none
      | _ => none
    | .elem _ τ l i j => cond (Nat.ble (j + sz) τ.size && Nat.blt 0 sz) (cond (decide (i < l.length)) (K [] (cond agg (.agg sz fun k => rowC τ (l.getD i (dflt τ)) (j + k)) (rowC τ (l.getD i (dflt τ)) j)) []) none) none
    | .raw (.pointer (some ⟨g, 0, none⟩)) => cond agg none (match gpk gptr g with
      | some t => K [] (.glo g t) []
      | none => none)
    | _ => none
  | .store sz a x => cond (Nat.beq (daev σ x).ncell sz) (match daev σ a with
    | .ptr id ver i j => match σ.O id with
      | some (.var e size f) => cond (Nat.beq i 0 && (Nat.beq ver 0 && Nat.ble (j + sz) size))
          (K [id] (.raw undef) [(id, .var e size fun t => cond (Nat.ble j t && Nat.blt t (j + sz)) ((daev σ x).cell (t - j)) (f t))]) none
      | some (.arr (.own rm) e τ ver' l) => cond (Nat.beq ver' ver) (cond (decide (i < l.length))
          (cond (Nat.beq j 0 && Nat.beq sz τ.size)
            (drow σ τ (daev σ x).cell fun row us => cond (us.all fun u => !(Nat.beq u.1 id)) (K (id :: us.map (·.1)) (.raw undef) ((id, .arr (.own rm) e τ ver' (l.set i row)) :: us)) none)
            (cond (Nat.beq sz 1 && Nat.blt j τ.size)
              (dset1 σ τ (l.getD i (dflt τ)) j ((daev σ x).cell 0) fun row us => cond (us.all fun u => !(Nat.beq u.1 id)) (K (id :: us.map (·.1)) (.raw undef) ((id, .arr (.own rm) e τ ver' (l.set i row)) :: us)) none) none)) none) none
      | _ => none
    | _ => none) none
  | .faddr off x => match daev σ x with
    | .ptr id ver i j => K [] (.ptr id ver i (j + off)) []
    | .elem q τ l i j => K [] (.elem q τ l i (j + off)) []
    | _ => none
  | .iaddr sz x i => match daev σ i with
    | .im (.int _) q => match daev σ x with
      | .buf id ver off len _ => match σ.O id with
        | some (.arr _ _ τ ver' _) => cond (Nat.beq ver' ver && Nat.beq τ.size sz) (cond (decide ((0 : Int) ≤ q ∧ q < (len : Int))) (K [id] (.ptr id ver (nadd off (Int.toNat q)) 0) []) none) none
        | _ => none
      | .im (.sl qc τ) l => cond (Nat.beq τ.size sz) (cond (decide ((0 : Int) ≤ q ∧ q < (List.length l : Int))) (K [] (.elem qc τ l (Int.toNat q) 0) []) none) none
      | .vsl id len => match σ.O id with
        | some (.var _ size _) => cond (Nat.beq sz 1 && Nat.ble len size) (cond (decide ((0 : Int) ≤ q ∧ q < (len : Int))) (dsel len 0 q fun j => K [id] (.ptr id 0 0 j) []) none) none
        | _ => none
      | _ => none
    | _ => none
  | .bin op x y => dbinH op (daev σ x) (daev σ y) fun v => K [] v []
  | .beq neg x y => match daev σ x, daev σ y with
    | .im .bool a, .im .bool b => K [] (.im .bool (cond neg (!((a : Bool) == b)) ((a : Bool) == b))) []
    | _, _ => none
  | .seq neg ks x y => match daev σ x, daev σ y with
    | .agg n f, .agg m g => cond (Nat.beq n ks.length && Nat.beq m ks.length) (match dcells f g ks 0 with
      | some r => K [] (.im .bool (cond neg (!r) r)) []
      | none => none) none
    | _, _ => none
  | .not x => match daev σ x with
    | .im .bool a => K [] (.im .bool (!a)) []
    | _ => none
  | .conv k x => match daev σ x with
    | .im (.int _) n => K [] (.im (.int k) (k.wrap n)) []
    | _ => none
  | .fld agg off sz x => match daev σ x with
    | .agg n f => cond (Nat.ble (off + sz) n) (K [] (cond agg (.agg sz fun k => f (off + k)) (f off)) []) none
    | _ => none
  | .slc sz x lo hi => match daev σ x with
    | .im .str s => cond (Nat.beq sz 0) (dbnd σ 0 lo fun l => dbnd σ (ByteArray.size s) hi fun h => cond (decide (l ≤ h ∧ h ≤ ByteArray.size s)) (K [] (.im .str (ByteArray.extract s l h)) []) none) none
    | .im (.sl q τ) l => cond (Nat.beq τ.size sz && Nat.blt 0 sz) (dbnd σ 0 lo fun lo' => match hi with
        | none => cond (decide (lo' ≤ List.length l)) (K [] (.im (.sl q τ) (slice' (l : List (den τ)) lo' none)) []) none
        | some hi => dbnd σ 0 (some hi) fun hi' => cond (decide (lo' ≤ hi' ∧ hi' ≤ List.length l)) (K [] (.im (.sl q τ) (slice' (l : List (den τ)) lo' (some hi'))) []) none) none
    | .sd q τ l _ => cond (Nat.beq τ.size sz && Nat.blt 0 sz) (dbnd σ 0 lo fun lo' => match hi with
        | none => none
        | some hi => dbnd σ 0 (some hi) fun hi' => cond (decide (lo' ≤ hi' ∧ hi' ≤ List.length l)) (K [] (.im (.sl q τ) (slice' (l : List (den τ)) lo' (some hi'))) []) none) none
    | .raw v => cond (isNil v) (dbnd σ 0 lo fun l => dbnd σ 0 hi fun h => cond (Nat.blt 0 sz && (Nat.beq l 0 && Nat.beq h 0)) (K [] (.raw (.slice none 0 0)) []) none) none
    | .buf id ver off len _ => match σ.O id with
      | some (.arr _ _ τ ver' o) => cond (Nat.beq ver' ver && (Nat.beq τ.size sz && Nat.blt 0 sz)) (dbnd σ 0 lo fun l => dbnd σ len hi fun h => cond (decide (l ≤ h ∧ off + h ≤ List.length o)) (K [id] (.buf id ver (nadd off l) (h - l) false) []) none) none
      | _ => none
    | _ => none
  | .make rm e sz z bytes len cap => match h with
    | .ty τ => match daev σ len, daev σ cap with
      | .im (.int _) n, .im (.int _) c => cond (Nat.beq τ.size sz) (cond (decide ((0 : Int) ≤ n ∧ (n : Int) ≤ c ∧ (c : Int) ≤ 9223372036854775807 ∧ (bytes : Int) * c ≤ 140737488355328))
          (drow σ τ (fun j => dval (z.getD j undef)) fun row us => cond us.isEmpty (K [] (.buf fr 0 0 (Int.toNat n) true) [(fr, .arr (cond rm .app (.own (rmOf z))) e τ 0 (List.replicate (Int.toNat n) row))]) none) none) none
      | _, _ => none
    | _ => none
  | .len str x => match daev σ x with
    | .im .str s => cond str (K [] (.im (.int .i64) (ByteArray.size s : Int)) []) none
    | .im (.sl _ _) l => cond str none (K [] (.im (.int .i64) (List.length l : Int)) [])
    | .sd _ _ _ n => cond str none (K [] (.im (.int .i64) (n : Int)) [])
    | .raw v => cond (isNil v && !str) (K [] (.im (.int .i64) 0) []) none
    | .buf _ _ _ len _ => cond str none (K [] (.im (.int .i64) (len : Int)) [])
    | .vsl _ len => cond str none (K [] (.im (.int .i64) (len : Int)) [])
    | _ => none
  | .app e sz z bytes s x => match daev σ s with
    | .buf id ver off len w => match σ.O id with
      | some (.arr z' e' τ ver' l) => cond ((z'.alive && (Nat.beq ver' ver && (Nat.beq τ.size sz && Nat.beq e' e))) && (Nat.beq off 0 && (w || z'.eqb (.own none)))) (cond (wholeB off len l.length w) (dsrc σ τ (daev σ x) fun rd m =>
          cond (decide (List.length (subl (τ := τ) l 0 len w) + m.length ≤ maxLen ∧ (List.length (subl (τ := τ) l 0 len w) + m.length) * bytes ≤ 140737488355328)) (K (id :: rd) (.buf id (ver + 1) 0 (List.length (subl (τ := τ) l 0 len w ++ m)) true) [(id, .arr (z'.gr (rmOf z)) e τ (ver + 1) (subl (τ := τ) l 0 len w ++ m))]) none) none) none
      | _ => none
    | .raw v => match h with
      | .ty τ => cond (isNil v && Nat.beq τ.size sz) (dsrc σ τ (daev σ x) fun rd m =>
          cond (decide (m.length ≤ maxLen ∧ m.length * bytes ≤ 140737488355328)) (K rd (.buf fr 0 0 m.length true) [(fr, .arr (.own (rmOf z)) e τ 0 m)]) none) none
      | _ => none
    | _ => none
  | .apps e s x => match daev σ x with
    | .im .str q => match daev σ s with
      | .buf id ver off len _ => match σ.O id with
        | some (.arr z' e' (.int .u8) ver' l) => cond (z'.alive && (Nat.beq ver' ver && Nat.beq e' e)) (cond (Nat.beq off 0 && decide (len = List.length l)) (
            cond (decide (List.length l + ByteArray.size q ≤ maxLen ∧ List.length l + ByteArray.size q ≤ 140737488355328)) (K [id] (.buf id (ver + 1) 0 (List.length (l ++ numsOf q)) true) [(id, .arr z'.nr e (.int .u8) (ver + 1) (l ++ numsOf q))]) none) none) none
        | _ => none
      | .raw v => cond (isNil v) (cond (decide (ByteArray.size q ≤ maxLen ∧ ByteArray.size q ≤ 140737488355328)) (K [] (.buf fr 0 0 (List.length (numsOf q)) true) [(fr, .arr (.own none) e (.int .u8) 0 (numsOf q))]) none) none
      | _ => none
    | _ => none
  | .ext x i => match daev σ x with
    | .tup n f => cond (Nat.blt i n) (K [] (f i) []) none
    | _ => none
  | .ifc t x => K [] (.ifc t (daev σ x)) []
  | .fn f first cap => K [] (.clo f first.length (dl (first.map (daev σ))) cap.length (dl (cap.map (daev σ)))) []
  | .call f args => dcall σ fr f (args.map (daev σ)) (h.pick f) K
  | .callv f args => match daev σ f with
    | .clo fn n fst m cap => dcall σ fr fn ((List.range n).map fst ++ args.map (daev σ) ++ (List.range m).map cap) (h.pick fn) K
    | _ => none
  | .mm big x y => match daev σ x, daev σ y with
    | .im (.int k) a, .im (.int _) b => K [] (.im (.int k) (cond big (if (b : Int) > a then b else a) (if (b : Int) < a then b else a))) []
    | .im .str a, .im .str b => K [] (.im .str (smm big a b)) []
    | _, _ => none
  | .slc3 sz x lo hi mx => match daev σ x, hi, mx with
    | .im (.sl q τ) l, some hi, some mx => cond (Nat.beq τ.size sz && Nat.blt 0 sz) (dbnd σ 0 (some mx) fun mx' => dbnd σ 0 (some hi) fun hi' => dbnd σ 0 lo fun lo' =>
        cond (decide (lo' ≤ hi' ∧ hi' ≤ mx' ∧ mx' ≤ List.length l)) (K [] (.im (.sl q τ) (slice' (l : List (den τ)) lo' (some hi'))) []) none) none
    | .buf id ver off len _, some hi, some mx => match σ.O id with
      | some (.arr .app _ τ ver' o) => cond (Nat.beq ver' ver && (Nat.beq τ.size sz && Nat.blt 0 sz)) (dbnd σ 0 (some mx) fun mx' => dbnd σ 0 (some hi) fun hi' => dbnd σ 0 lo fun lo' =>
          cond (decide (lo' ≤ hi' ∧ hi' ≤ mx' ∧ mx' ≤ len ∧ off + len ≤ List.length o)) (K [id] (.im (.sl .new τ) (slice' (o : List (den τ)) (nadd off lo') (some (nadd off hi')))) []) none) none
      | _ => none
    | _, _, _ => none
  | .b2b x => match daev σ x with
    | .buf id ver off len _ => match σ.O id with
      | some (.arr (.own _) _ (.int .u8) ver' l) => cond (Nat.beq ver' ver && Nat.beq off 0) (cond (decide (len = List.length l ∧ 0 < len)) (K [id] (.im (.sl .any (.int .u8)) l) [(id, .gone (ver' + 1))]) none) none
      | _ => none
    | _ => none
  | .b2s x => dsrc σ (.int .u8) (daev σ x) fun rd l => K rd (.im .str (strOfNums l)) []
  | .copy sz d s => match daev σ d with
    | .buf id ver off len w => match σ.O id with
      | some (.arr (.own rm) e τ ver' l) => cond (Nat.beq ver' ver && Nat.beq τ.size sz) (cond (wholeB off len l.length w) (dsrc σ τ (daev σ s) fun rd m =>
          K (id :: rd) (.im (.int .i64) ((min m.length len : Nat) : Int)) [(id, .arr (.own rm) e τ ver' (copyL l off len m))]) none) none
      | _ => none
    | _ => none
  | .appz e sz z bytes s n => match h with
    | .ty τ => match daev σ s, daev σ n with
      | .raw v, .im (.int _) m => cond (isNil v && Nat.beq τ.size sz) (cond (decide ((0 : Int) < m ∧ (m : Int) * bytes ≤ 140737488355328 ∧ (m : Int) ≤ 9223372036854775807))
          (drow σ τ (fun j => dval (z.getD j undef)) fun row us => cond us.isEmpty (K [] (.buf fr 0 0 (Int.toNat m) true) [(fr, .arr (.own none) e τ 0 (List.replicate (Int.toNat m) row))]) none) none) none
      | _, _ => none
    | _ => none
  | .clr sz z x => match daev σ x with
    | .buf id ver off len w => match σ.O id with
      | some (.arr (.own rm) e τ ver' l) => cond (Nat.beq ver' ver && Nat.beq τ.size sz) (cond (wholeB off len l.length w) (drow σ τ (fun j => dval (z.getD j undef)) fun row us =>
          cond us.isEmpty (K [id] (.raw (.tuple #[])) [(id, .arr (.own rm) e τ ver' (copyL l off len (List.replicate len row)))]) none) none) none
      | _ => none
    | _ => none
  | .bad => none
  | .pure p xs => dpure p (xs.map (daev σ)) fun v => K [] v []
  | .s2b _ x => match daev σ x with
    | .im .str s => K [] (.im (.sl .any (.int .u8)) (numsOf s)) []
    | _ => none

def dset : List (Nat × DV) → Nat → DV → List (Nat × DV)
  | [], _, _ => []
  | (k, v) :: l, t, x => cond (Nat.beq k t) ((k, x) :: l) ((k, v) :: dset l t x)
def DSt.fix (σ : DSt) (t : Nat) (b : Bool) : DSt := { σ with tm := dset σ.tm t (.im .bool b) }
def DSt.fixO (σ : DSt) (x : Operand) (b : Bool) : DSt :=
  match x with
  | .tmp t => σ.fix t b
  | _ => σ
def dgs (σ : DSt) (fr : Nat) (r : RO × Hint) (K : DSt → List Nat → DV → List (Nat × DOb) → Option R) : Option R :=
  match r.1.guard with
  | none => dsem σ fr r.1.op r.2 (K σ)
  | some (t, want) => match σ.get t with
    | .im .bool b => cond b
        (cond want (dsem (σ.fix t true) fr r.1.op r.2 (K (σ.fix t true))) (K (σ.fix t true) [] (.raw undef) []))
        (cond want (K (σ.fix t false) [] (.raw undef) []) (dsem (σ.fix t false) fr r.1.op r.2 (K (σ.fix t false))))
    | .raw v => cond (isTup v) (K σ [] (.raw undef) []) none
    | _ => none
def wrs (d : Option Nat) (ups : List (Nat × DOb)) : List Nat := d.toList.map (2 * ·) ++ ups.map fun p => 2 * p.1 + 1
def DSt.upd (σ : DSt) (d : Option Nat) (v : DV) (ups : List (Nat × DOb)) : DSt :=
  { σ with tm := (match d with | some d => (d, v) :: σ.tm | none => σ.tm), ob := ups ++ σ.ob, wr := fun l => (wrs d ups).contains l || σ.wr l }
def dreg (base : Nat) : List (RO × Hint) → Nat → DSt → List Ef → (DSt → List Ef → Option R) → Option R
  | [], _, σ, efs, K => K σ efs
  | r :: rs, i, σ, efs, K => dgs σ (base + 16 * i) r fun σ' rd v ups =>
      dreg base rs (i + 1) (σ'.upd r.1.dst v ups) (efs ++ [⟨base + 16 * i, r.1.rdT ++ rd.map (fun k => 2 * k + 1), r.1.dst, v.toV, ups.map fun p => (p.1, p.2.toOb)⟩]) K
end

structure Ann where
  sl : List Nat
  sh : Sh
  obs : List (Nat × TypeId × Nat)
  osh : Sh
  keepT : List Nat
  keepO : List Nat
def Ann.ty (a : Ann) : Tp := .pair a.sh.ty a.osh.ty
def Ann.put (a : Ann) (σ : DSt) (e : den a.ty) : DSt :=
  { tm := a.sl.zipIdx.map (fun p => (p.1, dl (a.sh.mk e.1 σ.next).1 p.2)) ++ a.keepT.map fun t => (t, σ.get t)
    ob := a.obs.zipIdx.map (fun p => (p.1.1, DOb.var p.1.2.1 p.1.2.2 (dl (a.osh.mk e.2 (a.sh.mk e.1 σ.next).2.2).1 p.2).cell)) ++ (((a.sh.mk e.1 σ.next).2.1 ++ (a.osh.mk e.2 (a.sh.mk e.1 σ.next).2.2).2.1) ++
      a.keepO.filterMap fun id => (σ.O id).map fun o => (id, o))
    next := (a.osh.mk e.2 (a.sh.mk e.1 σ.next).2.2).2.2
    N := σ.N
    m := σ.m
    wr := fun l => !(a.keepT.any (fun t => Nat.beq (2 * t) l) || a.keepO.any fun k => Nat.beq (2 * k + 1) l) || σ.wr l }
def DV.refB (O : Nat → Option DOb) (ids : List Nat) : DV → Bool
  | .buf id ver _ _ _ => ids.contains id && match O id with
    | some (.arr _ _ _ v _) => Nat.ble ver v
    | some (.gone v) => Nat.ble ver v
    | _ => false
  | .ptr id ver _ _ => ids.contains id && match O id with
    | some (.arr _ _ _ v _) => Nat.ble ver v
    | some (.gone v) => Nat.ble ver v
    | some (.var ..) => Nat.beq ver 0
    | _ => false
  | .mp id => ids.contains id && match O id with
    | some (.map ..) => true
    | _ => false
  | .vsl id _ => ids.contains id && match O id with
    | some (.var ..) => true
    | _ => false
  | .alt _ x y => x.refB O ids && y.refB O ids
  | .agg n f => (List.range n).all fun j => (f j).refB O ids
  | .tup n f => (List.range n).all fun j => (f j).refB O ids
  | .ifc _ v => v.refB O ids
  | .clo _ n f m g => ((List.range n).all fun j => (f j).refB O ids) && (List.range m).all fun j => (g j).refB O ids
  | _ => true
def DOb.refB (O : Nat → Option DOb) (ids : List Nat) : DOb → Bool
  | .var _ n f => (List.range n).all fun j => (f j).refB O ids
  | _ => true
def nodupO : List (Option Nat) → Bool
  | [] => true
  | none :: l => nodupO l
  | some a :: l => !(l.contains (some a)) && nodupO l
def Ann.ids (a : Ann) : List Nat := a.obs.map (·.1) ++ a.keepO
def Ann.ok (a : Ann) (σ0 σ : DSt) : Bool :=
  a.keepT.all (fun t => !(σ.wr (2 * t)) && ((σ0.get t).refB σ0.O a.ids && !(a.sl.contains t))) && (a.keepO.all (fun k => !(σ.wr (2 * k + 1)) && Nat.blt k σ0.next && match σ0.O k with
    | some o => o.refB σ0.O a.ids
    | none => false) && (a.obs.all (fun p => Nat.blt p.1 σ0.next && match σ.O p.1, σ0.O p.1 with
      | some (.var e n _), some (.var ..) => Nat.beq e p.2.1 && Nat.beq n p.2.2
      | _, _ => false) && (nodupN a.ids && ((List.range σ0.m).all (fun id => a.ids.contains id) && (a.sh.ptrs ++ a.osh.ptrs).all fun id => (a.obs.map (·.1)).contains id || (a.keepO.contains id && match σ0.O id with
        | some (.var ..) => true
        | _ => false)))))
def Ann.getS {R : Type} (a : Ann) (σ0 σ : DSt) (K : den a.ty → Option R) : Option R :=
  cond (a.ok σ0 σ)
    (a.sh.get σ .share (fun j => σ.get (a.sl.getD j 0)) fun x s _ => a.osh.get σ .share (fun j => match σ.O (a.obs.getD j (0, 0, 0)).1 with
        | some (.var _ n f) => .agg n f
        | _ => .dead) fun y s' _ =>
      cond (nodupO (s ++ s') && (s ++ s').all fun q => match q with
        | some id => !(a.ids.contains id)
        | none => true) (K (x, y)) none) none

def rowV : Nat → (Nat → DV) → Option ((τ : Tp) × den τ)
  | 0, _ => some ⟨.unit, ()⟩
  | n + 1, f => match f 0 with
    | .im τ x => cond (Nat.beq τ.size 1) (match rowV n fun j => f (j + 1) with
      | some ⟨τ', y⟩ => some ⟨.pair τ τ', (x, y)⟩
      | none => none) none
    | _ => none
def Sh.rows (σ : DSt) : Sh → (Nat → DV) → List Nat
  | .hole _, f => match f 0 with
    | .buf id _ _ _ _ => [id]
    | _ => []
  | .box _ _ l, f => match f 0 with
    | .ptr id 0 0 0 => match σ.O id with
      | some (.var _ _ g) => l.rows σ g
      | _ => []
    | _ => []
  | .agg _ l, f => match f 0 with
    | .agg _ g => l.rows σ g
    | _ => []
  | .tup _ l, f => match f 0 with
    | .tup _ g => l.rows σ g
    | _ => []
  | .clo _ _ l _ c, f => match f 0 with
    | .clo _ _ g _ g' => l.rows σ g ++ c.rows σ g'
    | _ => []
  | .ifc _ s, f => match f 0 with
    | .ifc _ v => s.rows σ fun _ => v
    | _ => []
  | .look _, f => match f 0 with
    | .ptr id 0 0 0 => [id]
    | _ => []
  | .alt _ a b, f => cond (a.takes (f 0)) (a.rows σ f) (b.rows σ f)
  | .cons a b, f => a.rows σ f ++ b.rows σ fun j => f (j + 1)
  | _, _ => []
def shareD (σ : DSt) (id : Nat) : Option (Nat × DOb) :=
  match σ.O id with
  | some (.arr _ e τ v l) => some (id, .arr .sh e τ v l)
  | some (.var e n f) => match rowV n f with
    | some ⟨τ, y⟩ => some (id, .arr .sh e τ 0 [y])
    | none => none
  | _ => none
def DSt.share (σ : DSt) (ids : List Nat) : DSt :=
  match ids with
  | [] => σ
  | ids => { σ with ob := ids.filterMap (shareD σ) ++ σ.ob, wr := fun l => (ids.any fun k => Nat.beq (2 * k + 1) l) || σ.wr l }
def Ann.rows (a : Ann) (σ : DSt) : List Nat :=
  a.sh.rows σ (fun j => σ.get (a.sl.getD j 0)) ++ a.osh.rows σ fun j => match σ.O (a.obs.getD j (0, 0, 0)).1 with
    | some (.var _ n f) => .agg n f
    | _ => .dead
def DSt.cut (σ : DSt) (t : Nat) : DSt :=
  match σ.get t with
  | .buf id ver 0 len false => match σ.O id with
    | some (.arr (.own _) e τ ver' l) => cond (Nat.beq ver' ver) { σ with tm := (t, .buf id (ver + 1) 0 len true) :: σ.tm, ob := (id, .arr (.own none) e τ (ver + 1) (List.take len l)) :: σ.ob, wr := fun q => Nat.beq (2 * t) q || (Nat.beq (2 * id + 1) q || σ.wr q) } σ
    | _ => σ
  | _ => σ
def DSt.cuts (σ : DSt) : List Nat → DSt
  | [] => σ
  | t :: ts => (σ.cut t).cuts ts
def cutsOf : List Nat → Sh → List Nat
  | t :: ts, .cons (.own (.own _) _ _) b => t :: cutsOf ts b
  | _ :: ts, .cons _ b => cutsOf ts b
  | _, _ => []
def cutsL : List RVx → Sh → List Nat
  | .tmp t :: rs, .cons (.own (.own _) _ _) b => t :: cutsL rs b
  | _ :: rs, .cons _ b => cutsL rs b
  | _, _ => []
def cutsR : List RVx → Sh → List Nat
  | [.tmp t], .own (.own _) _ _ => [t]
  | rs, .tup _ l => cutsL rs l
  | _, _ => []
def Ann.getC {R : Type} (a : Ann) (σ0 σ : DSt) (K : den a.ty → Option R) : Option R := a.getS σ0 (σ.share (a.rows σ)) K
def Ann.get {R : Type} (a : Ann) (σ0 σ : DSt) (K : den a.ty → Option R) : Option R := a.getC σ0 (σ.cuts (cutsOf a.sl a.sh)) K

def Ann.norm {R : Type} (a : Ann) (s : den a.ty) (K : den a.ty → Option R) : Option R := a.sh.normK s.1 fun u => a.osh.normK s.2 fun v => K (u, v)
theorem Ann.norm_eq {R : Type} (a : Ann) (s : den a.ty) (K : den a.ty → Option R) : a.norm s K = K s := by
  unfold Ann.norm
  rw [Sh.normK_eq, Sh.normK_eq]
  rfl

inductive DC where
  | skip
  | region (rs : List (RO × Hint)) (deps : List (List Nat)) (draw : Bool)
  | scr (rs : List (RO × Hint)) (deps : List (List Nat))
  | seq (x y : DC)
  | join (a : Ann) (x y : DC)
  | zone (cl : Bool) (a : Ann) (x y : DC)
  | age (cl : Bool) (x y : DC)
  | cond (c : Operand) (x y : DC)
  | block (id : Nat) (x : DC)
  | loop (a : Ann) (x : DC)
  | exit (id : Nat)
  | ret
def DC.erase : DC → AC
  | .skip => .skip
  | .region rs deps draw => .region (rs.map (·.1)) deps draw
  | .scr rs deps => .region (rs.map (·.1)) deps false
  | .seq x y => .seq x.erase y.erase
  | .join _ x y => .seq x.erase y.erase
  | .zone _ _ x y => .seq x.erase y.erase
  | .age _ x y => .seq x.erase y.erase
  | .cond c x y => .cond c x.erase y.erase
  | .block id x => .block id x.erase
  | .loop _ x => .loop x.erase
  | .exit id => .exit id
  | .ret => .ret

def loopO {S R : Type} : Nat → (S → Option (S ⊕ R)) → S → Option R
  | 0, _, _ => none
  | n + 1, f, s => match f s with
    | some (.inl s') => loopO n f s'
    | some (.inr r) => some r
    | none => none
def orK {E R : Type} (o : Option (E ⊕ R)) (k : E → Option R) : Option R :=
  match o with
  | some (.inl e) => k e
  | some (.inr r) => some r
  | none => none
def inrO {E R : Type} (o : Option R) : Option (E ⊕ R) := o.map .inr

def Qc.cl : Bool → Qc → Qc
  | false, _ => .old
  | true, .new => .mid
  | true, .old => .old
  | true, _ => .any
def Qc.sp : Qc → Qc
  | .mid => .new
  | .any => .any
  | _ => .old
def Qc.wc : Bool → Qc
  | false => .new
  | true => .mid
def Qc.sf : Bool → Qc → Bool
  | _, .old => true
  | true, .new => true
  | true, .saf => true
  | _, _ => false
def Tp.aged (c : Qc → Qc) : Tp → Tp
  | .sl q e => .sl (c q) (e.aged c)
  | .pair a b => .pair (a.aged c) (b.aged c)
  | τ => τ
theorem Tp.aged_den (c : Qc → Qc) (τ : Tp) : den τ = den (τ.aged c) := by
  induction τ with
  | sl q e ih => simp only [Tp.aged, den, ← ih]
  | pair a b ih1 ih2 => simp only [Tp.aged, den, ← ih1, ← ih2]
  | _ => rfl
def Tp.isSf (md : Bool) : Tp → Bool
  | .sl q e => Qc.sf md q && e.isSf md
  | .pair a b => a.isSf md && b.isSf md
  | _ => true
def DV.aged (kp : Bool) (c : Qc → Qc) (O : Nat → Option DOb) : DV → DV
  | .im τ x => .im (τ.aged c) (cast (τ.aged_den c) x)
  | .raw v => .raw v
  | .agg n f => .agg n fun j => (f j).aged kp c O
  | .tup n f => .tup n fun j => (f j).aged kp c O
  | .ifc t v => .ifc t (v.aged kp c O)
  | .sd q τ l n => .sd (c q) (τ.aged c) (cast (congrArg List (τ.aged_den c)) l) n
  | .buf id ver off len w => match O id with
    | some (.arr z _ τ ver' l) => cond (Nat.beq ver' ver && Nat.blt 0 τ.size) (cond (kp && z.isO) (.buf id ver off len w) <| .sd (c .any) (τ.aged c) (cast (congrArg List (τ.aged_den c)) (List.drop off l)) len) .dead
    | _ => .dead
  | .glo g t => .glo g t
  | .unk => .unk
  | .ptr id ver i j => .ptr id ver i j
  | _ => .dead
def Tp.sfd (md : Bool) : Tp → Tp
  | .sl q e => cond (Qc.sf md q && e.isSf md) (.sl q e) (.op (.sl q e))
  | .pair a b => .pair (a.sfd md) (b.sfd md)
  | τ => τ
theorem Tp.sfd_den (md : Bool) (τ : Tp) : den τ = den (τ.sfd md) := by
  induction τ with
  | sl q e ih =>
    simp only [Tp.sfd]
    cases (Qc.sf md q && e.isSf md) <;> rfl
  | pair a b ih1 ih2 => simp only [Tp.sfd, den, ← ih1, ← ih2]
  | _ => rfl
theorem Tp.sfd_size (md : Bool) (τ : Tp) : (τ.sfd md).size = τ.size := by
  induction τ with
  | sl q e ih =>
    simp only [Tp.sfd]
    cases (Qc.sf md q && e.isSf md) <;> rfl
  | pair a b ih1 ih2 => simp only [Tp.sfd, Tp.size, ih1, ih2]
  | _ => rfl
def DV.safe (md : Bool) (O : Nat → Option DOb) : DV → DV
  | .im τ x => cond (τ.isSf md) (.im τ x) .dead
  | .raw v => .raw v
  | .agg n f => .agg n fun j => (f j).safe md O
  | .tup n f => .tup n fun j => (f j).safe md O
  | .ifc t v => .ifc t (v.safe md O)
  | .glo g t => .glo g t
  | .sd q τ l n => cond (Qc.sf md q && τ.isSf md) (.sd q τ l n) .dead
  | .buf id ver off len w => match O id with
    | some (.arr z _ _ ver' _) => cond (md && (Nat.beq ver' ver && z.isO)) (.buf id ver off len w) .dead
    | _ => .dead
  | .unk => .unk
  | .ptr id ver i j => .ptr id ver i j
  | _ => .dead
def DOb.aged (kp : Bool) (c : Qc → Qc) (O : Nat → Option DOb) : DOb → DOb
  | .var e n f => .var e n fun j => (f j).aged kp c O
  | .arr z e τ v l => cond (kp && z.isO) (.arr z e (τ.aged c) v (cast (congrArg List (τ.aged_den c)) l)) (.gone v)
  | .map .. => .gone 0
  | .gone v => .gone v
def DOb.safe (md : Bool) (O : Nat → Option DOb) : DOb → DOb
  | .var e n f => .var e n fun j => (f j).safe md O
  | .arr z e τ v l => cond (md && z.isO) (.arr z e (τ.sfd md) v (cast (congrArg List (τ.sfd_den md)) l)) (.gone v)
  | .map .. => .gone 0
  | .gone v => .gone v
def DSt.aged (cl : Bool) (σ : DSt) : DSt := { σ with tm := σ.tm.map (fun p => (p.1, p.2.aged cl (Qc.cl cl) σ.O)), ob := σ.ob.map (fun p => (p.1, p.2.aged cl (Qc.cl cl) σ.O)), wr := fun _ => true }
def DSt.safe (md : Bool) (σ : DSt) (ts : List Nat) : DSt := { σ with tm := ts.map (fun t => (t, .dead)) ++ σ.tm.map (fun p => (p.1, p.2.safe md σ.O)), ob := σ.ob.map (fun p => (p.1, p.2.safe md σ.O)), wr := fun _ => true }
def fit1 {R : Type} (τ : Tp) (v : DV) (k : den τ → Option R) : Option R := match v with
  | .im τ' x => match castLe τ' τ x with
    | some y => k y
    | none => none
  | .raw v => cond (isNil v) (match τ, k with
    | .sl _ _, k => k []
    | _, _ => none) none
  | _ => none
def fitD {R : Type} : (τ : Tp) → (Nat → DV) → (den τ → Option R) → Option R
  | .pair a b, f, k => fitD a f fun x => fitD b (fun j => f (j + a.size)) fun y => k (x, y)
  | .unit, _, k => k ()
  | .bool, f, k => fit1 .bool (f 0) k
  | .str, f, k => fit1 .str (f 0) k
  | .int q, f, k => fit1 (.int q) (f 0) k
  | .hv κ, f, k => fit1 (.hv κ) (f 0) k
  | .op e, f, k => fit1 (.op e) (f 0) k
  | .sl q e, f, k => fit1 (.sl q e) (f 0) k
def fitA {R : Type} (ag : Bool) (τ : Tp) (v : DV) (k : den τ → Option R) : Option R := match v with
  | .agg n f => cond (ag && Nat.beq n τ.size) (fitD τ f k) none
  | v => cond (!ag && Nat.beq τ.size 1) (fitD τ (fun _ => v) k) none

def DSt.orW (σ σ0 : DSt) : DSt := { σ with wr := fun l => σ.wr l || σ0.wr l }

mutual
/-- Data that stays what it is said to be when numbers in what may be written over are written over; the same of a cell that may be written itself. -/
def Tp.numb (md : Bool) : Tp → Bool
  | .sl q e => cond (Qc.sf md q) (e.numb md) (e.numI md)
  | .pair a b => a.numb md && b.numb md
  | _ => true
def Tp.numI (md : Bool) : Tp → Bool
  | .int _ => false
  | .str => false
  | .sl q e => cond (Qc.sf md q) (e.numb md) (e.numI md)
  | .pair a b => a.numI md && b.numI md
  | _ => true
end
def Tp.kindAt : Tp → Nat → Option Nk
  | .hv κ, 0 => some κ
  | .pair a b, j => cond (Nat.blt j a.size) (a.kindAt j) (b.kindAt (j - a.size))
  | _, _ => none
def DV.kind : DV → Option Nk
  | .im (.hv κ) _ => some κ
  | .im (.int k) _ => some (.int k)
  | .im .str _ => some .str
  | _ => none
def DV.numb (md : Bool) : DV → Bool
  | .dead => true
  | .im τ _ => τ.numb md
  | .raw _ => true
  | .agg n f => (List.range n).all fun j => (f j).numb md
  | .tup n f => (List.range n).all fun j => (f j).numb md
  | .ptr .. => true
  | .elem q τ _ _ _ => cond (Qc.sf md q) (τ.numb md) (τ.numI md)
  | .ifc _ v => v.numb md
  | .mp _ => true
  | .vsl .. => true
  | .glo .. => true
  | .sd q τ _ _ => Qc.sf md q && τ.numb md
  | .unk => true
  | _ => false
def DOb.numb (md : Bool) : DOb → Bool
  | .var _ n f => (List.range n).all fun j => (f j).numb md
  | .gone _ => true
  | _ => false
def DSt.numb (md : Bool) (σ : DSt) : Bool := σ.tm.all (fun p => p.2.numb md) && σ.ob.all fun p => p.2.numb md
def scrB (σ : DSt) (r : RO) : Bool := match r.guard, r.op with
  | none, .store sz ad x => Nat.beq sz 1 && match daev σ ad with
    | .elem q τ _ _ j => q.wr && (match τ.kindAt j, (daev σ x).kind with
      | some κ, some κ' => nkEq κ κ' && σ.numb (q.beq .mid)
      | _, _ => false)
    | _ => false
  | _, _ => false

def DV.spd : DV → DV
  | .im τ x => .im (τ.aged Qc.sp) (cast (τ.aged_den Qc.sp) x)
  | .raw v => .raw v
  | .agg n f => .agg n fun j => (f j).spd
  | _ => .dead
def spArg (md : Bool) (v : DV) : DV := cond md v.spd v
def Tp.hasMid : Tp → Bool
  | .sl q e => q.beq .mid || e.hasMid
  | .pair a b => a.hasMid || b.hasMid
  | _ => false
def DV.hasMid : DV → Bool
  | .im τ _ => τ.hasMid
  | .agg n f => (List.range n).any fun j => (f j).hasMid
  | _ => false
def spoR {R : Type} (σ : DSt) (s : Spo) (z : List Zc) (v : DV) (k : DSt → den s.τ → Option R) : Option R := match v with
  | .buf id ver off len _ => match σ.O id with
    | some (.arr (.own (some z')) _ τ ver' l) => cond (decide (z' = z) && (!s.ag && (Nat.beq ver' ver && (Nat.beq off 0 && (Nat.beq τ.size z.length && Nat.blt 0 z.length))))) (cond (decide (len = l.length)) (match castLe (.sl .new τ) s.τ l with
      | some y => k (σ.share [id]) y
      | none => none) none) none
    | _ => none
  | _ => none
def dscr {R : Type} (base : Nat) : List (RO × Hint) → Nat → DSt → (DSt → Option R) → Option R
  | [], _, σ, K => K σ
  | r :: rs, i, σ, K => match r.2 with
    | .spo s => match r.1.guard, r.1.op with
      | none, .call f [x] => cond (Nat.beq f s.f) (match s.rm with
        | none => fitA s.ag s.τ (spArg (daev σ x).hasMid (daev σ x)) fun y => cond (s.p y) (dscr base rs (i + 1) (σ.safe (daev σ x).hasMid r.1.dst.toList) K) none
        | some z => spoR σ s z (daev σ x) fun σ1 y => cond (s.p y) (dscr base rs (i + 1) (σ1.safe false r.1.dst.toList) K) none) none
      | _, _ => none
    | _ => cond (scrB σ r.1) (dscr base rs (i + 1) (σ.upd r.1.dst (.raw undef) []) K)
      (dgs σ (base + 16 * i) r fun σ' _ v ups => dscr base rs (i + 1) (σ'.upd r.1.dst v ups) K)

def evD (fu : Nat) : DC → {R : Type} → (R → R → Bool) → (AX → DSt → Option R) → DSt → Option R
  | .skip, _, _, K, σ => K .normal σ
  | .region rs deps draw, _, _, K, σ => dreg σ.next rs 0 { σ with next := σ.next + 16 * rs.length } [] fun σ' efs => cond (!draw || free deps efs) (K .normal σ') none
  | .scr rs _, _, _, K, σ => dscr σ.next rs 0 { σ with next := σ.next + 16 * rs.length } fun σ' => K .normal σ'
  | .seq x y, _, q, K, σ => evD fu x q (fun e σ' => match e with
    | .normal => evD fu y q K σ'
    | e => K e σ') σ
  | .join a x y, R, q, K, σ => orK (evD fu x (R := den a.ty ⊕ R) (sumQ (denQ a.ty) q) (fun e σ' => match e with
    | .normal => a.get σ σ' fun s => some (.inl s)
    | e => inrO (K e (σ'.orW σ))) { σ with wr := fun _ => false }) fun s => a.norm s fun s => evD fu y q K (a.put σ s)
  | .zone cl a x y, R, q, K, σ => orK (evD fu x (R := den a.ty ⊕ R) (sumQ (denQ a.ty) q) (fun e σ' => match e with
    | .normal => a.get σ σ' fun s => some (.inl s)
    | e => inrO (K e (σ'.orW σ))) { σ with wr := fun _ => false }) fun s => a.norm s fun s => evD fu y q K ((a.put σ s).aged cl)
  | .age cl x y, _, q, K, σ => evD fu x q (fun e σ' => match e with
    | .normal => evD fu y q K (σ'.aged cl)
    | e => K e σ') σ
  | .cond c x y, _, q, K, σ => match daev σ c with
    | .im .bool b => _root_.cond b (evD fu x q K (σ.fixO c true)) (evD fu y q K (σ.fixO c false))
    | .unk => both q (evD fu x q K σ) (evD fu y q K σ)
    | _ => none
  | .block id x, _, q, K, σ => evD fu x q (fun e σ' => match e with
    | .exit i => _root_.cond (Nat.beq i id) (K .normal σ') (K (.exit i) σ')
    | e => K e σ') σ
  | .loop a x, R, q, K, σ => a.get σ { σ with wr := fun _ => false } fun s0 => loopO fu (fun s => a.norm s fun s => evD fu x (R := den a.ty ⊕ R) (sumQ (denQ a.ty) q) (fun e σ' => match e with
    | .normal => a.get σ σ' fun s => some (.inl s)
    | e => inrO (K e (σ'.orW σ))) { a.put σ s with wr := fun l => !(a.keepT.any (fun t => Nat.beq (2 * t) l) || a.keepO.any fun k => Nat.beq (2 * k + 1) l) }) s0
  | .exit id, _, _, K, σ => K (.exit id) σ
  | .ret, _, _, K, σ => K .ret σ

def dres (σ : DSt) : List RVx → Option (List DV)
  | [] => some []
  | .tmp t :: l => (dres σ l).map (σ.get t :: ·)
  | .cell p g sz :: l => match σ.get p with
    | .ptr id 0 0 0 => match σ.O id with
      | some (.var _ s f) => cond (Nat.ble sz s) ((dres σ l).map ((cond g (.agg sz f) (f 0)) :: ·)) none
      | _ => none
    | _ => none
def dfinS (ks : List Bool) (osh vsh : Sh) (rs : List RVx) (σ : DSt) : Option (den osh.ty × den vsh.ty) :=
  match dres σ rs with
  | some vs => cond ((List.range σ.m).all fun j => match σ.O j with
      | some (.var ..) => ks.getD j true
      | some (.gone v) => !(ks.getD j true) && Nat.beq v 1
      | _ => false) (osh.get σ .share (fun j => match σ.O j with
      | some (.var _ n f) => .agg n f
      | _ => .dead) fun y s _ => vsh.get σ .share (fun _ => match vs with
      | [v] => v
      | vs => .tup vs.length (dl vs)) fun z s' _ => cond (nodupO (s ++ s') && (s ++ s').all fun q => match q with
        | some id => Nat.ble σ.m id
        | none => true) (some (y, z)) none) none
  | none => none
def dfinC (ks : List Bool) (osh vsh : Sh) (rs : List RVx) (σ : DSt) : Option (den osh.ty × den vsh.ty) :=
  dfinS ks osh vsh rs (σ.share (osh.rows σ (fun j => match σ.O j with
    | some (.var _ n f) => .agg n f
    | _ => .dead) ++ match dres σ rs with
      | some vs => vsh.rows σ fun _ => match vs with
        | [v] => v
        | vs => .tup vs.length (dl vs)
      | none => []))
def dfin (ks : List Bool) (osh vsh : Sh) (rs : List RVx) (σ : DSt) : Option (den osh.ty × den vsh.ty) := dfinC ks osh vsh rs (σ.cuts (cutsR rs vsh))
def dst0 (ash : Sh) (x : den ash.ty) (N : Nat) : DSt :=
  { tm := (ash.mkM ash.cnt x 0).1.zipIdx.map (fun p => (p.2, p.1)) ++ (List.range (N - ash.len)).map fun j => (ash.len + j, .raw undef)
    ob := (ash.mkM ash.cnt x 0).2.1 ++ (ash.kinds.zipIdx.filterMap fun p => cond p.1 none (some (p.2, .gone 1)))
    next := ash.cnt + ash.cnt, N := N, m := ash.cnt, wr := fun _ => false }
def evF (fu : Nat) (c : DC) (rs : List RVx) (N : Nat) (ash osh vsh : Sh) (x : den ash.ty) : Option (den osh.ty × den vsh.ty) :=
  ash.normK x fun x => evD fu c (prodQ (denQ osh.ty) (denQ vsh.ty)) (fun e σ => match e with
    | .exit _ => none
    | _ => dfin ash.kinds osh vsh rs σ) (dst0 ash x N)
end Go.Proofs.Ytlmnhbobgfpanaa
