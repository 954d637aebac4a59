/-
  States of a call, and how they stand to a frame and a world. General; nothing of this program.
-/
import Derived.Test.YtlmnhbobgfpanaaTrA
import Derived.Laws.StructEq
import Derived.Laws.BytesArg
import Derived.MapKept
namespace Go.Proofs.Ytlmnhbobgfpanaa
open Go.RowKit
section

def lk : List (Nat × V) → Nat → V
  | [], _ => .dead
  | (k, v) :: l, t => if k = t then v else lk l t
def lo : List (Nat × Ob) → Nat → Option Ob
  | [], _ => none
  | (k, o) :: l, t => if k = t then some o else lo l t

structure St where
  tm : List (Nat × V)
  ob : List (Nat × Ob)
  next : Nat
  N : Nat

def St.get (σ : St) (t : Nat) : V := lk σ.tm t
def St.O (σ : St) : Ow := lo σ.ob

structure Env where
  W : World
  ρ : Pl
  O : Ow
  ok : Sees
  X : Nat → Prop
def nobody (_ : Nat) : Prop := False
def Env.mine (E : Env) (g : Nat) : Prop := own E.ρ E.O g ∨ E.X g

def Env.b (E : Env) (q : Qc) (g k : Nat) : Prop := E.ok q g k ∨ (q.young = true ∧ (E.W.heap.size ≤ g ∨ E.mine g))

structure ExtE (E : Env) (ρ : Pl) (O : Ow) (w : World) : Prop where
  keep : ∀ g, g < E.W.heap.size → ¬ E.mine g → w.heap[g]? = E.W.heap[g]? ∧ ¬ own ρ O g
  cell : ∀ g k, g < E.W.heap.size → ¬ (ownc E.ρ E.O g k ∨ E.X g) → look w g k = look E.W g k ∧ ¬ ownc ρ O g k
  same : ∀ id o, E.O id = some o → ∃ o', O id = some o' ∧ o.ver ≤ o'.ver ∧ (o'.ver = o.ver → ρ id = E.ρ id ∧ o.fits o' ∧
    ∀ g cs e, o.held = true → E.ρ id = some g → E.W.heap[g]? = some (.cells cs e (0, 0)) → ∃ cs' : Array Value, w.heap[g]? = some (.cells cs' e (0, 0)) ∧ cs'.size = cs.size)
theorem ExtE.trans {E : Env} {ρ ρ' : Pl} {O O' : Ow} {w w' : World} (hz : E.W.heap.size ≤ w.heap.size) (h : ExtE E ρ O w) (k : Ext ρ O w ρ' O' w') : ExtE E ρ' O' w' where
  keep g hg ho := by
    obtain ⟨h1, h2⟩ := h.keep g hg ho
    obtain ⟨k1, k2⟩ := k.keep g (by omega) h2
    exact ⟨k1.trans h1, k2⟩
  cell g c hg ho := by
    obtain ⟨h1, h2⟩ := h.cell g c hg ho
    obtain ⟨k1, k2⟩ := k.cell g c (by omega) h2
    exact ⟨k1.trans h1, k2⟩
  same id o ho := by
    obtain ⟨o', ho', hv, hs⟩ := h.same id o ho
    obtain ⟨o'', ho'', hv', hs'⟩ := k.same id o' ho'
    refine ⟨o'', ho'', by omega, fun e => ?_⟩
    obtain ⟨r1, f1, c1⟩ := hs (by omega)
    obtain ⟨r2, f2, c2⟩ := hs' (by omega)
    refine ⟨r2.trans r1, Ob.fits_trans f1 f2, fun g cs e hl hg hh => ?_⟩
    obtain ⟨cs', hh', e1⟩ := c1 g cs e hl hg hh
    obtain ⟨cs'', hh'', e2⟩ := c2 g cs' e (by rw [Ob.fits_held f1]; exact hl) (by rw [r1]; exact hg) hh'
    exact ⟨cs'', hh'', e2.trans e1⟩
theorem ExtE.refl {E : Env} : ExtE E E.ρ E.O E.W where
  keep _ _ ho := ⟨rfl, fun h => ho (.inl h)⟩
  cell _ _ _ ho := ⟨rfl, fun h => ho (.inl h)⟩
  same _ o ho := ⟨o, ho, Nat.le_refl _, fun _ => ⟨rfl, Ob.fits_refl o, fun _ cs _ _ _ hh => ⟨cs, hh, rfl⟩⟩⟩
structure Rel (E : Env) (ρ : Pl) (σ : St) (a : Act) (w : World) : Prop where
  tm : ∀ t, (σ.get t).rel E.b ρ σ.O w (a.tmps.getD t undef)
  N : a.tmps.size = σ.N
  ob : ∀ id o, σ.O id = some o → o.rel E.b ρ σ.O w (ρ id)
  hi : ∀ id o g, σ.O id = some o → o.live = true → ρ id = some g → (E.W.heap.size ≤ g ∨ E.mine g) ∧ g < w.heap.size
  inj : ∀ id id' o o' g, σ.O id = some o → σ.O id' = some o' → o.live = true → o'.live = true → ρ id = some g → ρ id' = some g → id = id'
  nx : ∀ id, σ.next ≤ id → σ.O id = none
  ext : ExtE E ρ σ.O w
  bs : E.W.heap.size ≤ w.heap.size
  os : w.os = E.W.os
  tape : w.tape = E.W.tape
  output : w.output = E.W.output
  df : a.defers = []
  gl : Glb E.b ρ σ.O w
  le : Mono E.ok

def St.put (σ : St) (d : Nat) (v : V) : St := { σ with tm := (d, v) :: σ.tm }
def St.setO (σ : St) (id : Nat) (o : Ob) : St := { σ with ob := (id, o) :: σ.ob }

section
variable {E : Env} {ρ ρ' : Pl} {σ σ' : St} {a : Act} {w w' : World}

theorem getD_put (a : Act) (d t : Nat) (x : Value) (hd : d < a.tmps.size) : (a.put (some d) x).tmps.getD t undef = if d = t then x else a.tmps.getD t undef := by
  simp only [Act.put, Array.getD_eq_getD_getElem?, Array.getElem?_setIfInBounds]
  by_cases e : d = t
  · subst e; simp [hd]
  · simp [e]

theorem Rel.put (h : Rel E ρ σ a w) {d : Nat} (hd : d < σ.N) {v : V} {x : Value} (hv : v.rel E.b ρ σ.O w x) : Rel E ρ (σ.put d v) (a.put (some d) x) w where
  tm t := by
    rw [getD_put a d t x (by rw [h.N]; exact hd)]
    show (lk ((d, v) :: σ.tm) t).rel _ _ _ _ _
    unfold lk
    split
    · exact hv
    · exact h.tm t
  N := by simp [Act.put, h.N, St.put]
  ob := h.ob
  hi := h.hi
  inj := h.inj
  nx := h.nx
  ext := h.ext
  bs := h.bs
  os := h.os
  tape := h.tape
  output := h.output
  df := h.df
  gl := h.gl
  le := h.le

theorem Ob.rel_ext {b : Sees} {O O' : Ow} {o : Ob} {p p' : Option Nat} (h : Ext ρ O w ρ' O' w') (hp : p' = p) (hh : ∀ g, p = some g → w'.heap[g]? = w.heap[g]?) (k : o.rel b ρ O w p) : o.rel b ρ' O' w' p' := by
  subst hp
  cases o with
  | gone => trivial
  | var e s f =>
    obtain ⟨g, cs, e1, e2, e3, e4⟩ := k
    exact ⟨g, cs, e1, (hh g e1).trans e2, e3, fun j hj => ⟨(e4 j hj).1, V.rel_ext h (e4 j hj).2⟩⟩
  | map agg sz n key f =>
    obtain ⟨g, es, e1, e2, e3, e4⟩ := k
    exact ⟨g, es, e1, (hh g e1).trans e2, e3, fun i e he => ⟨(e4 i e he).1, (e4 i e he).2.1, T.rel_mono h.okb (e4 i e he).2.2⟩⟩
  | arr zz e s v n f =>
    rcases k with k | ⟨g, cs, cap, e1, e2, e3, e4, e5, e6⟩
    · exact .inl k
    · exact .inr ⟨g, cs, cap, e1, (hh g e1).trans e2, e3, e4, ⟨e5.1, fun hz => ⟨(h.keep g (Array.getElem?_eq_some_iff.1 e2).1 (e5.2.1 hz).1).2, (e5.2.1 hz).2⟩, e5.2.2⟩, fun i j hi hj => ⟨(e6 i j hi hj).1, T.rel_mono h.okb (e6 i j hi hj).2⟩⟩

theorem Rel.seen (h : Rel E ρ σ a w) {id g : Nat} {zz : Zz} {e : TypeId} {s v n : Nat} {f : Nat → Nat → T} (ho : σ.O id = some (.arr zz e s v n f)) (hg : ρ id = some g) : (∀ q k, q.young = true → E.b q g k) ∧ ∀ id' o', σ.O id' = some o' → o'.live = true → ρ id' = some g → id' = id ∧ (Ob.arr zz e s v n f).live = true := by
  have main : (Ob.arr zz e s v n f).live = true → (∀ q k, q.young = true → E.b q g k) ∧ ∀ id' o', σ.O id' = some o' → o'.live = true → ρ id' = some g → id' = id ∧ (Ob.arr zz e s v n f).live = true := fun hl => by
    exact ⟨fun q k hq => .inr ⟨hq, (h.hi id _ g ho hl hg).1⟩, fun id' o' h1 h2 h3 => ⟨h.inj id' id o' _ g h1 ho h2 hl h3 hg, hl⟩⟩
  cases zz with
  | own => exact main rfl
  | app => exact main rfl
  | sh =>
    rcases h.ob id _ ho with ⟨e1, _⟩ | ⟨g', cs, cap, e1, e2, e3, e4, e5, _⟩
    · rw [hg] at e1; cases e1
    · rw [hg] at e1; cases e1
      exact ⟨(e5.2.1 rfl).2, fun id' o' h1 h2 h3 => absurd ⟨id', o', h1, h2, h3⟩ (e5.2.1 rfl).1⟩
theorem Rel.inside (h : Rel E ρ σ a w) {id g : Nat} {o : Ob} (ho : σ.O id = some o) (hh : o.held = true) (hg : ρ id = some g) : g < w.heap.size := by
  have := h.ob id o ho
  cases o with
  | var e s f => obtain ⟨g', cs, e1, e2, _⟩ := this; rw [hg] at e1; cases e1; exact (Array.getElem?_eq_some_iff.1 e2).1
  | gone => cases hh
  | map agg sz n key f => obtain ⟨g', es, e1, e2, _⟩ := this; rw [hg] at e1; cases e1; exact (Array.getElem?_eq_some_iff.1 e2).1
  | arr zz e s v n f =>
    rcases this with ⟨e1, _⟩ | ⟨g', cs, cap, e1, e2, _⟩
    · rw [hg] at e1; cases e1
    · rw [hg] at e1; cases e1; exact (Array.getElem?_eq_some_iff.1 e2).1
theorem Rel.nobody (h : Rel E ρ σ a w) {id g : Nat} {o : Ob} (ho : σ.O id = some o) (hh : o.held = true) (hl : o.live = false) (hg : ρ id = some g) : ¬ own ρ σ.O g := by
  have := h.ob id o ho
  cases o with
  | var => cases hl
  | map => cases hl
  | gone => cases hh
  | arr zz e s v n f =>
    cases zz with
    | sh =>
      rcases this with ⟨e1, _⟩ | ⟨g', cs, cap, e1, e2, e3, e4, e5, _⟩
      · rw [hg] at e1; cases e1
      · rw [hg] at e1; cases e1
        exact (e5.2.1 rfl).1
    | _ => cases hl
theorem Rel.many (h : Rel E ρ σ a w) (Ch : Nat → Prop) (htm : σ'.tm = σ.tm) (hN : σ'.N = σ.N)
    (hO : ∀ id, ¬ Ch id → σ'.O id = σ.O id) (hρ : ∀ id, ¬ Ch id → ρ' id = ρ id)
    (hw : ∀ g, g < w.heap.size → (∀ id o, Ch id → σ.O id = some o → o.live = true → ρ id ≠ some g) → w'.heap[g]? = w.heap[g]?)
    (hp : ∀ id o' g, Ch id → σ'.O id = some o' → o'.live = true → ρ' id = some g → g < w'.heap.size ∧ ((∃ id1 o, Ch id1 ∧ σ.O id1 = some o ∧ o.live = true ∧ ρ id1 = some g) ∨ w.heap.size ≤ g))
    (hz : ∀ id o g k, Ch id → σ.O id = some o → o.live = true → ρ id = some g → k < o.lo → look w' g k = look w g k ∧ ∀ id' o', Ch id' → σ'.O id' = some o' → o'.live = true → ρ' id' = some g → k < o'.lo)
    (hinj : ∀ id id' o o' g, Ch id → Ch id' → σ'.O id = some o → σ'.O id' = some o' → o.live = true → o'.live = true → ρ' id = some g → ρ' id' = some g → id = id')
    (hv : ∀ id o, Ch id → σ.O id = some o → ∃ o', σ'.O id = some o' ∧ o.ver ≤ o'.ver ∧ (o'.ver = o.ver → ρ' id = ρ id ∧ o.fits o' ∧
      ∀ g cs e, o.held = true → ρ id = some g → w.heap[g]? = some (.cells cs e (0, 0)) → ∃ cs' : Array Value, w'.heap[g]? = some (.cells cs' e (0, 0)) ∧ cs'.size = cs.size))
    (hrel : Ext ρ σ.O w ρ' σ'.O w' → ∀ id o', Ch id → σ'.O id = some o' → o'.rel E.b ρ' σ'.O w' (ρ' id))
    (hnx : ∀ id, σ'.next ≤ id → σ'.O id = none)
    (hsize : w.heap.size ≤ w'.heap.size) (hos : w'.os = w.os) (htape : w'.tape = w.tape) (hout : w'.output = w.output) :
    Rel E ρ' σ' a w' ∧ Ext ρ σ.O w ρ' σ'.O w' := by
  have ext : Ext ρ σ.O w ρ' σ'.O w' := by
    refine ⟨fun g hg ho => ⟨hw g hg (fun id o _ h1 h2 h3 => ho ⟨id, o, h1, h2, h3⟩), ?_⟩, fun g k hg ho => ?_, fun id o ho => ?_⟩
    · rintro ⟨id, o', h1, h2, h3⟩
      by_cases hc : Ch id
      · rcases (hp id o' g hc h1 h2 h3).2 with ⟨id1, o, _, e1, e2, e3⟩ | e
        · exact ho ⟨id1, o, e1, e2, e3⟩
        · omega
      · exact ho ⟨id, o', by rw [← hO id hc]; exact h1, h2, by rw [← hρ id hc]; exact h3⟩
    · by_cases hco : ∃ id o, Ch id ∧ σ.O id = some o ∧ o.live = true ∧ ρ id = some g
      · obtain ⟨id, o, c1, c2, c3, c4⟩ := hco
        have hk : k < o.lo := Nat.lt_of_not_le fun hle => ho ⟨id, o, c2, c3, c4, hle⟩
        obtain ⟨h1, h2⟩ := hz id o g k c1 c2 c3 c4 hk
        refine ⟨h1, fun ⟨id', o', d1, d2, d3, d4⟩ => ?_⟩
        by_cases hc : Ch id'
        · have := h2 id' o' hc d1 d2 d3; omega
        · exact hc (h.inj id id' o o' g c2 (by rw [← hO id' hc]; exact d1) c3 d2 c4 (by rw [← hρ id' hc]; exact d3) ▸ c1)
      · refine ⟨look_of_block (hw g hg fun id o c1 c2 c3 c4 => hco ⟨id, o, c1, c2, c3, c4⟩), fun ⟨id', o', d1, d2, d3, d4⟩ => ?_⟩
        by_cases hc : Ch id'
        · rcases (hp id' o' g hc d1 d2 d3).2 with ⟨id1, o, e0, e1, e2, e3⟩ | e
          · exact hco ⟨id1, o, e0, e1, e2, e3⟩
          · omega
        · exact ho ⟨id', o', by rw [← hO id' hc]; exact d1, d2, by rw [← hρ id' hc]; exact d3, d4⟩
    · by_cases hc : Ch id
      · exact hv id o hc ho
      · refine ⟨o, by rw [hO id hc]; exact ho, Nat.le_refl _, fun _ => ⟨hρ id hc, Ob.fits_refl o, fun g cs e hl hg hh => ⟨cs, ?_, rfl⟩⟩⟩
        rw [hw g (Array.getElem?_eq_some_iff.1 hh).1 (fun id1 o1 c1 a1 a2 a3 => ?_)]
        · exact hh
        · cases hl' : o.live with
          | true => exact hc (h.inj id id1 o o1 g ho a1 hl' a2 hg a3 ▸ c1)
          | false => exact h.nobody ho hl hl' hg ⟨id1, o1, a1, a2, a3⟩
  refine ⟨⟨fun t => ?_, by rw [h.N, hN], fun id o ho => ?_, fun id o g ho hl hg => ?_, fun id id' o o' g h1 h2 l1 l2 p1 p2 => ?_, hnx, h.ext.trans h.bs ext, Nat.le_trans h.bs hsize, hos.trans h.os, htape.trans h.tape, hout.trans h.output, h.df, h.gl.ext ext, h.le⟩, ext⟩
  · have := h.tm t
    unfold St.get at this ⊢
    rw [htm]
    exact V.rel_ext ext this
  · by_cases hc : Ch id
    · exact hrel ext id o hc ho
    · have ho' : σ.O id = some o := by rw [← hO id hc]; exact ho
      by_cases hl : o.live = true
      · refine Ob.rel_ext ext (hρ id hc) (fun g hg => hw g (h.hi id o g ho' hl hg).2 (fun id1 o1 c1 a1 a2 a3 => ?_)) (h.ob id o ho')
        exact hc (h.inj id id1 o o1 g ho' a1 hl a2 hg a3 ▸ c1)
      · cases hh' : o.held with
        | false => cases o <;> simp_all [Ob.held, Ob.rel]
        | true =>
          refine Ob.rel_ext ext (hρ id hc) (fun g hg => ?_) (h.ob id o ho')
          have hno := h.nobody ho' hh' (by simpa using hl) hg
          have := h.ob id o ho'
          cases o with
          | var => exact absurd rfl hl
          | map => exact absurd rfl hl
          | gone => cases hh'
          | arr zz e s v n f =>
            rcases this with ⟨e1, _⟩ | ⟨g', cs, cap, e1, e2, _⟩
            · rw [hg] at e1; cases e1
            · rw [hg] at e1; cases e1
              exact (ext.keep g (Array.getElem?_eq_some_iff.1 e2).1 hno).1
  · by_cases hc : Ch id
    · obtain ⟨b1, b2⟩ := hp id o g hc ho hl hg
      refine ⟨?_, b1⟩
      rcases b2 with ⟨id1, o1, _, a1, a2, a3⟩ | b2
      · exact (h.hi id1 o1 g a1 a2 a3).1
      · exact .inl (Nat.le_trans h.bs b2)
    · obtain ⟨b1, b2⟩ := h.hi id o g (by rw [← hO id hc]; exact ho) hl (by rw [← hρ id hc]; exact hg)
      exact ⟨b1, by omega⟩
  · by_cases c1 : Ch id
    · by_cases c2 : Ch id'
      · exact hinj id id' o o' g c1 c2 h1 h2 l1 l2 p1 p2
      · have e2 : σ.O id' = some o' := by rw [← hO id' c2]; exact h2
        have q2 : ρ id' = some g := by rw [← hρ id' c2]; exact p2
        rcases (hp id o g c1 h1 l1 p1).2 with ⟨id1, o1, d1, a1, a2, a3⟩ | b
        · exact absurd (h.inj id1 id' o1 o' g a1 e2 a2 l2 a3 q2 ▸ d1) c2
        · have := (h.hi id' o' g e2 l2 q2).2
          omega
    · have e1 : σ.O id = some o := by rw [← hO id c1]; exact h1
      have q1 : ρ id = some g := by rw [← hρ id c1]; exact p1
      by_cases c2 : Ch id'
      · rcases (hp id' o' g c2 h2 l2 p2).2 with ⟨id1, o1, d1, a1, a2, a3⟩ | b
        · exact absurd (h.inj id1 id o1 o g a1 e1 a2 l1 a3 q1 ▸ d1) c1
        · have := (h.hi id o g e1 l1 q1).2
          omega
      · exact h.inj id id' o o' g e1 (by rw [← hO id' c2]; exact h2) l1 l2 q1 (by rw [← hρ id' c2]; exact p2)
end
end
section
inductive Kd where
  | int | bool | str
deriving DecidableEq
def Kd.of (P : Program) (t : TypeId) : Option Kd := match P.underlying t with
  | some (.int _) => some .int
  | some .bool => some .bool
  | some .string => some .str
  | _ => none
def kindsWith (P : Program) (sub : TypeId → Option (List Kd)) : Nat → List Field → Option (List Kd)
  | _, [] => some []
  | j, f :: fs => if f.name != "_" && f.offset == j then match Kd.of P f.type with
      | some k => match kindsWith P sub (j + 1) fs with
        | some ks => some (k :: ks)
        | none => none
      | none => match sub f.type with
        | some l => match kindsWith P sub (j + l.length) fs with
          | some ks => some (l ++ ks)
          | none => none
        | none => none
    else none
def subKinds (P : Program) : Nat → TypeId → Option (List Kd)
  | 0, _ => none
  | n + 1, t => match P.underlying t, P.info? t with
    | some (.struct fs), some i => if !P.stoodInHeld t then match kindsWith P (subKinds P n) 0 fs.toList with
        | some ks => if i.size == ks.length then some ks else none
        | none => none
      else none
    | _, _ => none
def flatEq (P : Program) (t : TypeId) : Option (List Kd) := match P.underlying t with
  | some (.struct fs) => if !P.stoodInHeld t && !P.eqGuardType P.depth t then kindsWith P (subKinds P 4) 0 fs.toList else none
  | _ => none
def kdEq : Kd → Value → Value → Option Bool
  | .int, .int k a, .int k' b => if k = k' then some (a == b) else none
  | .bool, .bool a, .bool b => some (a == b)
  | .str, .string a, .string b => some (a == b)
  | _, _, _ => none
def cellsEq (f g : Nat → Option Value) : List Kd → Nat → Option Bool
  | [], _ => some true
  | k :: ks, j => match f j, g j with
    | some a, some b => match kdEq k a b, cellsEq f g ks (j + 1) with
      | some u, some v => some (u && v)
      | _, _ => none
    | _, _ => none
section
variable {P : Program} (w : World)
theorem run_kd {d : Nat} {t : TypeId} {k : Kd} {a b : Value} {r : Bool} (h : Kd.of P t = some k) (he : kdEq k a b = some r) : (Op.equalIn (d + 1) t a b).run P w = .ok r w := by
  unfold Kd.of at h
  split at h <;> simp only [Option.some.injEq, reduceCtorEq] at h <;> subst h
  · rename_i q hu
    cases a <;> cases b <;> simp only [kdEq, reduceCtorEq] at he
    split at he
    · rename_i hk; subst hk; cases he; exact run_equalIn_int w d t _ q _ _ hu
    · cases he
  · rename_i hu
    cases a <;> cases b <;> simp only [kdEq, reduceCtorEq, Option.some.injEq] at he
    subst he; exact run_equalIn_bool w d t _ _ hu
  · rename_i hu
    cases a <;> cases b <;> simp only [kdEq, reduceCtorEq, Option.some.injEq] at he
    subst he; rw [beq_toListBytes]; exact run_equalIn_string w d t _ _ hu
theorem part_kd {t : TypeId} {k : Kd} {xs : Array Value} {j : Nat} {v : Value} (h : Kd.of P t = some k) (hx : xs[j]? = some v) : (part t xs j).run P w = .ok v w := by
  unfold Kd.of at h
  have : (isAgg t).run P w = .ok false w := by
    split at h <;> simp only [Option.some.injEq, reduceCtorEq] at h <;> (rename_i hu; simp [isAgg, run_underlying hu])
  simp [part, this, hx]
theorem cellsEq_app {f g : Nat → Option Value} : ∀ {l ks : List Kd} {j : Nat} {r : Bool}, cellsEq f g (l ++ ks) j = some r → ∃ u v, cellsEq f g l j = some u ∧ cellsEq f g ks (j + l.length) = some v ∧ r = (u && v)
  | [], ks, j, r, h => ⟨true, r, rfl, h, by simp⟩
  | k :: l, ks, j, r, h => by
    simp only [List.cons_append, cellsEq] at h
    split at h
    · rename_i a b ha hb
      split at h
      · rename_i u v e1 e2
        simp only [Option.some.injEq] at h
        obtain ⟨u', v', q1, q2, q3⟩ := cellsEq_app e2
        refine ⟨u && u', v', ?_, ?_, ?_⟩
        · simp only [cellsEq, ha, hb, e1, q1]
        · rw [← q2, List.length_cons, Nat.add_assoc, Nat.add_comm 1]
        · rw [← h, q3, Bool.and_assoc]
      · cases h
    · cases h
theorem cellsEq_shift {f g f' g' : Nat → Option Value} : ∀ {ks : List Kd} {j j' : Nat}, (∀ i, i < ks.length → f' (j' + i) = f (j + i)) → (∀ i, i < ks.length → g' (j' + i) = g (j + i)) → cellsEq f' g' ks j' = cellsEq f g ks j
  | [], _, _, _, _ => rfl
  | k :: ks, j, j', h1, h2 => by
    have e1 := h1 0 (by simp)
    have e2 := h2 0 (by simp)
    rw [Nat.add_zero, Nat.add_zero] at e1 e2
    have ih := cellsEq_shift (f := f) (g := g) (f' := f') (g' := g') (ks := ks) (j := j + 1) (j' := j' + 1) (fun i hi => by
      have := h1 (i + 1) (by simp; omega)
      rw [Nat.add_right_comm, Nat.add_right_comm j]; simpa [Nat.add_assoc] using this) (fun i hi => by
      have := h2 (i + 1) (by simp; omega)
      rw [Nat.add_right_comm, Nat.add_right_comm j]; simpa [Nat.add_assoc] using this)
    simp only [cellsEq, e1, e2, ih]
def SubOK (P : Program) (w : World) (sub : TypeId → Option (List Kd)) (d : Nat) : Prop :=
  ∀ t l, sub t = some l → ∀ (xs ys : Array Value) (j : Nat) (r : Bool), cellsEq (fun i => xs[i]?) (fun i => ys[i]?) l j = some r → ∃ a b, (part t xs j).run P w = .ok a w ∧ (part t ys j).run P w = .ok b w ∧ (Op.equalIn (d + 1) t a b).run P w = .ok r w
theorem run_fields {d : Nat} {xs ys : Array Value} {sub : TypeId → Option (List Kd)} (hs : SubOK P w sub d) : ∀ {fs : List Field} {j : Nat} {ks : List Kd} {r : Bool}, kindsWith P sub j fs = some ks → cellsEq (fun i => xs[i]?) (fun i => ys[i]?) ks j = some r → (Op.eqFields (d + 1) xs ys fs).run P w = .ok r w
  | [], j, ks, r, h, he => by
    simp only [kindsWith, Option.some.injEq] at h
    subst h
    simp only [cellsEq, Option.some.injEq] at he
    subst he
    simp [Op.eqFields]
  | f :: fs, j, ks, r, h, he => by
    simp only [kindsWith] at h
    split at h
    · rename_i hn
      simp only [Bool.and_eq_true, bne_iff_ne, ne_eq, beq_iff_eq] at hn
      split at h
      · rename_i k h1
        split at h
        · rename_i ks' h2
          simp only [Option.some.injEq] at h
          subst h
          simp only [cellsEq] at he
          split at he
          · rename_i a b ha hb
            split at he
            · rename_i u v e1 e2
              simp only [Option.some.injEq] at he
              subst he
              have ih := run_fields hs h2 e2
              have q1 := part_kd w h1 ha
              have q2 := part_kd w h1 hb
              have q3 := run_kd w (d := d) h1 e1
              simp only [Op.eqFields, ne_eq, hn.1, not_false_eq_true, if_true, Sem.run_bind, hn.2, q1, q2, q3, Result.andThen_ok]
              cases u with
              | false => simp
              | true => simpa using ih
            · cases he
          · cases he
        · cases h
      · split at h
        · rename_i l h1
          split at h
          · rename_i ks' h2
            simp only [Option.some.injEq] at h
            subst h
            obtain ⟨u, v, e1, e2, rfl⟩ := cellsEq_app he
            have ih := run_fields hs h2 e2
            obtain ⟨a, b, q1, q2, q3⟩ := hs _ _ h1 xs ys j u e1
            simp only [Op.eqFields, ne_eq, hn.1, not_false_eq_true, if_true, Sem.run_bind, hn.2, q1, q2, q3, Result.andThen_ok]
            cases u with
            | false => simp
            | true => simpa using ih
          · cases h
        · cases h
    · cases h
theorem sub_ok : ∀ (n d : Nat), SubOK P w (subKinds P n) (d + n)
  | 0, _ => fun _ _ h => by cases h
  | n + 1, d => fun t l h xs ys j r he => by
    simp only [subKinds] at h
    split at h
    · rename_i fs i hu hi
      split at h
      · rename_i hp
        split at h
        · rename_i ks hk
          split at h
          · rename_i hz
            simp only [Option.some.injEq] at h
            subst h
            have hz : i.size = ks.length := by simpa using hz
            have hp : P.stoodInHeld t = false := by simpa using hp
            have ha : (isAgg t).run P w = .ok true w := by simp [isAgg, run_underlying hu]
            have hsz : (sizeOf t).run P w = .ok i.size w := by simp [sizeOf, typeInfo, hi, Result.andThen]
            have hpart : ∀ zs : Array Value, (part t zs j).run P w = .ok (.agg (zs.extract j (j + i.size))) w := fun zs => by simp [part, ha, hsz]
            refine ⟨_, _, hpart xs, hpart ys, ?_⟩
            have hf : P.fieldsOf t = fs := by unfold Program.fieldsOf; rw [hu]
            have get : ∀ zs : Array Value, ∀ k, k < ks.length → (zs.extract j (j + i.size))[0 + k]? = zs[j + k]? := fun zs k hk => by
              rw [Array.getElem?_extract, Nat.zero_add]
              by_cases hj : j + k < zs.size
              · rw [if_pos (by omega)]
              · rw [if_neg (by omega), Array.getElem?_eq_none (by omega)]
            have he' : cellsEq (fun k => (xs.extract j (j + i.size))[k]?) (fun k => (ys.extract j (j + i.size))[k]?) ks 0 = some r := by
              rw [← he]
              exact cellsEq_shift (fun k hk => get xs k hk) fun k hk => get ys k hk
            have hq := run_equalIn_struct w (d + (n + 1)) t (xs.extract j (j + i.size)) (ys.extract j (j + i.size)) (by rw [hf]; exact hu) hp
            rw [hf] at hq
            rw [hq]
            exact run_fields w (d := d + n) (sub_ok n d) hk he'
          · cases h
        · cases h
      · cases h
    · cases h
theorem run_flatEq {op : BinOp} {t : TypeId} {ks : List Kd} {xs ys : Array Value} {r neg : Bool} (ho : op = if neg then .neq else .eql) (h : flatEq P t = some ks) (he : cellsEq (fun i => xs[i]?) (fun i => ys[i]?) ks 0 = some r) :
    (binOp op t (.agg xs) (.agg ys)).run P w = .ok (.bool (if neg then !r else r)) w ∧ ∀ x y, (eqGuard op t x y (.agg xs) (.agg ys)).run P w = .ok () w := by
  unfold flatEq at h
  split at h
  · rename_i fs hu
    split at h
    · rename_i hc
      simp only [Bool.and_eq_true, Bool.not_eq_true'] at hc
      have hf : P.fieldsOf t = fs := by unfold Program.fieldsOf; rw [hu]
      have hq := run_equalIn_struct w 9999 t xs ys (by rw [hf]; exact hu) hc.1
      rw [hf, run_fields w (d := 9998) (sub_ok w 4 9994) h he] at hq
      refine ⟨?_, fun x y => run_eqGuard_agg w op t x y xs ys hc.2⟩
      subst ho
      cases neg with
      | false => simp only [Bool.false_eq_true, if_false]; rw [run_eql_struct, hq]; rfl
      | true => simp only [if_true]; rw [run_neq_struct, hq]; rfl
    · cases h
  · cases h
end
end
section

structure Ret where
  os : List Ob
  new : List Ob
  v : V

def lol (l : List Ob) (k : Nat) : Option Ob := l[k]?

def Enters (P : Program) (f : FuncId) : Prop := ∃ fn, P.funcs[f]? = some fn ∧ (fn.name == "runtime.NumGoroutine") = false ∧ fn.body.isNone = false

def FC (P : Program) (f : FuncId) (os : List Ob) (args : List V) (r : Ret) : Prop := Enters P f ∧
  ∀ (ok : Sees) (ρ : Pl) (w : World) (vs : Array Value), Mono ok → Glb ok ρ (lol os) w →
    (∀ k o, lol os k = some o → o.rel ok ρ (lol os) w (ρ k)) →
    (∀ k o g, lol os k = some o → o.live = true → ρ k = some g → g < w.heap.size) →
    (∀ k k' o o' g, lol os k = some o → lol os k' = some o' → o.live = true → o'.live = true → ρ k = some g → ρ k' = some g → k = k') →
    vs.size = args.length → (∀ (j : Nat) (v : V), args[j]? = some v → v.rel ok ρ (lol os) w (vs.getD j undef)) →
    Calls P f vs w fun e w' => ∃ ρ' x, e = .returned x ∧ r.os.length = os.length ∧
      r.v.rel (Env.b ⟨w, ρ, lol os, ok, nobody⟩) ρ' (lol (r.os ++ r.new)) w' x ∧
      (∀ k o, lol (r.os ++ r.new) k = some o → o.rel (Env.b ⟨w, ρ, lol os, ok, nobody⟩) ρ' (lol (r.os ++ r.new)) w' (ρ' k)) ∧
      (∀ k o g, lol (r.os ++ r.new) k = some o → o.live = true → ρ' k = some g → (w.heap.size ≤ g ∨ own ρ (lol os) g) ∧ g < w'.heap.size) ∧
      (∀ k k' o o' g, lol (r.os ++ r.new) k = some o → lol (r.os ++ r.new) k' = some o' → o.live = true → o'.live = true → ρ' k = some g → ρ' k' = some g → k = k') ∧
      Ext ρ (lol os) w ρ' (lol (r.os ++ r.new)) w' ∧ w.heap.size ≤ w'.heap.size ∧ w'.os = w.os ∧ w'.tape = w.tape ∧ w'.output = w.output

def V.ren (r : Nat → Nat) : V → V
  | .agg n f => .agg n fun j => (f j).ren r
  | .tup n f => .tup n fun j => (f j).ren r
  | .buf id ver off len => .buf (r id) ver off len
  | .ptr id ver i j => .ptr (r id) ver i j
  | .ifc t v => .ifc t (v.ren r)
  | .clo fn n f m g => .clo fn n (fun j => (f j).ren r) m fun j => (g j).ren r
  | .dead => .dead
  | .im t => .im t
  | .elem q s n f i j => .elem q s n f i j
  | .mp id => .mp (r id)
  | .vsl id len => .vsl (r id) len
def Ob.ren (r : Nat → Nat) : Ob → Ob
  | .var e s f => .var e s fun j => (f j).ren r
  | o => o

def T.flat : T → Prop
  | .val _ => True
  | .anyb => True
  | .opq => True
  | .anyn _ => True
  | .glo _ _ => False
  | .agg n f => ∀ j, j < n → (f j).flat
  | .sl q size n f => q ≠ .any ∧ ∀ i j, i < n → j < size → (f i j).flat
  | .slr q size _ m f => q ≠ .any ∧ ∀ i j, i < m → j < size → (f i j).flat
  | .ifc _ v => v.flat
def V.flat : V → Prop
  | .im t => t.flat
  | .agg n f => ∀ j, j < n → (f j).flat
  | .tup n f => ∀ j, j < n → (f j).flat
  | .elem .. => False
  | .ifc _ v => v.flat
  | .clo _ n f m g => (∀ j, j < n → (f j).flat) ∧ ∀ j, j < m → (g j).flat
  | _ => True
def Ob.flat : Ob → Prop
  | .var _ s f => ∀ j, j < s → (f j).flat
  | .arr zz _ s _ n f => zz ≠ .sh ∧ ∀ i j, i < n → j < s → (f i j).flat
  | .map agg sz n _ f => ∀ i, i < n → (mapT agg sz (f i)).flat
  | .gone _ => True
def V.lt (m : Nat) : V → Prop
  | .agg n f => ∀ j, j < n → (f j).lt m
  | .tup n f => ∀ j, j < n → (f j).lt m
  | .buf id _ _ _ => id < m
  | .ptr id _ _ _ => id < m
  | .mp id => id < m
  | .vsl id _ => id < m
  | .ifc _ v => v.lt m
  | .clo _ n f k g => (∀ j, j < n → (f j).lt m) ∧ ∀ j, j < k → (g j).lt m
  | _ => True
def Ob.lt (m : Nat) : Ob → Prop
  | .var _ s f => ∀ j, j < s → (f j).lt m
  | _ => True

def T.le (t t' : T) : Prop := ∀ (ok : Sees) (w : World) (x : Value), Mono ok → t.rel ok w x → t'.rel ok w x
theorem T.le_refl (t : T) : T.le t t := fun _ _ _ _ h => h
theorem Mono.okb {b : Sees} {ρ : Pl} {O : Ow} (h : Mono b) : Mono (okb b ρ O) := ⟨fun q g k hb => ⟨h.1 q g k hb.1, hb.2⟩, fun q g k hq hb => ⟨h.2 q g k hq hb.1, hb.2⟩⟩
theorem Env.mono {E : Env} (h : Mono E.ok) : Mono E.b := ⟨fun q g k hb => hb.imp (h.1 q g k) fun hb => ⟨rfl, hb.2⟩, fun q g k hq hb => hb.imp (h.2 q g k hq) fun hb => ⟨rfl, hb.2⟩⟩

def VLe (v v' : V) : Prop := ∀ (b : Sees) (ρ : Pl) (O : Ow) (w : World) (x : Value), Mono b → v.rel b ρ O w x → v'.rel b ρ O w x
def OLe : Ob → Ob → Prop
  | .var e s f, .var e' s' f' => e' = e ∧ s' = s ∧ ∀ j, j < s → VLe (f j) (f' j)
  | .arr zz e s v n f, .arr zz' e' s' v' n' f' => zz' = zz ∧ e' = e ∧ s' = s ∧ v' = v ∧ n' = n ∧ ∀ i j, i < n → j < s → T.le (f i j) (f' i j)
  | .map a s n k f, .map a' s' n' k' f' => n' = n ∧ (∀ i, i < n → k' i = k i) ∧ ∀ i, i < n → T.le (mapT a s (f i)) (mapT a' s' (f' i))
  | .gone v, .gone v' => v' = v
  | _, _ => False
def PLe : Option Ob → Option Ob → Prop
  | none, none => True
  | some o, some o' => OLe o o'
  | _, _ => False
def ULe : List (Nat × Ob) → List (Nat × Ob) → Prop
  | [], [] => True
  | p :: us, q :: us' => q.1 = p.1 ∧ OLe p.2 q.2 ∧ ULe us us'
  | _, _ => False
theorem VLe.refl (v : V) : VLe v v := fun _ _ _ _ _ _ h => h
theorem VLe.of_eq {v v' : V} (h : v = v') : VLe v v' := h ▸ VLe.refl v
theorem VLe.im {t t' : T} (h : T.le t t') : VLe (.im t) (.im t') := fun b ρ O w x hm hx => h (okb b ρ O) w x hm.okb hx
theorem VLe.elem {q : Qc} {s n : Nat} {f : Nat → Nat → T} {i j : Nat} : VLe (.elem q s n f i j) (.elem .any s n f i j) := fun _ _ _ _ _ hm ⟨ad, e, hi, hs, hk⟩ =>
  ⟨ad, e, hi, hs, fun k hk' => ⟨⟨hm.okb.1 _ _ _ (hk k hk').1.1, nofun⟩, (hk k hk').2⟩⟩
theorem VLe.agg {n : Nat} {f g : Nat → V} (h : ∀ j, j < n → VLe (f j) (g j)) : VLe (.agg n f) (.agg n g) := fun b ρ O w _ hm ⟨cs, e, hn, hf⟩ =>
  ⟨cs, e, hn, fun j hj => ⟨(hf j hj).1, h j hj b ρ O w _ hm (hf j hj).2⟩⟩
theorem OLe.refl (o : Ob) : OLe o o := by
  cases o with
  | var e s f => exact ⟨rfl, rfl, fun j _ => VLe.refl _⟩
  | arr zz e s v n f => exact ⟨rfl, rfl, rfl, rfl, rfl, fun i j _ _ => T.le_refl _⟩
  | map a s n k f => exact ⟨rfl, fun _ _ => rfl, fun _ _ => T.le_refl _⟩
  | gone v => exact rfl
theorem ULe.refl : ∀ us : List (Nat × Ob), ULe us us
  | [] => trivial
  | _ :: us => ⟨rfl, OLe.refl _, ULe.refl us⟩
theorem OLe.facts {o o' : Ob} (h : OLe o o') : o'.ver = o.ver ∧ o'.live = o.live ∧ o.fits o' := by
  cases o with
  | arr zz e s v n f =>
    cases o' with
    | arr zz' e' s' v' n' f' => obtain ⟨rfl, rfl, rfl, rfl, rfl, _⟩ := h; exact ⟨rfl, by cases zz' <;> rfl, rfl, rfl, Nat.le_refl _⟩
    | _ => exact h.elim
  | _ => cases o' <;> simp_all [OLe, Ob.ver, Ob.live, Ob.fits]
theorem OLe.low {o o' : Ob} (h : OLe o o') : o'.lo = o.lo := by
  cases o with
  | arr zz e s v n f =>
    cases o' with
    | arr zz' e' s' v' n' f' => obtain ⟨rfl, rfl, rfl, rfl, rfl, _⟩ := h; cases zz' <;> rfl
    | _ => exact h.elim
  | _ => cases o' <;> first | rfl | exact h.elim
theorem OLe.rel {o o' : Ob} (h : OLe o o') {b : Sees} {ρ : Pl} {O : Ow} {w : World} {p : Option Nat} (hm : Mono b) (k : o.rel b ρ O w p) : o'.rel b ρ O w p := by
  cases o with
  | var e s f =>
    cases o' with
    | var e' s' f' =>
      obtain ⟨rfl, rfl, h⟩ := h
      obtain ⟨g, cs, e1, e2, e3, e4⟩ := k
      exact ⟨g, cs, e1, e2, e3, fun j hj => ⟨(e4 j hj).1, h j hj _ _ _ _ _ hm (e4 j hj).2⟩⟩
    | _ => exact h.elim
  | arr zz e s v n f =>
    cases o' with
    | arr zz' e' s' v' n' f' =>
      obtain ⟨rfl, rfl, rfl, rfl, rfl, h⟩ := h
      rcases k with k | ⟨g, cs, cap, e1, e2, e3, e4, e5, e6⟩
      · exact .inl k
      · exact .inr ⟨g, cs, cap, e1, e2, e3, e4, e5, fun i j hi hj => ⟨(e6 i j hi hj).1, h i j hi hj _ _ _ hm.okb (e6 i j hi hj).2⟩⟩
    | _ => exact h.elim
  | map ag sz n ky f =>
    cases o' with
    | map ag' sz' n' k' f' =>
      obtain ⟨rfl, h1, h2⟩ := h
      obtain ⟨g, es, e1, e2, e3, e4⟩ := k
      refine ⟨g, es, e1, e2, e3, fun i e he => ?_⟩
      have hi : i < n' := by rw [← e3]; exact (Array.getElem?_eq_some_iff.1 he).1
      exact ⟨by rw [h1 i hi]; exact (e4 i e he).1, (e4 i e he).2.1, h2 i hi _ _ _ hm.okb (e4 i e he).2.2⟩
    | _ => exact h.elim
  | gone v =>
    cases o' with
    | gone v' => trivial
    | _ => exact h.elim
theorem PLe.of_some {p p' : Option Ob} (h : PLe p p') {o : Ob} (ho : p = some o) : ∃ o', p' = some o' ∧ OLe o o' := by
  subst ho
  cases p' with
  | none => exact h.elim
  | some o' => exact ⟨o', rfl, h⟩
theorem PLe.to_some {p p' : Option Ob} (h : PLe p p') {o : Ob} (ho : p' = some o) : ∃ o', p = some o' ∧ OLe o' o := by
  subst ho
  cases p with
  | none => exact h.elim
  | some o' => exact ⟨o', rfl, h⟩
theorem PLe.refl (p : Option Ob) : PLe p p := by
  cases p with
  | none => trivial
  | some o => exact OLe.refl o

section
variable {P : Program} {E : Env} {ρ : Pl} {σ σ' : St} {a : Act} {w : World}
theorem Rel.less (h : Rel E ρ σ a w) (ht : ∀ t, VLe (σ.get t) (σ'.get t)) (hO : ∀ id, PLe (σ.O id) (σ'.O id)) (hN : σ'.N = σ.N) (hn : σ'.next = σ.next) : Rel E ρ σ' a w := by
  have own1 : ∀ g, own ρ σ'.O g → own ρ σ.O g := fun g ⟨id, o', h1, h2, h3⟩ => by
    obtain ⟨o, e1, e2⟩ := (hO id).to_some h1
    exact ⟨id, o, e1, by rw [← e2.facts.2.1]; exact h2, h3⟩
  have own2 : ∀ g k, ownc ρ σ'.O g k → ownc ρ σ.O g k := fun g k ⟨id, o', h1, h2, h3, h4⟩ => by
    obtain ⟨o, e1, e2⟩ := (hO id).to_some h1
    exact ⟨id, o, e1, by rw [← e2.facts.2.1]; exact h2, h3, by rw [← e2.low]; exact h4⟩
  have ex : Ext ρ σ.O w ρ σ'.O w := by
    refine ⟨fun g _ ho => ⟨rfl, fun k => ho (own1 g k)⟩, fun g c _ ho => ⟨rfl, fun k => ho (own2 g c k)⟩, fun id o ho => ?_⟩
    obtain ⟨o', e1, e2⟩ := (hO id).of_some ho
    exact ⟨o', e1, by rw [e2.facts.1]; exact Nat.le_refl _, fun _ => ⟨rfl, e2.facts.2.2, fun g cs e _ _ hh => ⟨cs, hh, rfl⟩⟩⟩
  refine ⟨fun t => ht t _ _ _ _ _ (Env.mono h.le) (V.rel_ext ex (h.tm t)), h.N.trans hN.symm, fun id o' ho => ?_, fun id o' g ho hl hg => ?_, fun id id' o1 o2 g k1 k2 l1 l2 p1 p2 => ?_, fun id hid => ?_, h.ext.trans h.bs ex, h.bs, h.os, h.tape, h.output, h.df, h.gl.ext ex, h.le⟩
  · obtain ⟨o, e1, e2⟩ := (hO id).to_some ho
    exact e2.rel (Env.mono h.le) (Ob.rel_ext ex rfl (fun g _ => rfl) (h.ob id o e1))
  · obtain ⟨o, e1, e2⟩ := (hO id).to_some ho
    exact h.hi id o g e1 (by rw [← e2.facts.2.1]; exact hl) hg
  · obtain ⟨q1, e1, e2⟩ := (hO id).to_some k1
    obtain ⟨q2, f1, f2⟩ := (hO id').to_some k2
    exact h.inj id id' q1 q2 g e1 f1 (by rw [← e2.facts.2.1]; exact l1) (by rw [← f2.facts.2.1]; exact l2) p1 p2
  · have := h.nx id (by omega)
    have k := hO id
    rw [this] at k
    cases hq : σ'.O id with
    | none => rfl
    | some o => rw [hq] at k; exact k.elim
end
structure CallInfo where
  ids : List Nat
  vw : List Nat
  keep : Bool
  args : List V
  os : List Ob
  r : Ret

def rn (ids : List Nat) (fresh k : Nat) : Nat := if k < ids.length then ids.getD k 0 else fresh + (k - ids.length)

inductive V.shown (O : Ow) (vw : List Nat) (r : Nat → Nat) : V → V → Prop where
  | same (v : V) : V.shown O vw r (v.ren r) v
  | im (t t' : T) (h : T.le t t') : V.shown O vw r (.im t) (.im t')
  | view (id ver off len e size n : Nat) (f : Nat → Nat → T) (t' : T) {zz : Zz} (ho : O id = some (.arr zz e size ver n f)) (hv : id ∈ vw) (h : T.le (T.sl .any size len fun i j => f (off + i) j) t') : V.shown O vw r (.buf id ver off len) (.im t')
  | agg (n : Nat) (f f' : Nat → V) (h : ∀ j, j < n → V.shown O vw r (f j) (f' j)) : V.shown O vw r (.agg n f) (.agg n f')
  | le (u v : V) (h : VLe u (v.ren r)) : V.shown O vw r u v
  | look (id j size : Nat) (e : TypeId) (f : Nat → V) (g : Nat → Nat → T) (ho : O id = some (.var e size f)) (hv : id ∈ vw) (h : ∀ k, k < size → V.shown O vw r (f k) (.im (g 0 k))) : V.shown O vw r (.ptr id 0 0 j) (.elem .any size 1 g 0 j)

def shareO : Option Ob → Ob
  | some (.arr _ e s v n f) => .arr .sh e s v n f
  | _ => .gone 0
def CallInfo.ups (c : CallInfo) (O : Ow) (fresh : Nat) : List (Nat × Ob) :=
  ((c.r.os ++ c.r.new).zipIdx.map fun p => (rn c.ids fresh p.2, p.1.ren (rn c.ids fresh))) ++ if c.keep then [] else c.vw.map fun id => (id, shareO (O id))

structure CallOK (P : Program) (O : Ow) (fresh : Nat) (f : FuncId) (evs : List V) (c : CallInfo) : Prop where
  fc : FC P f c.os c.args c.r
  len : c.args.length = evs.length
  args : ∀ (j : Nat) (e v : V), evs[j]? = some e → c.args[j]? = some v → V.shown O c.vw (rn c.ids fresh) e v
  lt : ∀ v ∈ c.args, v.lt c.ids.length
  nd : c.ids.Nodup
  osl : c.os.length = c.ids.length
  rl : c.r.os.length = c.os.length
  os : ∀ (k : Nat) (o : Ob), c.os[k]? = some o → O (c.ids.getD k 0) = some (o.ren (rn c.ids fresh)) ∧ o.lt c.ids.length
  vw : ∀ id ∈ c.vw, id ∉ c.ids ∧ ((∃ zz e size ver n f, O id = some (.arr zz e size ver n f)) ∨ (c.keep = true ∧ ∃ e size f, O id = some (.var e size f)))
  kept : c.keep = true → c.r.v.flat ∧ ∀ o ∈ c.r.os ++ c.r.new, o.flat
  small : c.r.new.length ≤ 16

def CallW (P : Program) (O : Ow) (fresh : Nat) (f : FuncId) (evs : List V) (c : CallInfo) : Prop :=
  ∃ O2 : Ow, (∀ id, PLe (O id) (O2 id)) ∧ (∀ id, id ∉ c.ids → O2 id = O id) ∧ CallOK P O2 fresh f evs c

inductive AM where
  | done (v : V) (ups : List (Nat × Ob))
  | get (id : Nat) (k : Ob → AM)
  | req (p : Prop) (m : AM)
  | ite (b : Bool) (m n : AM)
  | call (f : FuncId) (evs : List V)

def AM.fail : AM := .req False (.done .dead [])

inductive PO where
  | nilc
  | sidx
  | neg
  | com
  | nilq (kd : Nat) (neg : Bool)
  | aidx (agg : Bool) (sz len : Nat)
  | mm3 (big : Bool)
  | gidx (len : Nat)
  | capn

inductive KK where
  | int (k : IntKind)
  | str
  | bool
def KK.desc : KK → TypeDesc
  | .int k => .int k
  | .str => .string
  | .bool => .bool
def keyEq : Value → Value → Bool
  | .int _ a, .int _ b => a == b
  | .string a, .string b => a == b
  | .bool a, .bool b => a == b
  | _, _ => false
def mfind (kv : Value) (key : Nat → Value) : Nat → Nat → Option Nat
  | 0, _ => none
  | m + 1, i => cond (keyEq kv (key i)) (some i) (mfind kv key m (i + 1))
def IsKk (kc : KK) (v : Value) : Prop := Go.MapKept.IsKey kc.desc v

inductive AOp where
  | mkmap (t : TypeId) (agg : Bool) (sz : Nat) (r : Option Operand)
  | mlook (kc : KK) (cok agg : Bool) (sz : Nat) (z : List Value) (x i : Operand)
  | mset (kc : KK) (agg : Bool) (sz : Nat) (m i x : Operand)
  | ment (kc : KK) (agg : Bool) (sz : Nat) (z : List Value) (m i : Operand)
  | mest (agg : Bool) (sz : Nat) (m s x : Operand)
  | mlen (x : Operand)
  | bad
  | pure (p : PO) (args : List Operand)
  | s2b (e : Nat) (x : Operand)
  | mov (x : Operand)
  | pick (c x y : Operand)
  | alloc (e sz : Nat) (z : List Value)
  | box (e sz : Nat) (x : Operand)
  | build (sz : Nat) (z : List Value) (parts : List (Nat × Nat × Operand))
  | bslice (e sz len : Nat) (z : List Value) (parts : List (Nat × Operand))
  | cslice (e len : Nat) (parts : List (Nat × Operand))
  | load (agg : Bool) (sz : Nat) (x : Operand)
  | store (sz : Nat) (a x : Operand)
  | faddr (off : Nat) (x : Operand)
  | iaddr (sz : Nat) (x i : Operand)
  | bin (op : BinOp) (x y : Operand)
  | beq (neg : Bool) (x y : Operand)
  | not (x : Operand)
  | conv (k : IntKind) (x : Operand)
  | fld (agg : Bool) (off sz : Nat) (x : Operand)
  | slc (sz : Nat) (x : Operand) (lo hi : Option Operand)
  | make (rm : Bool) (e sz : Nat) (z : List Value) (bytes : Nat) (len cap : Operand)
  | len (str : Bool) (x : Operand)
  | app (e sz : Nat) (z : List Value) (bytes : Nat) (s x : Operand)
  | ext (x : Operand) (i : Nat)
  | ifc (t : Nat) (x : Operand)
  | fn (f : FuncId) (first cap : List Operand)
  | call (f : FuncId) (args : List Operand)
  | callv (f : Operand) (args : List Operand)
  | mm (big : Bool) (x y : Operand)
  | slc3 (sz : Nat) (x : Operand) (lo hi mx : Option Operand)
  | b2s (x : Operand)
  | b2b (x : Operand)
  | copy (sz : Nat) (d s : Operand)
  | seq (neg : Bool) (ks : List Kd) (x y : Operand)
  | apps (e : Nat) (s x : Operand)
  | clr (sz : Nat) (z : List Value) (x : Operand)
  | appz (e sz : Nat) (z : List Value) (bytes : Nat) (s n : Operand)

def smm (big : Bool) (a b : ByteArray) : ByteArray := cond (cond big (!Op.bytesLess a.toList b.toList) (Op.bytesLess a.toList b.toList || a.toList == b.toList)) a b
def V.cell : V → Nat → V
  | .agg _ f, j => f j
  | .im (.agg _ f), j => .im (f j)
  | v, _ => v
def V.ncell : V → Nat
  | .agg n _ => n
  | .im (.agg n _) => n
  | .im (.val v) => if v.oneCell' then 1 else 0
  | .dead => 0
  | .tup _ _ => 0
  | _ => 1
def V.sub : V → Option (Nat × (Nat → V))
  | .agg n f => some (n, f)
  | .im (.agg n f) => some (n, fun j => .im (f j))
  | _ => none
def vval (f : Nat → V) (j : Nat) : Option Value := match f j with
  | .im (.val a) => some a
  | _ => none
def V.okT : V → Bool
  | .im _ => true
  | .ifc _ v => v.okT
  | _ => false
def V.asT : V → T
  | .im t => t
  | .ifc t v => .ifc t v.asT
  | _ => .val undef

def T.isByte : T → Prop
  | .val (.int .u8 _) => True
  | _ => False
def T.num : T → Int
  | .val (.int _ n) => n
  | _ => 0

def aint (op : BinOp) (k : IntKind) (x y : Int) : Prop × Value :=
  match op with
  | .add => (True, .int k (k.wrap (x + y)))
  | .sub => (True, .int k (k.wrap (x - y)))
  | .mul => (True, .int k (k.wrap (x * y)))
  | .quo => (y ≠ 0, .int k (k.wrap (x.tdiv y)))
  | .rem => (y ≠ 0, .int k (x.tmod y))
  | .and => (True, .int k (k.wrap ((BitVec.ofInt k.bits x) &&& (BitVec.ofInt k.bits y)).toNat))
  | .or => (True, .int k (k.wrap ((BitVec.ofInt k.bits x) ||| (BitVec.ofInt k.bits y)).toNat))
  | .xor => (True, .int k (k.wrap ((BitVec.ofInt k.bits x) ^^^ (BitVec.ofInt k.bits y)).toNat))
  | .andNot => (True, .int k (k.wrap ((BitVec.ofInt k.bits x) &&& ~~~(BitVec.ofInt k.bits y)).toNat))
  | .eql => (True, .bool (x == y))
  | .neq => (True, .bool (x != y))
  | .lss => (True, .bool (x < y))
  | .leq => (True, .bool (x ≤ y))
  | .gtr => (True, .bool (x > y))
  | .geq => (True, .bool (x ≥ y))
  | _ => (False, undef)
def astr (op : BinOp) (x y : ByteArray) : Prop × Value :=
  match op with
  | .add => (x.size + y.size ≤ 9223372036854775807, .string (x ++ y))
  | .eql => (True, .bool (x.toList == y.toList))
  | .neq => (True, .bool !(x.toList == y.toList))
  | .lss => (True, .bool (Op.bytesLess x.toList y.toList))
  | .leq => (True, .bool (Op.bytesLess x.toList y.toList || x.toList == y.toList))
  | .gtr => (True, .bool !(Op.bytesLess x.toList y.toList || x.toList == y.toList))
  | .geq => (True, .bool !Op.bytesLess x.toList y.toList)
  | _ => (False, undef)
def abin (op : BinOp) (a b : Value) : Prop × Value :=
  match a, b with
  | .int k x, .int k' y =>
    match op with
    | .shl => (0 ≤ y, .int k (k.wrap (x * 2 ^ (min y.toNat k.bits))))
    | .shr => (0 ≤ y, .int k (x.fdiv (2 ^ (min y.toNat k.bits))))
    | _ => if k = k' then aint op k x y else (False, undef)
  | .string x, .string y => astr op x y
  | _, _ => (False, undef)

def bAt (s : ByteArray) (i : Nat) : Int := ((s.data.toList.getD i 0).toNat : Int)
def nilcV : V → Option (Prop × V)
  | .ptr id ver i j => some (True, .ptr id ver i j)
  | .elem q s n f i j => some (True, .elem q s n f i j)
  | .clo fn n f m g => some (True, .clo fn n f m g)
  | _ => none
def sidxV : V → V → Option (Prop × V)
  | .im (.val (.string s)), .im (.val (.int _ i)) => some (0 ≤ i ∧ i < (s.size : Int), .im (.val (.int .u8 (bAt s i.toNat))))
  | _, _ => none
def negV : V → Option (Prop × V)
  | .im (.val (.int k n)) => some (True, .im (.val (.int k (k.wrap (0 - n)))))
  | _ => none
def comV : V → Option (Prop × V)
  | .im (.val (.int k n)) => some ((aint .xor k (if k.signed then -1 else k.max) n).1, .im (.val (aint .xor k (if k.signed then -1 else k.max) n).2))
  | _ => none
def nilqV (ng : Bool) : Nat → V → Option (Prop × V)
  | 0, .ptr .. => some (True, .im (.val (.bool ng)))
  | 0, .elem .. => some (True, .im (.val (.bool ng)))
  | 0, .im (.val (.pointer none)) => some (True, .im (.val (.bool !ng)))
  | 1, .ifc .. => some (True, .im (.val (.bool ng)))
  | 1, .im (.ifc ..) => some (True, .im (.val (.bool ng)))
  | 1, .im (.glo ..) => some (True, .im (.val (.bool ng)))
  | 1, .im (.val .nilIface) => some (True, .im (.val (.bool !ng)))
  | 2, .clo .. => some (True, .im (.val (.bool ng)))
  | 2, .im (.val .nilFunc) => some (True, .im (.val (.bool !ng)))
  | 3, .buf .. => some (True, .im .anyb)
  | 3, .im (.sl _ sz n _) => some (True, if 0 < n ∧ 0 < sz then .im (.val (.bool ng)) else .im .anyb)
  | 3, .im (.val (.slice none 0 0)) => some (True, .im (.val (.bool !ng)))
  | _, _ => none
def aidxV (agg : Bool) (sz len : Nat) : V → V → Option (Prop × V)
  | .agg n f, .im (.val (.int _ i)) => some (0 ≤ i ∧ i < (len : Int) ∧ n = len * sz, if agg then .agg sz fun k => f (i.toNat * sz + k) else f (i.toNat * sz))
  | .im (.agg n f), .im (.val (.int _ i)) => some (0 ≤ i ∧ i < (len : Int) ∧ n = len * sz, if agg then .agg sz fun k => .im (f (i.toNat * sz + k)) else .im (f (i.toNat * sz)))
  | _, _ => none
def mm3V (big : Bool) : V → V → V → Option (Prop × V)
  | .im (.val (.int k a)), .im (.val (.int _ b)), .im (.val (.int _ c)) => some (True, .im (.val (.int k (if big then (if c > (if b > a then b else a) then c else (if b > a then b else a)) else (if c < (if b < a then b else a) then c else (if b < a then b else a))))))
  | _, _, _ => none
def glk : List (Nat × IntKind × List Int) → Nat → Option (IntKind × List Int)
  | [], _ => none
  | (k, q) :: l, g => cond (Nat.beq k g) (some q) (glk l g)
theorem glk_mem : ∀ {l : List (Nat × IntKind × List Int)} {g : Nat} {q : IntKind × List Int}, glk l g = some q → (g, q) ∈ l
  | (k, q') :: l, g, q, h => by
    unfold glk at h
    cases hb : Nat.beq k g with
    | true =>
      rw [hb] at h
      obtain rfl := Nat.eq_of_beq_eq_true hb
      cases h
      exact List.mem_cons_self ..
    | false => rw [hb] at h; exact List.mem_cons_of_mem _ (glk_mem h)
def gpk : List (Nat × Nat) → Nat → Option Nat
  | [], _ => none
  | (k, q) :: l, g => cond (Nat.beq k g) (some q) (gpk l g)
theorem gpk_mem : ∀ {l : List (Nat × Nat)} {g q : Nat}, gpk l g = some q → (g, q) ∈ l
  | (k, q') :: l, g, q, h => by
    unfold gpk at h
    cases hb : Nat.beq k g with
    | true =>
      rw [hb] at h
      obtain rfl := Nat.eq_of_beq_eq_true hb
      cases h
      exact List.mem_cons_self ..
    | false => rw [hb] at h; exact List.mem_cons_of_mem _ (gpk_mem h)
def gidxV (len : Nat) : V → V → Option (Prop × V)
  | .im (.val (.pointer (some ⟨g, 0, none⟩))), .im (.val (.int _ i)) => match glk gnum g with
    | some (k, cs) => some (0 ≤ i ∧ i < (len : Int) ∧ cs.length = len, .elem .old 1 len (fun a _ => .val (.int k (cs.getD a 0))) i.toNat 0)
    | none => none
  | _, _ => none
def capV : V → Option (Prop × V)
  | .im (.val (.slice none 0 0)) => some (True, .im (.val (.int .i64 0)))
  | _ => none
def PO.ev : PO → List V → Option (Prop × V)
  | .capn, [x] => capV x
  | .nilc, [x] => nilcV x
  | .sidx, [x, y] => sidxV x y
  | .neg, [x] => negV x
  | .com, [x] => comV x
  | .nilq kd ng, [x] => nilqV ng kd x
  | .aidx agg sz len, [x, y] => aidxV agg sz len x y
  | .mm3 big, [x, y, z] => mm3V big x y z
  | .gidx len, [x, i] => gidxV len x i
  | _, _ => none
def aev (σ : St) : Operand → V
  | .tmp t => σ.get t
  | .const v => .im (.val v)
  | .global g => .im (.val (.pointer (some ⟨g, 0, none⟩)))
  | .func f => .clo f 0 (fun _ => .dead) 0 fun _ => .dead

def lf (l : List V) (j : Nat) : V := l.getD j .dead

def frz (v : V) (k : T → List (Nat × Ob) → AM) : AM :=
  match v with
  | .buf id ver off len => .get id fun
    | .arr _ e size ver' n f => .req (ver' = ver) (k (.sl .new size len fun i j => f (off + i) j) [(id, .arr .sh e size ver' n f)])
    | _ => .fail
  | v => .req (v.okT = true) (k v.asT [])
def frzL : List V → (List T → List (Nat × Ob) → AM) → AM
  | [], k => k [] []
  | v :: vs, k => frz v fun t u => frzL vs fun ts us => k (t :: ts) (u ++ us)

def srcOf (sz : Nat) (v : V) (k : Nat → (Nat → Nat → T) → AM) : AM :=
  match v with
  | .im (.sl _ size n f) => .req (size = sz) (k n f)
  | .im (.slr _ size n _ f) => .req (size = sz) (k n f)
  | .im (.val (.slice none 0 0)) => k 0 fun _ _ => .val undef
  | .buf id ver off len => .get id fun
    | .arr _ _ size ver' _ f => .req (ver' = ver ∧ size = sz) (k len fun i j => f (off + i) j)
    | _ => .fail
  | _ => .fail

def overlay : List (Nat × Nat × V) → (Nat → V) → Nat → V
  | [], g, j => g j
  | (off, sz, v) :: ps, g, j => overlay ps (fun j => if off ≤ j ∧ j < off + sz then v.cell (j - off) else g j) j

def cellsOf (sz : Nat) (v : V) : List V := (List.range sz).map v.cell

def bnd (σ : St) (d : Nat) (x : Option Operand) (k : Nat → AM) : AM :=
  match x with
  | none => k d
  | some x => match aev σ x with
    | .im (.val (.int _ n)) => .req (0 ≤ n) (k n.toNat)
    | _ => .fail

def atKey (agg : Bool) (sz : Nat) (f : Nat → T) : V := cond agg (.agg sz fun k => .im (f k)) (.im (f 0))
def zeroK (z : List Value) (k : Nat) : T := .val (z.getD k undef)
def lookV (cok : Bool) (v : V) (ok : Bool) : V := cond cok (.tup 2 fun j => cond (Nat.beq j 0) v (.im (.val (.bool ok)))) v
def isAggV (v : V) : Bool := v.sub.isSome

def asem (σ : St) (fr : Nat) : AOp → AM
  | .mkmap _ agg sz r => .req (∀ x, r = some x → ∃ k n, aev σ x = .im (.val (.int k n))) (.done (.mp fr) [(fr, .map agg sz 0 (fun _ => undef) fun _ _ => .val undef)])
  | .mlook kc cok agg sz z x i => match aev σ i with
    | .im (.val kv) => .req (IsKk kc kv) (match aev σ x with
      | .mp id => .get id fun
        | .map agg' sz' n key f => .req (agg' = agg ∧ sz' = sz ∧ ∀ j, j < n → IsKk kc (key j)) (match mfind kv key n 0 with
          | some j => .done (lookV cok (atKey agg sz (f j)) true) []
          | none => .done (lookV cok (atKey agg sz (zeroK z)) false) [])
        | _ => .fail
      | .im (.val (.map none)) => .done (lookV cok (atKey agg sz (zeroK z)) false) []
      | _ => .fail)
    | _ => .fail
  | .mset kc agg sz m i x => match aev σ i with
    | .im (.val kv) => .req (IsKk kc kv ∧ (aev σ x).ncell = sz ∧ isAggV (aev σ x) = agg) (match aev σ m with
      | .mp id => .get id fun
        | .map agg' sz' n key f => .req (agg' = agg ∧ sz' = sz ∧ ∀ j, j < n → IsKk kc (key j)) (frzL (cellsOf sz (aev σ x)) fun ts us =>
          .req (us.all (fun u => u.1 != id) = true) (.done (.im (.val undef)) ((id, match mfind kv key n 0 with
            | some j => .map agg sz n key fun i' j' => if i' = j then ts.getD j' (.val undef) else f i' j'
            | none => .map agg sz (n + 1) (fun i' => if i' < n then key i' else kv) fun i' j' => if i' < n then f i' j' else ts.getD j' (.val undef)) :: us)))
        | _ => .fail
      | _ => .fail)
    | _ => .fail
  | .ment kc agg sz z m i => match aev σ i with
    | .im (.val kv) => .req (IsKk kc kv) (match aev σ m with
      | .mp id => .get id fun
        | .map agg' sz' n key f => .req (agg' = agg ∧ sz' = sz ∧ ∀ j, j < n → IsKk kc (key j)) (match mfind kv key n 0 with
          | some j => .done (.tup 2 fun q => cond (Nat.beq q 0) (atKey agg sz (f j)) (.im (.val (.int .i64 (j : Int))))) [(id, .map agg sz n key f)]
          | none => .done (.tup 2 fun q => cond (Nat.beq q 0) (atKey agg sz (zeroK z)) (.im (.val (.int .i64 (n : Int))))) [(id, .map agg sz (n + 1) (fun i' => if i' < n then key i' else kv) fun i' j' => if i' < n then f i' j' else zeroK z j')])
        | _ => .fail
      | _ => .fail)
    | _ => .fail
  | .mest agg sz m s x => match aev σ s with
    | .im (.val (.int _ q)) => .req ((aev σ x).ncell = sz ∧ isAggV (aev σ x) = agg) (match aev σ m with
      | .mp id => .get id fun
        | .map agg' sz' n key f => .req (agg' = agg ∧ sz' = sz ∧ 0 ≤ q ∧ q < (n : Int)) (frzL (cellsOf sz (aev σ x)) fun ts us =>
          .req (us.all (fun u => u.1 != id) = true) (.done (.im (.val undef)) ((id, .map agg sz n key fun i' j' => if i' = q.toNat then ts.getD j' (.val undef) else f i' j') :: us)))
        | _ => .fail
      | _ => .fail)
    | _ => .fail
  | .mlen x => match aev σ x with
    | .mp id => .get id fun
      | .map _ _ n _ _ => .done (.im (.val (.int .i64 (n : Int)))) []
      | _ => .fail
    | .im (.val (.map none)) => .done (.im (.val (.int .i64 0))) []
    | _ => .fail
  | .bad => .fail
  | .pure p xs => match p.ev (xs.map (aev σ)) with
    | some (c, v) => .req c (.done v [])
    | none => .fail
  | .s2b _ x => match aev σ x with
    | .im (.val (.string s)) => .done (.im (.sl .any 1 s.size fun i _ => .val (.int .u8 (bAt s i)))) []
    | _ => .fail
  | .mov x => .done (aev σ x) []
  | .pick c x y => match aev σ c with
    | .im (.val (.bool b)) => .ite b (.done (aev σ x) []) (.done (aev σ y) [])
    | _ => .fail
  | .alloc e sz z => .done (.ptr fr 0 0 0) [(fr, .var e sz fun j => .im (.val (z.getD j undef)))]
  | .box e sz x => .req ((aev σ x).ncell = sz) (.done (.ptr fr 0 0 0) [(fr, .var e sz (aev σ x).cell)])
  | .build sz z parts => .req (∀ p ∈ parts, (aev σ p.2.2).ncell = p.2.1)
      (.done (.agg sz (overlay (parts.map fun p => (p.1, p.2.1, aev σ p.2.2)) fun j => .im (.val (z.getD j undef)))) [])
  | .bslice e sz len _ parts => .req (∀ p ∈ parts, (aev σ p.2).ncell = sz)
      (frzL (parts.flatMap fun p => cellsOf sz (aev σ p.2)) fun ts us =>
        .done (.buf fr 0 0 len) ((fr, .arr (.own none) e sz 0 len fun i j => ts.getD (i * sz + j) (.val undef)) :: us))
  | .cslice e len parts => .req (∀ p ∈ parts, (aev σ p.2).ncell = 1) (.done (.vsl fr len) [(fr, .var e len fun j => (aev σ (parts.getD j (0, .const undef)).2).cell 0)])
  | .load agg sz x => match aev σ x with
    | .ptr id ver i j => .get id fun
      | .var _ size f => .req (i = 0 ∧ ver = 0 ∧ j + sz ≤ size) (.done (if agg then .agg sz fun k => f (j + k) else f j) [])
      | .arr _ _ size ver' n f => .req (ver' = ver ∧ i < n ∧ j + sz ≤ size) (.done (if agg then .agg sz fun k => .im (f i (j + k)) else .im (f i j)) [])
      | _ => .fail
    | .elem _ size n f i j => .req (i < n ∧ j + sz ≤ size) (.done (if agg then .agg sz fun k => .im (f i (j + k)) else .im (f i j)) [])
    | .im (.val (.pointer (some ⟨g, 0, none⟩))) => .req (agg = false) (match gpk gptr g with
      | some t => .done (.im (.glo g t)) []
      | none => .fail)
    | _ => .fail
  | .store sz a x => .req ((aev σ x).ncell = sz) (match aev σ a with
    | .ptr id ver i j => .get id fun
      | .var e size f => .req (i = 0 ∧ ver = 0 ∧ j + sz ≤ size) (.done (.im (.val undef)) [(id, .var e size fun t => if j ≤ t ∧ t < j + sz then (aev σ x).cell (t - j) else f t)])
      | .arr (.own rm) e size ver' n f => .req (ver' = ver ∧ i < n ∧ j + sz ≤ size) (frzL (cellsOf sz (aev σ x)) fun ts us =>
          .req (us.all (fun u => u.1 != id) = true) (.done (.im (.val undef)) ((id, .arr (.own rm) e size ver' n fun i' j' => if i' = i ∧ j ≤ j' ∧ j' < j + sz then ts.getD (j' - j) (.val undef) else f i' j') :: us)))
      | _ => .fail
    | _ => .fail)
  | .faddr off x => match aev σ x with
    | .ptr id ver i j => .done (.ptr id ver i (j + off)) []
    | .elem q size n f i j => .done (.elem q size n f i (j + off)) []
    | _ => .fail
  | .iaddr sz x i => match aev σ i with
    | .im (.val (.int _ q)) => match aev σ x with
      | .buf id ver off len => .get id fun
        | .arr _ _ size ver' _ _ => .req (ver' = ver ∧ size = sz ∧ 0 ≤ q ∧ q < len) (.done (.ptr id ver (off + q.toNat) 0) [])
        | _ => .fail
      | .vsl id len => .get id fun
        | .var _ size _ => .req (sz = 1 ∧ len ≤ size ∧ 0 ≤ q ∧ q < len) (.done (.ptr id 0 0 q.toNat) [])
        | _ => .fail
      | .im (.sl qq size n f) => .req (size = sz ∧ 0 ≤ q ∧ q < n) (.done (.elem qq size n f q.toNat 0) [])
      | _ => .fail
    | _ => .fail
  | .bin op x y => match aev σ x, aev σ y with
    | .im (.val a), .im (.val b) => .req (abin op a b).1 (.done (.im (.val (abin op a b).2)) [])
    | .im (.anyn (.int k)), .im (.val (.int k' _)) => .req (op = .add ∧ k = k') (.done (.im (.anyn (.int k))) [])
    | _, _ => .fail
  | .beq neg x y => match aev σ x, aev σ y with
    | .im (.val (.bool a)), .im (.val (.bool b)) => .done (.im (.val (.bool (if neg then !(a == b) else a == b)))) []
    | _, _ => .fail
  | .seq neg ks x y => match (aev σ x).sub, (aev σ y).sub with
    | some (n, f), some (m, g) => match cellsEq (vval f) (vval g) ks 0 with
      | some r => .req (n = ks.length ∧ m = ks.length) (.done (.im (.val (.bool (if neg then !r else r)))) [])
      | none => .fail
    | _, _ => .fail
  | .not x => match aev σ x with
    | .im (.val (.bool a)) => .done (.im (.val (.bool !a))) []
    | _ => .fail
  | .conv k x => match aev σ x with
    | .im (.val (.int _ n)) => .done (.im (.val (.int k (k.wrap n)))) []
    | _ => .fail
  | .fld agg off sz x => match aev σ x with
    | .agg n f => .req (off + sz ≤ n) (.done (if agg then .agg sz fun k => f (off + k) else f off) [])
    | .im (.agg n f) => .req (off + sz ≤ n) (.done (if agg then .agg sz fun k => .im (f (off + k)) else .im (f off)) [])
    | _ => .fail
  | .slc sz x lo hi => match aev σ x with
    | .im (.val (.string s)) => bnd σ 0 lo fun l => bnd σ s.size hi fun h => .req (sz = 0 ∧ l ≤ h ∧ h ≤ s.size) (.done (.im (.val (.string (s.extract l h)))) [])
    | .im (.sl q size n f) => bnd σ 0 lo fun l => bnd σ n hi fun h => .req (0 < sz ∧ size = sz ∧ l ≤ h ∧ h ≤ n) (.done (.im (.sl q size (h - l) fun i j => f (l + i) j)) [])
    | .im (.slr q size n m f) => bnd σ 0 lo fun l => bnd σ n hi fun h => .req (0 < sz ∧ size = sz ∧ l ≤ h ∧ h ≤ m) (.done (.im (.sl q size (h - l) fun i j => f (l + i) j)) [])
    | .im (.val (.slice none 0 0)) => bnd σ 0 lo fun l => bnd σ 0 hi fun h => .req (0 < sz ∧ l = 0 ∧ h = 0) (.done (.im (.val (.slice none 0 0))) [])
    | .buf id ver off len => .get id fun
      | .arr _ _ size ver' n _ => bnd σ 0 lo fun l => bnd σ len hi fun h => .req (0 < sz ∧ ver' = ver ∧ size = sz ∧ l ≤ h ∧ off + h ≤ n) (.done (.buf id ver (off + l) (h - l)) [])
      | _ => .fail
    | _ => .fail
  | .make zz e sz z bytes len cap => match aev σ len, aev σ cap with
    | .im (.val (.int _ n)), .im (.val (.int _ c)) => .req (0 ≤ n ∧ n ≤ c ∧ c ≤ 9223372036854775807 ∧ bytes * c ≤ 140737488355328)
        (.done (.buf fr 0 0 n.toNat) [(fr, .arr (if zz then .app else .own (rmOf z)) e sz 0 n.toNat fun _ j => .val (z.getD j undef))])
    | _, _ => .fail
  | .len str x => match aev σ x with
    | .im (.val (.string s)) => .req (str = true) (.done (.im (.val (.int .i64 s.size))) [])
    | .im (.sl _ _ n _) => .req (str = false) (.done (.im (.val (.int .i64 n))) [])
    | .im (.slr _ _ n _ _) => .req (str = false) (.done (.im (.val (.int .i64 n))) [])
    | .im (.val (.slice _ n _)) => .req (str = false) (.done (.im (.val (.int .i64 n))) [])
    | .buf _ _ _ len => .req (str = false) (.done (.im (.val (.int .i64 len))) [])
    | .vsl _ len => .req (str = false) (.done (.im (.val (.int .i64 len))) [])
    | _ => .fail
  | .app e sz z bytes s x => match aev σ s with
    | .buf id ver off len => .get id fun
      | .arr zz' e' size ver' n f => .req (zz' ≠ .sh ∧ ver' = ver ∧ off = 0 ∧ (len = n ∨ (zz' = .own none ∧ len ≤ n)) ∧ size = sz ∧ e' = e) (srcOf sz (aev σ x) fun m g =>
          .req (len + m ≤ maxLen ∧ (len + m) * bytes ≤ 140737488355328) (.done (.buf id (ver + 1) 0 (len + m)) [(id, .arr (zz'.gr (rmOf z)) e sz (ver + 1) (len + m) fun i j => if i < len then f i j else g (i - len) j)]))
      | _ => .fail
    | .im (.val (.slice none 0 0)) => srcOf sz (aev σ x) fun m g =>
        .req (m ≤ maxLen ∧ m * bytes ≤ 140737488355328) (.done (.buf fr 0 0 m) [(fr, .arr (.own (rmOf z)) e sz 0 m g)])
    | _ => .fail
  | .ext x i => match aev σ x with
    | .tup n f => .req (i < n) (.done (f i) [])
    | _ => .fail
  | .ifc t x => .done (.ifc t (aev σ x)) []
  | .fn f first cap => .done (.clo f first.length (lf (first.map (aev σ))) cap.length (lf (cap.map (aev σ)))) []
  | .call f args => .call f (args.map (aev σ))
  | .callv f args => match aev σ f with
    | .clo fn n fst m cap => .call fn ((List.range n).map fst ++ args.map (aev σ) ++ (List.range m).map cap)
    | _ => .fail
  | .mm big x y => match aev σ x, aev σ y with
    | .im (.val (.int k a)), .im (.val (.int _ b)) => .done (.im (.val (.int k (if big then (if b > a then b else a) else if b < a then b else a)))) []
    | .im (.val (.string a)), .im (.val (.string b)) => .done (.im (.val (.string (smm big a b)))) []
    | _, _ => .fail
  | .slc3 sz x lo hi mx => match aev σ x with
    | .im (.sl q size n f) => bnd σ n mx fun m => bnd σ n hi fun h => bnd σ 0 lo fun l => .req (0 < sz ∧ size = sz ∧ l ≤ h ∧ h ≤ m ∧ m ≤ n ∧ hi.isSome = true ∧ mx.isSome = true) (.done (.im (.sl q size (h - l) fun i j => f (l + i) j)) [])
    | .buf id ver off len => .get id fun
      | .arr .app _ size ver' n f => bnd σ len mx fun m => bnd σ len hi fun h => bnd σ 0 lo fun l => .req (0 < sz ∧ ver' = ver ∧ size = sz ∧ l ≤ h ∧ h ≤ m ∧ m ≤ len ∧ off + len ≤ n ∧ hi.isSome = true ∧ mx.isSome = true) (.done (.im (.sl .new size (h - l) fun i j => f (off + l + i) j)) [])
      | _ => .fail
    | _ => .fail
  | .b2s x => srcOf 1 (aev σ x) fun n g => .req (∀ i, i < n → (g i 0).isByte) (.done (.im (.val (.string (strOfNums ((List.range n).map fun i => (g i 0).num))))) [])
  | .b2b x => match aev σ x with
    | .buf id ver off len => .get id fun
      | .arr (.own _) _ size ver' n f => .req (ver' = ver ∧ (size = 1 ∧ off = 0) ∧ len = n ∧ 0 < len) (.done (.im (.sl .any 1 len f)) [(id, .gone (ver' + 1))])
      | _ => .fail
    | _ => .fail
  | .copy sz d s => match aev σ d with
    | .buf id ver off len => .get id fun
      | .arr (.own rm) e size ver' n f => .req (ver' = ver ∧ size = sz) (srcOf sz (aev σ s) fun m g =>
          .done (.im (.val (.int .i64 (min m len : Nat)))) [(id, .arr (.own rm) e size ver' n fun i j => if off ≤ i ∧ i < off + min m len then g (i - off) j else f i j)])
      | _ => .fail
    | _ => .fail
  | .appz e sz z bytes s n => match aev σ s, aev σ n with
    | .im (.val (.slice none 0 0)), .im (.val (.int _ m)) => .req (0 < m ∧ m * bytes ≤ 140737488355328 ∧ m ≤ 9223372036854775807) (.done (.buf fr 0 0 m.toNat) [(fr, .arr (.own none) e sz 0 m.toNat fun _ j => .val (z.getD j undef))])
    | _, _ => .fail
  | .clr sz z x => match aev σ x with
    | .buf id ver off len => .get id fun
      | .arr (.own rm) e size ver' n f => .req (ver' = ver ∧ size = sz) (.done (.im (.val (.tuple #[]))) [(id, .arr (.own rm) e size ver' n fun i j => if off ≤ i ∧ i < off + len then .val (z.getD j undef) else f i j)])
      | _ => .fail
    | _ => .fail
  | .apps e s x => match aev σ x with
    | .im (.val (.string q)) => match aev σ s with
      | .buf id ver off len => .get id fun
        | .arr zz' e' size ver' n f => .req (zz' ≠ .sh ∧ ver' = ver ∧ off = 0 ∧ len = n ∧ size = 1 ∧ e' = e)
            (.req (n + q.size ≤ maxLen ∧ n + q.size ≤ 140737488355328) (.done (.buf id (ver + 1) 0 (n + q.size)) [(id, .arr zz'.nr e 1 (ver + 1) (n + q.size) fun i j => if i < n then f i j else .val (.int .u8 (bAt q (i - n))))]))
        | _ => .fail
      | .im (.val (.slice none 0 0)) => .req (q.size ≤ maxLen ∧ q.size ≤ 140737488355328) (.done (.buf fr 0 0 q.size) [(fr, .arr (.own none) e 1 0 q.size fun i _ => .val (.int .u8 (bAt q i)))])
      | _ => .fail
    | _ => .fail

def AM.wp (P : Program) (O : Ow) (fr : Nat) : AM → (List Nat → V → List (Nat × Ob) → Prop) → Prop
  | .done v ups, K => K [] v ups
  | .get id k, K => ∃ o, O id = some o ∧ (k o).wp P O fr fun rd => K (id :: rd)
  | .req p m, K => p ∧ m.wp P O fr K
  | .ite b m n, K => (b = true → m.wp P O fr K) ∧ (b = false → n.wp P O fr K)
  | .call f evs, K => ∃ c : CallInfo, CallW P O fr f evs c ∧ K (c.ids ++ c.vw) (c.r.v.ren (rn c.ids fr)) (c.ups O fr)

theorem AM.wp_mono {P : Program} {O : Ow} {fr : Nat} : ∀ {m : AM} {K K' : List Nat → V → List (Nat × Ob) → Prop}, (∀ a b c, K a b c → K' a b c) → m.wp P O fr K → m.wp P O fr K'
  | .done _ _, _, _, h, k => h _ _ _ k
  | .get _ _, _, _, h, ⟨o, e, k⟩ => ⟨o, e, AM.wp_mono (fun _ _ _ => h _ _ _) k⟩
  | .req _ _, _, _, h, ⟨p, k⟩ => ⟨p, AM.wp_mono h k⟩
  | .ite _ _ _, _, _, h, ⟨k1, k2⟩ => ⟨fun e => AM.wp_mono h (k1 e), fun e => AM.wp_mono h (k2 e)⟩
  | .call _ _, _, _, h, ⟨c, e, k⟩ => ⟨c, e, h _ _ _ k⟩

theorem AM.wp_one {P : Program} {O : Ow} {fr : Nat} : ∀ {m : AM} {K : List Nat → V → List (Nat × Ob) → Prop}, m.wp P O fr K → ∃ rd v ups, K rd v ups ∧ m.wp P O fr fun a b c => a = rd ∧ b = v ∧ c = ups
  | .done v ups, _, k => ⟨[], v, ups, k, rfl, rfl, rfl⟩
  | .get id _, _, ⟨o, e, k⟩ => by
    obtain ⟨rd, v, ups, h1, h2⟩ := AM.wp_one k
    exact ⟨id :: rd, v, ups, h1, o, e, AM.wp_mono (fun a b c ⟨x, y, z⟩ => ⟨by rw [x], y, z⟩) h2⟩
  | .req _ _, _, ⟨p, k⟩ => by
    obtain ⟨rd, v, ups, h1, h2⟩ := AM.wp_one k
    exact ⟨rd, v, ups, h1, p, h2⟩
  | .ite true _ _, _, ⟨k, _⟩ => by
    obtain ⟨rd, v, ups, h1, h2⟩ := AM.wp_one (k rfl)
    refine ⟨rd, v, ups, h1, fun _ => h2, fun e => ?_⟩
    cases e
  | .ite false _ _, _, ⟨_, k⟩ => by
    obtain ⟨rd, v, ups, h1, h2⟩ := AM.wp_one (k rfl)
    refine ⟨rd, v, ups, h1, fun e => ?_, fun _ => h2⟩
    cases e
  | .call _ _, _, ⟨c, e, k⟩ => ⟨_, _, _, k, c, e, rfl, rfl, rfl⟩
end
end Go.Proofs.Ytlmnhbobgfpanaa
