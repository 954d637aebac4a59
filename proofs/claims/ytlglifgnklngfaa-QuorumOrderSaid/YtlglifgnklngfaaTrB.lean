/-
  States of a call, and how they stand to a frame and a world. General; nothing of this program.
-/
import Derived.Test.YtlglifgnklngfaaTrA
namespace Go.Proofs.Ytlglifgnklngfaa
open Go.RowKit

def lk : List (Nat × V) → Nat → V
  | [], _ => .dead
  | (k, v) :: l, t => if k = t then v else lk l t
def lo : List (Nat × Ob) → Nat → Option Ob
  | [], _ => none
  | (k, o) :: l, t => if k = t then some o else lo l t

structure St where
  tm : List (Nat × V)
  ob : List (Nat × Ob)
  next : Nat
  N : Nat

def St.get (σ : St) (t : Nat) : V := lk σ.tm t
def St.O (σ : St) : Ow := lo σ.ob

/-- Where a call began: the world, what it was handed to own, and what it may see. -/
structure Env where
  W : World
  ρ : Pl
  O : Ow
  ok : Nat → Nat → Prop

/-- What the call may see: what it was shown, what it was handed, what is new. -/
def Env.b (E : Env) (g k : Nat) : Prop := E.ok g k ∨ E.W.heap.size ≤ g ∨ own E.ρ E.O g

structure Rel (E : Env) (ρ : Pl) (σ : St) (a : Act) (w : World) : Prop where
  tm : ∀ t, (σ.get t).rel E.b ρ σ.O w (a.tmps.getD t undef)
  N : a.tmps.size = σ.N
  ob : ∀ id o, σ.O id = some o → o.rel E.b ρ σ.O w (ρ id)
  hi : ∀ id o g, σ.O id = some o → o.live = true → ρ id = some g → (E.W.heap.size ≤ g ∨ own E.ρ E.O g) ∧ g < w.heap.size
  inj : ∀ id id' o o' g, σ.O id = some o → σ.O id' = some o' → o.live = true → o'.live = true → ρ id = some g → ρ id' = some g → id = id'
  nx : ∀ id, σ.next ≤ id → σ.O id = none
  ext : Ext E.ρ E.O E.W ρ σ.O w
  bs : E.W.heap.size ≤ w.heap.size
  os : w.os = E.W.os
  tape : w.tape = E.W.tape
  output : w.output = E.W.output
  df : a.defers = []
  gl : Glb E.b ρ σ.O w

def St.put (σ : St) (d : Nat) (v : V) : St := { σ with tm := (d, v) :: σ.tm }
def St.setO (σ : St) (id : Nat) (o : Ob) : St := { σ with ob := (id, o) :: σ.ob }

section
variable {E : Env} {ρ ρ' : Pl} {σ σ' : St} {a : Act} {w w' : World}

theorem getD_put (a : Act) (d t : Nat) (x : Value) (hd : d < a.tmps.size) : (a.put (some d) x).tmps.getD t undef = if d = t then x else a.tmps.getD t undef := by
  simp only [Act.put, Array.getD_eq_getD_getElem?, Array.getElem?_setIfInBounds]
  by_cases e : d = t
  · subst e; simp [hd]
  · simp [e]

/-- A slot is written. -/
theorem Rel.put (h : Rel E ρ σ a w) {d : Nat} (hd : d < σ.N) {v : V} {x : Value} (hv : v.rel E.b ρ σ.O w x) : Rel E ρ (σ.put d v) (a.put (some d) x) w where
  tm t := by
    rw [getD_put a d t x (by rw [h.N]; exact hd)]
    show (lk ((d, v) :: σ.tm) t).rel _ _ _ _ _
    unfold lk
    split
    · exact hv
    · exact h.tm t
  N := by simp [Act.put, h.N, St.put]
  ob := h.ob
  hi := h.hi
  inj := h.inj
  nx := h.nx
  ext := h.ext
  bs := h.bs
  os := h.os
  tape := h.tape
  output := h.output
  df := h.df
  gl := h.gl

theorem Ob.rel_ext {b : Nat → Nat → Prop} {O O' : Ow} {o : Ob} {p p' : Option Nat} (h : Ext ρ O w ρ' O' w') (hp : p' = p) (hh : ∀ g, p = some g → w'.heap[g]? = w.heap[g]?) (k : o.rel b ρ O w p) : o.rel b ρ' O' w' p' := by
  subst hp
  cases o with
  | gone => trivial
  | var e s f =>
    obtain ⟨g, cs, e1, e2, e3, e4⟩ := k
    exact ⟨g, cs, e1, (hh g e1).trans e2, e3, fun j hj => ⟨(e4 j hj).1, V.rel_ext h (e4 j hj).2⟩⟩
  | map agg sz n key f =>
    obtain ⟨g, es, e1, e2, e3, e4⟩ := k
    exact ⟨g, es, e1, (hh g e1).trans e2, e3, fun i e he => ⟨(e4 i e he).1, (e4 i e he).2.1, T.rel_mono h.okb (e4 i e he).2.2⟩⟩
  | arr zz e s v n f =>
    rcases k with k | ⟨g, cs, cap, e1, e2, e3, e4, e5, e6⟩
    · exact .inl k
    · exact .inr ⟨g, cs, cap, e1, (hh g e1).trans e2, e3, e4, ⟨e5.1, fun hz => ⟨(h.keep g (Array.getElem?_eq_some_iff.1 e2).1 (e5.2 hz).1).2, (e5.2 hz).2⟩⟩, fun i j hi hj => ⟨(e6 i j hi hj).1, T.rel_mono h.okb (e6 i j hi hj).2⟩⟩

/-- Of a row: everybody may see it who owned it; who else owns its place is the same one. -/
theorem Rel.seen (h : Rel E ρ σ a w) {id g : Nat} {zz : Zz} {e : TypeId} {s v n : Nat} {f : Nat → Nat → T} (ho : σ.O id = some (.arr zz e s v n f)) (hg : ρ id = some g) : (∀ k, E.b g k) ∧ ∀ id' o', σ.O id' = some o' → o'.live = true → ρ id' = some g → id' = id ∧ (Ob.arr zz e s v n f).live = true := by
  have main : (Ob.arr zz e s v n f).live = true → (∀ k, E.b g k) ∧ ∀ id' o', σ.O id' = some o' → o'.live = true → ρ id' = some g → id' = id ∧ (Ob.arr zz e s v n f).live = true := fun hl => by
    refine ⟨fun k => ?_, fun id' o' h1 h2 h3 => ⟨h.inj id' id o' _ g h1 ho h2 hl h3 hg, hl⟩⟩
    rcases (h.hi id _ g ho hl hg).1 with hh | hh
    · exact .inr (.inl hh)
    · exact .inr (.inr hh)
  cases zz with
  | own => exact main rfl
  | app => exact main rfl
  | sh =>
    rcases h.ob id _ ho with ⟨e1, _⟩ | ⟨g', cs, cap, e1, e2, e3, e4, e5, _⟩
    · rw [hg] at e1; cases e1
    · rw [hg] at e1; cases e1
      exact ⟨(e5.2 rfl).2, fun id' o' h1 h2 h3 => absurd ⟨id', o', h1, h2, h3⟩ (e5.2 rfl).1⟩
theorem Rel.inside (h : Rel E ρ σ a w) {id g : Nat} {o : Ob} (ho : σ.O id = some o) (hh : o.held = true) (hg : ρ id = some g) : g < w.heap.size := by
  have := h.ob id o ho
  cases o with
  | var e s f => obtain ⟨g', cs, e1, e2, _⟩ := this; rw [hg] at e1; cases e1; exact (Array.getElem?_eq_some_iff.1 e2).1
  | gone => cases hh
  | map agg sz n key f => obtain ⟨g', es, e1, e2, _⟩ := this; rw [hg] at e1; cases e1; exact (Array.getElem?_eq_some_iff.1 e2).1
  | arr zz e s v n f =>
    rcases this with ⟨e1, _⟩ | ⟨g', cs, cap, e1, e2, _⟩
    · rw [hg] at e1; cases e1
    · rw [hg] at e1; cases e1; exact (Array.getElem?_eq_some_iff.1 e2).1
/-- What is read alone is nobody's. -/
theorem Rel.nobody (h : Rel E ρ σ a w) {id g : Nat} {o : Ob} (ho : σ.O id = some o) (hh : o.held = true) (hl : o.live = false) (hg : ρ id = some g) : ¬ own ρ σ.O g := by
  have := h.ob id o ho
  cases o with
  | var => cases hl
  | map => cases hl
  | gone => cases hh
  | arr zz e s v n f =>
    cases zz with
    | sh =>
      rcases this with ⟨e1, _⟩ | ⟨g', cs, cap, e1, e2, e3, e4, e5, _⟩
      · rw [hg] at e1; cases e1
      · rw [hg] at e1; cases e1
        exact (e5.2 rfl).1
    | _ => cases hl
/-- Some objects change, the others stay as they are. -/
theorem Rel.many (h : Rel E ρ σ a w) (Ch : Nat → Prop) (htm : σ'.tm = σ.tm) (hN : σ'.N = σ.N)
    (hO : ∀ id, ¬ Ch id → σ'.O id = σ.O id) (hρ : ∀ id, ¬ Ch id → ρ' id = ρ id)
    (hw : ∀ g, g < w.heap.size → (∀ id o, Ch id → σ.O id = some o → o.live = true → ρ id ≠ some g) → w'.heap[g]? = w.heap[g]?)
    (hp : ∀ id o' g, Ch id → σ'.O id = some o' → o'.live = true → ρ' id = some g → g < w'.heap.size ∧ ((∃ id1 o, Ch id1 ∧ σ.O id1 = some o ∧ o.live = true ∧ ρ id1 = some g) ∨ w.heap.size ≤ g))
    (hz : ∀ id o g k, Ch id → σ.O id = some o → o.live = true → ρ id = some g → k < o.lo → w'.cell? ⟨g, k, none⟩ = w.cell? ⟨g, k, none⟩ ∧ ∀ id' o', Ch id' → σ'.O id' = some o' → o'.live = true → ρ' id' = some g → k < o'.lo)
    (hinj : ∀ id id' o o' g, Ch id → Ch id' → σ'.O id = some o → σ'.O id' = some o' → o.live = true → o'.live = true → ρ' id = some g → ρ' id' = some g → id = id')
    (hv : ∀ id o, Ch id → σ.O id = some o → ∃ o', σ'.O id = some o' ∧ o.ver ≤ o'.ver ∧ (o'.ver = o.ver → ρ' id = ρ id ∧ o.fits o' ∧
      ∀ g cs e, o.held = true → ρ id = some g → w.heap[g]? = some (.cells cs e (0, 0)) → ∃ cs' : Array Value, w'.heap[g]? = some (.cells cs' e (0, 0)) ∧ cs'.size = cs.size))
    (hrel : Ext ρ σ.O w ρ' σ'.O w' → ∀ id o', Ch id → σ'.O id = some o' → o'.rel E.b ρ' σ'.O w' (ρ' id))
    (hnx : ∀ id, σ'.next ≤ id → σ'.O id = none)
    (hsize : w.heap.size ≤ w'.heap.size) (hos : w'.os = w.os) (htape : w'.tape = w.tape) (hout : w'.output = w.output) :
    Rel E ρ' σ' a w' ∧ Ext ρ σ.O w ρ' σ'.O w' := by
  have ext : Ext ρ σ.O w ρ' σ'.O w' := by
    refine ⟨fun g hg ho => ⟨hw g hg (fun id o _ h1 h2 h3 => ho ⟨id, o, h1, h2, h3⟩), ?_⟩, fun g k hg ho => ?_, fun id o ho => ?_⟩
    · rintro ⟨id, o', h1, h2, h3⟩
      by_cases hc : Ch id
      · rcases (hp id o' g hc h1 h2 h3).2 with ⟨id1, o, _, e1, e2, e3⟩ | e
        · exact ho ⟨id1, o, e1, e2, e3⟩
        · omega
      · exact ho ⟨id, o', by rw [← hO id hc]; exact h1, h2, by rw [← hρ id hc]; exact h3⟩
    · by_cases hco : ∃ id o, Ch id ∧ σ.O id = some o ∧ o.live = true ∧ ρ id = some g
      · obtain ⟨id, o, c1, c2, c3, c4⟩ := hco
        have hk : k < o.lo := Nat.lt_of_not_le fun hle => ho ⟨id, o, c2, c3, c4, hle⟩
        obtain ⟨h1, h2⟩ := hz id o g k c1 c2 c3 c4 hk
        refine ⟨h1, fun ⟨id', o', d1, d2, d3, d4⟩ => ?_⟩
        by_cases hc : Ch id'
        · have := h2 id' o' hc d1 d2 d3; omega
        · exact hc (h.inj id id' o o' g c2 (by rw [← hO id' hc]; exact d1) c3 d2 c4 (by rw [← hρ id' hc]; exact d3) ▸ c1)
      · refine ⟨World.cell?_of_block (hw g hg fun id o c1 c2 c3 c4 => hco ⟨id, o, c1, c2, c3, c4⟩), fun ⟨id', o', d1, d2, d3, d4⟩ => ?_⟩
        by_cases hc : Ch id'
        · rcases (hp id' o' g hc d1 d2 d3).2 with ⟨id1, o, e0, e1, e2, e3⟩ | e
          · exact hco ⟨id1, o, e0, e1, e2, e3⟩
          · omega
        · exact ho ⟨id', o', by rw [← hO id' hc]; exact d1, d2, by rw [← hρ id' hc]; exact d3, d4⟩
    · by_cases hc : Ch id
      · exact hv id o hc ho
      · refine ⟨o, by rw [hO id hc]; exact ho, Nat.le_refl _, fun _ => ⟨hρ id hc, Ob.fits_refl o, fun g cs e hl hg hh => ⟨cs, ?_, rfl⟩⟩⟩
        rw [hw g (Array.getElem?_eq_some_iff.1 hh).1 (fun id1 o1 c1 a1 a2 a3 => ?_)]
        · exact hh
        · cases hl' : o.live with
          | true => exact hc (h.inj id id1 o o1 g ho a1 hl' a2 hg a3 ▸ c1)
          | false => exact h.nobody ho hl hl' hg ⟨id1, o1, a1, a2, a3⟩
  refine ⟨⟨fun t => ?_, by rw [h.N, hN], fun id o ho => ?_, fun id o g ho hl hg => ?_, fun id id' o o' g h1 h2 l1 l2 p1 p2 => ?_, hnx, h.ext.trans h.bs ext, Nat.le_trans h.bs hsize, hos.trans h.os, htape.trans h.tape, hout.trans h.output, h.df, h.gl.ext ext⟩, ext⟩
  · have := h.tm t
    unfold St.get at this ⊢
    rw [htm]
    exact V.rel_ext ext this
  · by_cases hc : Ch id
    · exact hrel ext id o hc ho
    · have ho' : σ.O id = some o := by rw [← hO id hc]; exact ho
      by_cases hl : o.live = true
      · refine Ob.rel_ext ext (hρ id hc) (fun g hg => hw g (h.hi id o g ho' hl hg).2 (fun id1 o1 c1 a1 a2 a3 => ?_)) (h.ob id o ho')
        exact hc (h.inj id id1 o o1 g ho' a1 hl a2 hg a3 ▸ c1)
      · cases hh' : o.held with
        | false => cases o <;> simp_all [Ob.held, Ob.rel]
        | true =>
          refine Ob.rel_ext ext (hρ id hc) (fun g hg => ?_) (h.ob id o ho')
          have hno := h.nobody ho' hh' (by simpa using hl) hg
          have := h.ob id o ho'
          cases o with
          | var => exact absurd rfl hl
          | map => exact absurd rfl hl
          | gone => cases hh'
          | arr zz e s v n f =>
            rcases this with ⟨e1, _⟩ | ⟨g', cs, cap, e1, e2, _⟩
            · rw [hg] at e1; cases e1
            · rw [hg] at e1; cases e1
              exact (ext.keep g (Array.getElem?_eq_some_iff.1 e2).1 hno).1
  · by_cases hc : Ch id
    · obtain ⟨b1, b2⟩ := hp id o g hc ho hl hg
      refine ⟨?_, b1⟩
      rcases b2 with ⟨id1, o1, _, a1, a2, a3⟩ | b2
      · exact (h.hi id1 o1 g a1 a2 a3).1
      · exact .inl (Nat.le_trans h.bs b2)
    · obtain ⟨b1, b2⟩ := h.hi id o g (by rw [← hO id hc]; exact ho) hl (by rw [← hρ id hc]; exact hg)
      exact ⟨b1, by omega⟩
  · by_cases c1 : Ch id
    · by_cases c2 : Ch id'
      · exact hinj id id' o o' g c1 c2 h1 h2 l1 l2 p1 p2
      · have e2 : σ.O id' = some o' := by rw [← hO id' c2]; exact h2
        have q2 : ρ id' = some g := by rw [← hρ id' c2]; exact p2
        rcases (hp id o g c1 h1 l1 p1).2 with ⟨id1, o1, d1, a1, a2, a3⟩ | b
        · exact absurd (h.inj id1 id' o1 o' g a1 e2 a2 l2 a3 q2 ▸ d1) c2
        · have := (h.hi id' o' g e2 l2 q2).2
          omega
    · have e1 : σ.O id = some o := by rw [← hO id c1]; exact h1
      have q1 : ρ id = some g := by rw [← hρ id c1]; exact p1
      by_cases c2 : Ch id'
      · rcases (hp id' o' g c2 h2 l2 p2).2 with ⟨id1, o1, d1, a1, a2, a3⟩ | b
        · exact absurd (h.inj id1 id o1 o g a1 e1 a2 l1 a3 q1 ▸ d1) c1
        · have := (h.hi id o g e1 l1 q1).2
          omega
      · exact h.inj id id' o o' g e1 (by rw [← hO id' c2]; exact h2) l1 l2 q1 (by rw [← hρ id' c2]; exact p2)
end
end Go.Proofs.Ytlglifgnklngfaa
