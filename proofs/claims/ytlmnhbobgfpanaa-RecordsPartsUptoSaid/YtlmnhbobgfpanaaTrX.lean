/-
  Arguments by their types: what came in, as trees.
-/
import Derived.Test.YtlmnhbobgfpanaaTrW
import Derived.OpenShut
import Derived.ChangeArms
import Derived.SizedLaws
namespace Go.Proofs.Ytlmnhbobgfpanaa
open Go.RowKit

inductive Ty where
  | bool | str | txt
  | int (k : IntKind)
  | sl (bytes : Nat) (e : Ty)
  | unit
  | pair (a b : Ty)
  | st (f : Ty)

def Ty.size : Ty → Nat
  | .unit => 0
  | .pair a b => a.size + b.size
  | .st f => f.size
  | _ => 1

def Ty.chk (P : Program) : Ty → TypeId ⊕ (List Field × Nat) → Bool
  | .bool, .inl t => (match P.underlying t with
    | some .bool => true
    | _ => false)
  | .str, .inl t => (match P.underlying t with
    | some .string => true
    | _ => false)
  | .int k, .inl t => (match P.underlying t with
    | some (.int k') => decide (k' = k)
    | _ => false)
  | .sl b e, .inl t => (match P.underlying t with
    | some (.slice u) => P.bytesOf u == b && (P.cellsOf u == e.size && e.chk P (.inl u))
    | _ => false)
  | .st f, .inl t => (match P.underlying t with
    | some (.struct fs) => P.cellsOf t == f.size && f.chk P (.inr (fs.toList, 0))
    | _ => false)
  | .unit, .inr (l, _) => l.isEmpty
  | .pair a b, .inr (x :: l, off) => x.offset == off && (P.cellsOf x.type == a.size && (a.chk P (.inl x.type) && b.chk P (.inr (l, off + a.size))))
  | _, _ => false

def slT (size n : Nat) (f : Nat → List T) : T := .sl .any size n (if size = 1 then fun i _ => (f i).getD 0 (.val undef) else fun i j => (f i).getD j (.val undef))

def memTop : Nat := 140737488351232

def Ty.has : Ty → List T → Prop
  | .bool, ts => ∃ b, ts = [.val (.bool b)]
  | .str, ts => ∃ s : ByteArray, ts = [.val (.string s)] ∧ s.size ≤ memTop
  | .txt, ts => ∃ s : ByteArray, ts = [.val (.string s)] ∧ s.size ≤ 1048576
  | .int k, ts => ∃ z, ts = [.val (.int k z)] ∧ k.min ≤ z ∧ z ≤ k.max
  | .sl b e, ts => ∃ n f, ts = [slT e.size n f] ∧ n * b ≤ memTop ∧ n ≤ 9223372036854775807 ∧ ∀ i, e.has (f i)
  | .unit, ts => ts = []
  | .pair a b, ts => ∃ x y, ts = x ++ y ∧ a.has x ∧ b.has y
  | .st f, ts => f.has ts

theorem Ty.has_len : ∀ {ty : Ty} {ts : List T}, ty.has ts → ts.length = ty.size
  | .bool, _, ⟨_, e⟩ => by subst e; rfl
  | .str, _, ⟨_, e, _⟩ => by subst e; rfl
  | .txt, _, ⟨_, e, _⟩ => by subst e; rfl
  | .int _, _, ⟨_, e, _⟩ => by subst e; rfl
  | .sl _ _, _, ⟨_, _, e, _⟩ => by subst e; rfl
  | .unit, _, e => by cases e; rfl
  | .pair a b, _, ⟨x, y, e, h1, h2⟩ => by subst e; simp [Ty.size, Ty.has_len h1, Ty.has_len h2]
  | .st f, _, h => Ty.has_len (ty := f) h

theorem Ty.has_some : ∀ ty : Ty, ∃ ts, ty.has ts
  | .bool => ⟨_, false, rfl⟩
  | .str => ⟨_, ByteArray.empty, rfl, Nat.zero_le _⟩
  | .txt => ⟨_, ByteArray.empty, rfl, Nat.zero_le _⟩
  | .int k => ⟨_, 0, rfl, by cases k <;> decide, by cases k <;> decide⟩
  | .sl b e => let ⟨ts, h⟩ := Ty.has_some e; ⟨_, 0, fun _ => ts, rfl, by simp, by omega, fun _ => h⟩
  | .unit => ⟨[], rfl⟩
  | .pair a b => let ⟨x, h⟩ := Ty.has_some a; let ⟨y, g⟩ := Ty.has_some b; ⟨x ++ y, x, y, rfl, h, g⟩
  | .st f => let ⟨x, h⟩ := Ty.has_some f; ⟨x, h⟩

def Ty.allF : Ty → (ι : Type) → ((ι → List T) → Prop) → Prop
  | .bool, ι, K => ∀ b : ι → Bool, K fun i => [.val (.bool (b i))]
  | .str, ι, K => ∀ s : ι → ByteArray, (∀ i, (s i).size ≤ memTop) → K fun i => [.val (.string (s i))]
  | .txt, ι, K => ∀ s : ι → ByteArray, (∀ i, (s i).size ≤ 1048576) → K fun i => [.val (.string (s i))]
  | .int k, ι, K => ∀ z : ι → Int, (∀ i, k.min ≤ z i ∧ z i ≤ k.max) → K fun i => [.val (.int k (z i))]
  | .sl b e, ι, K => ∀ n : ι → Nat, (∀ i, n i * b ≤ memTop ∧ n i ≤ 9223372036854775807) → e.allF (ι × Nat) fun f => K fun i => [slT e.size (n i) fun a => f (i, a)]
  | .unit, _, K => K fun _ => []
  | .pair a b, ι, K => a.allF ι fun x => b.allF ι fun y => K fun i => x i ++ y i
  | .st f, ι, K => f.allF ι K

def Ty.all : Ty → (List T → Prop) → Prop
  | .bool, K => ∀ b : Bool, K [.val (.bool b)]
  | .str, K => ∀ s : ByteArray, s.size ≤ memTop → K [.val (.string s)]
  | .txt, K => ∀ s : ByteArray, s.size ≤ 1048576 → K [.val (.string s)]
  | .int k, K => ∀ z : Int, k.min ≤ z → z ≤ k.max → K [.val (.int k z)]
  | .sl b e, K => ∀ n : Nat, n * b ≤ memTop → n ≤ 9223372036854775807 → e.allF Nat fun f => K [slT e.size n f]
  | .unit, K => K []
  | .pair a b, K => a.all fun x => b.all fun y => K (x ++ y)
  | .st f, K => f.all K

theorem Ty.allF_of : ∀ {ty : Ty} {ι : Type} {K : (ι → List T) → Prop} {F : ι → List T}, ty.allF ι K → (∀ i, ty.has (F i)) → K F
  | .bool, _, K, F, h, hF => by
    have e : F = fun i => [.val (.bool (Classical.choose (hF i)))] := funext fun i => Classical.choose_spec (hF i)
    rw [e]; exact h _
  | .str, _, K, F, h, hF => by
    have e : F = fun i => [.val (.string (Classical.choose (hF i)))] := funext fun i => (Classical.choose_spec (hF i)).1
    rw [e]; exact h _ fun i => (Classical.choose_spec (hF i)).2
  | .txt, _, K, F, h, hF => by
    have e : F = fun i => [.val (.string (Classical.choose (hF i)))] := funext fun i => (Classical.choose_spec (hF i)).1
    rw [e]; exact h _ fun i => (Classical.choose_spec (hF i)).2
  | .int k, _, K, F, h, hF => by
    have e : F = fun i => [.val (.int k (Classical.choose (hF i)))] := funext fun i => (Classical.choose_spec (hF i)).1
    rw [e]; exact h _ fun i => (Classical.choose_spec (hF i)).2
  | .sl b e, ι, K, F, h, hF => by
    let n : ι → Nat := fun i => Classical.choose (hF i)
    have h1 : ∀ i, ∃ f, F i = [slT e.size (n i) f] ∧ n i * b ≤ memTop ∧ n i ≤ 9223372036854775807 ∧ ∀ a, e.has (f a) := fun i => Classical.choose_spec (hF i)
    let f : ι × Nat → List T := fun p => Classical.choose (h1 p.1) p.2
    have h2 : ∀ i, F i = [slT e.size (n i) fun a => f (i, a)] ∧ n i * b ≤ memTop ∧ n i ≤ 9223372036854775807 ∧ ∀ a, e.has (f (i, a)) := fun i => Classical.choose_spec (h1 i)
    have eF : F = fun i => [slT e.size (n i) fun a => f (i, a)] := funext fun i => (h2 i).1
    rw [eF]
    exact Ty.allF_of (ty := e) (K := fun f => K fun i => [slT e.size (n i) fun a => f (i, a)]) (h n fun i => ⟨(h2 i).2.1, (h2 i).2.2.1⟩) fun p => (h2 p.1).2.2.2 p.2
  | .unit, _, K, F, h, hF => by
    have e : F = fun _ => [] := funext fun i => hF i
    rw [e]; exact h
  | .pair a b, ι, K, F, h, hF => by
    let x : ι → List T := fun i => Classical.choose (hF i)
    have h1 : ∀ i, ∃ y, F i = x i ++ y ∧ a.has (x i) ∧ b.has y := fun i => Classical.choose_spec (hF i)
    let y : ι → List T := fun i => Classical.choose (h1 i)
    have h2 : ∀ i, F i = x i ++ y i ∧ a.has (x i) ∧ b.has (y i) := fun i => Classical.choose_spec (h1 i)
    have e : F = fun i => x i ++ y i := funext fun i => (h2 i).1
    rw [e]
    exact Ty.allF_of (ty := b) (K := fun y => K fun i => x i ++ y i) (Ty.allF_of (ty := a) (K := fun x => b.allF ι fun y => K fun i => x i ++ y i) h fun i => (h2 i).2.1) fun i => (h2 i).2.2
  | .st f, _, K, F, h, hF => Ty.allF_of (ty := f) h hF

theorem Ty.all_of : ∀ {ty : Ty} {K : List T → Prop} {ts : List T}, ty.all K → ty.has ts → K ts
  | .bool, K, _, h, ⟨b, e⟩ => by subst e; exact h b
  | .str, K, _, h, ⟨s, e, hs⟩ => by subst e; exact h s hs
  | .txt, K, _, h, ⟨s, e, hs⟩ => by subst e; exact h s hs
  | .int k, K, _, h, ⟨z, e, h1, h2⟩ => by subst e; exact h z h1 h2
  | .sl b e, K, _, h, ⟨n, f, e', h1, h2, h3⟩ => by subst e'; exact Ty.allF_of (ty := e) (K := fun f => K [slT e.size n f]) (h n h1 h2) h3
  | .unit, K, _, h, e => by cases e; exact h
  | .pair a b, K, _, h, ⟨x, y, e, h1, h2⟩ => by subst e; exact Ty.all_of (ty := b) (K := fun y => K (x ++ y)) (Ty.all_of (ty := a) (K := fun x => b.all fun y => K (x ++ y)) h h1) h2
  | .st f, K, _, h, hf => Ty.all_of (ty := f) h hf

section
variable {H : Type} {enc : TypeId × Value → H} {P : Program} {W : World} {base : Nat} {sp : Nat → Bool} {held : Bool}

def Cells (ok : Sees) (W : World) (ts : List T) (cs : List Value) : Prop := cs.length = ts.length ∧ ∀ j, j < ts.length → (cs.getD j undef).oneCell' = true ∧ (ts.getD j (.val undef)).rel ok W (cs.getD j undef)

theorem Cells.one {ok : Sees} {t : T} {c : Value} (h1 : c.oneCell' = true) (h : t.rel ok W c) : Cells ok W [t] [c] :=
  ⟨rfl, fun j hj => by obtain rfl : j = 0 := by simp at hj; omega
                       exact ⟨h1, h⟩⟩

theorem Cells.append {ok : Sees} {x y : List T} {a b : List Value} (h : Cells ok W x a) (g : Cells ok W y b) : Cells ok W (x ++ y) (a ++ b) := by
  refine ⟨by simp [h.1, g.1], fun j hj => ?_⟩
  by_cases hx : j < x.length
  · have := h.2 j hx
    simpa only [List.getD_eq_getElem?_getD, List.getElem?_append_left hx, List.getElem?_append_left (h.1 ▸ hx)] using this
  · have hj' : j - x.length < y.length := by simp at hj; omega
    have := g.2 (j - x.length) hj'
    have ha : a.length ≤ j := by have := h.1; omega
    simpa only [List.getD_eq_getElem?_getD, List.getElem?_append_right (by omega : x.length ≤ j), List.getElem?_append_right ha, h.1] using this

def FieldsAt (enc : TypeId × Value → H) (P : Program) (W : World) (base : Nat) (sp : Nat → Bool) (held : Bool) (m : Nat) (cs : List Value) : List Field → List (DataW H × List MemPlace) → Prop
  | [], [] => True
  | f :: l, x :: r => DataW.trod enc P W base sp held m f.type ((cs.drop f.offset).take (P.cellsOf f.type)) = some x ∧ FieldsAt enc P W base sp held m cs l r
  | _, _ => False

theorem fieldsAt_of {m : Nat} {cs : List Value} : ∀ {l : List Field} {r : List (DataW H × List MemPlace)}, r.length = l.length →
    (∀ (i : Nat) (f : Field), l[i]? = some f → DataW.trod enc P W base sp held m f.type ((cs.drop f.offset).take (P.cellsOf f.type)) = r[i]?) → FieldsAt enc P W base sp held m cs l r
  | [], [], _, _ => trivial
  | [], _ :: _, h, _ => by simp at h
  | _ :: _, [], h, _ => by simp at h
  | f :: l, x :: r, h, hf => ⟨by simpa using hf 0 f rfl, fieldsAt_of (by simpa using h) fun i g hg => by simpa using hf (i + 1) g (by simpa using hg)⟩

end
end Go.Proofs.Ytlmnhbobgfpanaa
