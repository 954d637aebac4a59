/-
  Entries, by the list of those that they call. General; nothing of this program.
-/
import Derived.Test.YtahamggipcikgaaDoorDaK
namespace Go.Proofs.YtahamggipcikgaaDoor
open Go.RowKit

def sub' {α : Type} (l : List α) (off len : Nat) : List α :=
  match off with
  | 0 => l.take len
  | off + 1 => (l.drop (off + 1)).take len
theorem sub'_eq {α : Type} (l : List α) (off len : Nat) : sub' l off len = (l.drop off).take len := by
  cases off <;> simp [sub']

def Hint.ents : Hint → List Ent
  | .ent e => [e]
  | .either a b => a.ents ++ b.ents
  | _ => []
def DC.ents : DC → List Ent
  | .region rs _ _ => rs.flatMap fun q => q.2.ents
  | .seq x y => x.ents ++ y.ents
  | .join _ x y => x.ents ++ y.ents
  | .cond _ x y => x.ents ++ y.ents
  | .block _ x => x.ents
  | .loop _ x => x.ents
  | _ => []
def AllGood (P : Program) : List Ent → Prop
  | [] => True
  | e :: l => e.Good P ∧ AllGood P l
theorem AllGood.mem {P : Program} : ∀ {l : List Ent}, AllGood P l → ∀ e ∈ l, e.Good P
  | [], _, e, h => by cases h
  | x :: l, ⟨h1, h2⟩, e, h => by
    rcases List.mem_cons.1 h with rfl | h
    · exact h1
    · exact AllGood.mem h2 e h
theorem Hint.good_of {P : Program} : ∀ {h : Hint}, (∀ e ∈ h.ents, e.Good P) → h.Good P := by
  intro h
  induction h with
  | ent e => intro h; exact h e (List.mem_singleton.2 rfl)
  | either a b ih1 ih2 => intro h; exact ⟨ih1 fun e he => h e (List.mem_append_left _ he), ih2 fun e he => h e (List.mem_append_right _ he)⟩
  | _ => intro _; trivial
theorem DC.good_of {P : Program} : ∀ {c : DC}, (∀ e ∈ c.ents, e.Good P) → c.Good P := by
  intro c
  induction c with
  | region rs deps draw =>
    intro h q hq
    have := fun e he => h e (List.mem_flatMap.2 ⟨q, hq, he⟩)
    exact Hint.good_of this
  | seq x y ih1 ih2 => intro h; exact ⟨ih1 fun e he => h e (List.mem_append_left _ he), ih2 fun e he => h e (List.mem_append_right _ he)⟩
  | join a x y ih1 ih2 => intro h; exact ⟨ih1 fun e he => h e (List.mem_append_left _ he), ih2 fun e he => h e (List.mem_append_right _ he)⟩
  | cond c x y ih1 ih2 => intro h; exact ⟨ih1 fun e he => h e (List.mem_append_left _ he), ih2 fun e he => h e (List.mem_append_right _ he)⟩
  | block id x ih => intro h; exact ih h
  | loop a x ih => intro h; exact ih h
  | _ => intro _; trivial
theorem good_by {P : Program} (hm : P.follows .mixedOrders = true) {fu : Nat} {en : Ent} {c : DC} {rs : List RVx} {N : Nat} {l : List Ent} (hb : BodyD P en.f N c.erase rs) (he : c.ents = l) (hl : AllGood P l)
    (hw : en.wfD N = true) (hv : evF fu c rs N en.ash en.osh en.vsh = en.p) : en.Good P :=
  good_of hm hb (DC.good_of (by rw [he]; exact hl.mem)) hw hv
theorem good_fn {P : Program} (hm : P.follows .mixedOrders = true) {en : Ent} {fn : Func} (h1 : P.funcs[en.f]? = some fn) (fu : Nat) (c : DC) (rs : List RVx) (N : Nat) {l : List Ent} (hl : AllGood P l)
    (h2 : (fn.name == "runtime.NumGoroutine") = false := by kernel_rfl) (h3 : fn.ntmps = N := by kernel_rfl) (h4 : (fn.body.bind fun code => compC P false N code) = some c.erase := by kernel_rfl) (h5 : compRes P fn.results.toList = some rs := by kernel_rfl)
    (he : c.ents = l := by kernel_rfl) (hw : en.wfD N = true := by kernel_rfl) (hv : evF fu c rs N en.ash en.osh en.vsh = en.p := by kernel_rfl) : en.Good P :=
  good_by hm (bodyD_mk h1 h2 h3 h4 h5) he hl hw hv
/-! Short words for code. -/
abbrev mvD (d s : Nat) : RO × Hint := (⟨some d, none, .mov (.tmp s)⟩, .none)
abbrev opD (d : Nat) (o : AOp) : RO × Hint := (⟨some d, none, o⟩, .none)
abbrev onD (o : AOp) : RO × Hint := (⟨none, none, o⟩, .none)
abbrev oqD (d : Nat) (o : AOp) (h : Hint) : RO × Hint := (⟨some d, none, o⟩, h)
abbrev ogD (d t : Nat) (b : Bool) (o : AOp) : RO × Hint := (⟨some d, some (t, b), o⟩, .none)
abbrev tD (n : Nat) : Operand := .tmp n
abbrev cD (n : Int) : Operand := .const (.int .i64 n)
abbrev vS : Value := .slice none 0 0
abbrev vI : Value := .int .i64 0
abbrev vU : Value := .int .u64 0
abbrev vB : Value := .bool false
end Go.Proofs.YtahamggipcikgaaDoor
