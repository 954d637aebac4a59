/-
  Entries, by the list of those that they call. General; nothing of this program.
-/
import Derived.Test.YtcioafdngcmkiaaDaK
namespace Go.Proofs.Ytcioafdngcmkiaa
open Go.RowKit

def Hint.ents : Hint → List Ent
  | .ent e => [e]
  | _ => []
def DC.ents : DC → List Ent
  | .region rs _ _ => rs.flatMap fun q => q.2.ents
  | .seq x y => x.ents ++ y.ents
  | .join _ x y => x.ents ++ y.ents
  | .cond _ x y => x.ents ++ y.ents
  | .block _ x => x.ents
  | .loop _ x => x.ents
  | _ => []
def AllGood (P : Program) : List Ent → Prop
  | [] => True
  | e :: l => e.Good P ∧ AllGood P l
theorem AllGood.mem {P : Program} : ∀ {l : List Ent}, AllGood P l → ∀ e ∈ l, e.Good P
  | [], _, e, h => by cases h
  | x :: l, ⟨h1, h2⟩, e, h => by
    rcases List.mem_cons.1 h with rfl | h
    · exact h1
    · exact AllGood.mem h2 e h
theorem DC.good_of {P : Program} : ∀ {c : DC}, (∀ e ∈ c.ents, e.Good P) → c.Good P := by
  intro c
  induction c with
  | region rs deps draw =>
    intro h q hq
    have := fun e he => h e (List.mem_flatMap.2 ⟨q, hq, he⟩)
    obtain ⟨r, hh⟩ := q
    cases hh with
    | ent e => exact this e (List.mem_singleton.2 rfl)
    | _ => trivial
  | seq x y ih1 ih2 => intro h; exact ⟨ih1 fun e he => h e (List.mem_append_left _ he), ih2 fun e he => h e (List.mem_append_right _ he)⟩
  | join a x y ih1 ih2 => intro h; exact ⟨ih1 fun e he => h e (List.mem_append_left _ he), ih2 fun e he => h e (List.mem_append_right _ he)⟩
  | cond c x y ih1 ih2 => intro h; exact ⟨ih1 fun e he => h e (List.mem_append_left _ he), ih2 fun e he => h e (List.mem_append_right _ he)⟩
  | block id x ih => intro h; exact ih h
  | loop a x ih => intro h; exact ih h
  | _ => intro _; trivial
theorem good_by {P : Program} (hm : P.follows .mixedOrders = true) {fu : Nat} {en : Ent} {c : DC} {rs : List RVx} {N : Nat} {l : List Ent} (hb : BodyD P en.f N c.erase rs) (he : c.ents = l) (hl : AllGood P l)
    (hw : en.wfD N = true) (hv : evF fu c rs N en.ash en.osh en.vsh = en.p) : en.Good P :=
  good_of hm hb (DC.good_of (by rw [he]; exact hl.mem)) hw hv
end Go.Proofs.Ytcioafdngcmkiaa
