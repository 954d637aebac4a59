/-
  Loops of typed functions. General; nothing of this program.
-/
import Derived.Test.YtahamggipcikgaaDoorDaM
namespace Go.Proofs.YtahamggipcikgaaDoor
open Go.RowKit
@[reducible] def LStep {S R:Type} (I:S→Prop) (m:S→Nat) (Q:R→Prop) (s:S):S ⊕ R→Prop
  | .inl s' => I s' ∧ m s' < m s
  | .inr r=>Q r
theorem loopO_rule {S R:Type} {f:S→Option (S ⊕ R)} (I:S→Prop) (m:S→Nat) (Q:R→Prop) (h:∀ s,I s → ∃ o,f s=some o∧LStep I m Q s o):∀ n s,I s→m s<n → ∃ r,loopO n f s=some r∧Q r
 | 0,s,_,hm=>absurd hm (Nat.not_lt_zero _)
 | n+1,s,hI,hm=>by
  obtain ⟨o,h1,h2⟩ := h s hI
  simp only [loopO,h1]
  cases o with
  | inl s' => exact loopO_rule I m Q h n s' h2.1 (by have := h2.2; omega)
  | inr r=>exact ⟨r,rfl,h2⟩
theorem loopO_eq {S R:Type} {f:S→Option (S ⊕ R)} (I:S→Prop) (m:S→Nat) (g:S→R) (h:∀ s,I s→(∃ s',f s=some (.inl s')∧I s' ∧ m s' < m s∧g s' = g s) ∨ f s=some (.inr (g s))) :
  ∀ n s,I s→m s<n→loopO n f s=some (g s)
 | 0,s,_,hm=>absurd hm (Nat.not_lt_zero _)
 | n+1,s,hI,hm=>by
  simp only [loopO]
  rcases h s hI with ⟨s',h1,h2,h3,h4⟩ | h1
  ·rw [h1,← h4]
   exact loopO_eq I m g h n s' h2 (by omega)
  ·rw [h1]
theorem orK_inl {E R:Type} {e:E} {k:E→Option R}:orK (some (.inl e)) k=k e := rfl
theorem orK_inr {E R:Type} {r:R} {k:E→Option R}:orK (some (.inr r)) k=some r := rfl
end Go.Proofs.YtahamggipcikgaaDoor
