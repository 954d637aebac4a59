/-
  Loops of typed functions. General; nothing of this program.
-/
import Derived.Test.YtlmnhbobgfpanaaDaM
namespace Go.Proofs.Ytlmnhbobgfpanaa
open Go.RowKit

theorem loopO_eq {S R : Type} {f : S → Option (S ⊕ R)} (I : S → Prop) (m : S → Nat) (g : S → R) (h : ∀ s, I s → (∃ s', f s = some (.inl s') ∧ I s' ∧ m s' < m s ∧ g s' = g s) ∨ f s = some (.inr (g s))) :
    ∀ n s, I s → m s < n → loopO n f s = some (g s)
  | 0, s, _, hm => absurd hm (Nat.not_lt_zero _)
  | n + 1, s, hI, hm => by
    simp only [loopO]
    rcases h s hI with ⟨s', h1, h2, h3, h4⟩ | h1
    · rw [h1, ← h4]
      exact loopO_eq I m g h n s' h2 (by omega)
    · rw [h1]
theorem i64_wrap {x : Int} (h1 : -9223372036854775808 ≤ x) (h2 : x ≤ 9223372036854775807) : IntKind.wrap .i64 x = x := by
  rw [wrap_i64 h1 h2]
theorem i64_succ {i n : Nat} (h : i < n) (hn : n ≤ 9223372036854775807) : IntKind.wrap .i64 ((i : Int) + 1) = ((i + 1 : Nat) : Int) := by
  rw [i64_wrap (by omega) (by omega)]; omega
theorem getD_lt {α : Type} {l : List α} {i : Nat} {d : α} (h : i < l.length) : l.getD i d = l[i] := by
  rw [List.getD_eq_getElem?_getD, List.getElem?_eq_getElem h]; rfl
theorem orK_inl {E R : Type} {e : E} {k : E → Option R} : orK (some (.inl e)) k = k e := rfl
theorem inrO_val {E R : Type} {r : R} : inrO (E := E) (some r) = some (.inr r) := rfl
theorem bind_val {α β : Type} {a : α} {k : α → Option β} : Option.bind (some a) k = k a := rfl
end Go.Proofs.Ytlmnhbobgfpanaa
