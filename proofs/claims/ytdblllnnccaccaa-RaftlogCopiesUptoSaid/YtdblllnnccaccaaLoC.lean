/-
  Layer 6: an entry's term; a slice of a log.
-/
import Derived.Test.YtdblllnnccaccaaLoB
namespace Go.Proofs.Ytdblllnnccaccaa
open Go.RowKit
variable {fu : Nat}
/-- The term of an entry, and whether there is one. -/
def termI (b t : Int) (l : List En) (i : Int) : Int × Bool :=
  if i = b then (t, true) else if placeI b l i < l.length ∧ (l.getD (placeI b l i) (dflt T_api_Entry)).1 = i then ((l.getD (placeI b l i) (dflt T_api_Entry)).2.1, true) else (0, false)
theorem p21_is (b t : Int) (a2 a3 a4 : List Int) (l : List En) (i : Int) (hc : contig b l) (hl : l.length ≤ 4611686018427387903) (hf : l.length < fu) :
    p21 fu ((b, t, a2, a3, a4, l, ()), i, ()) = some ((), ((termI b t l i).1, (termI b t l i).2, ())) := by
  unfold p21 termI
  by_cases h0 : i = b
  · subst h0
    simp only [beq_self_eq_true, cond_true, if_true]
  · have h0' : (i == b) = false := by simpa using h0
    simp only [h0', cond_false, h0, if_false, p29_is b t a2 a3 a4 l b i hc hl hf, bind_val]
    by_cases hk : placeI b l i < l.length
    · simp only [Int.ofNat_lt, hk, decide_true, cond_true, Int.natCast_nonneg, true_and, and_self, Int.toNat_natCast, orK_inl]
      by_cases he : (l.getD (placeI b l i) (dflt T_api_Entry)).1 = i
      · simp only [he, beq_self_eq_true, cond_true, if_true]
      · have he' : ((l.getD (placeI b l i) (dflt T_api_Entry)).1 == i) = false := by simpa using he
        simp only [he', cond_false, he, if_false]
    · simp only [Int.ofNat_lt, hk, decide_false, cond_false, orK_inl, false_and, if_false]
end Go.Proofs.Ytdblllnnccaccaa
