/-
  Layer 6: where an entry stands in a log whose indices are one behind the other.
-/
import Derived.Test.YtdblllnnccaccaaLoA
namespace Go.Proofs.Ytdblllnnccaccaa
open Go.RowKit
variable {fu : Nat}
/-- Indices are one behind the other. -/
def contig (b : Int) (l : List En) : Prop := ∀ j, j < l.length → (l.getD j (dflt T_api_Entry)).1 = b + 1 + (j : Int)
/-- The place of the first entry whose index is not below this one. -/
def placeI (b : Int) (l : List En) (i : Int) : Nat := min (i - b - 1).toNat l.length
theorem mid_is {lo hi : Nat} (h : lo + hi ≤ 9223372036854775807) : IntKind.wrap .i64 (Int.fdiv (IntKind.wrap .u64 (IntKind.wrap .i64 ((lo : Int) + (hi : Int)))) (2 ^ (min (Int.toNat (1 : Int)) (IntKind.bits .u64)))) = (((lo + hi) / 2 : Nat) : Int) := by
  have e1 : IntKind.wrap .i64 ((lo : Int) + (hi : Int)) = ((lo + hi : Nat) : Int) := by rw [i64_wrap (by omega) (by omega)]; omega
  have e2 : IntKind.wrap .u64 ((lo + hi : Nat) : Int) = ((lo + hi : Nat) : Int) := wrap_u64 (by omega) (by omega)
  have e3 : (2 : Int) ^ (min (Int.toNat (1 : Int)) (IntKind.bits .u64)) = 2 := rfl
  have e4 : Int.fdiv ((lo + hi : Nat) : Int) 2 = (((lo + hi) / 2 : Nat) : Int) := by
    rw [Int.fdiv_eq_ediv_of_nonneg _ (by omega)]; omega
  rw [e1, e2, e3, e4, i64_wrap (by omega) (by omega)]
theorem p48_is (a0 a1 : Int) (a2 a3 a4 : List Int) (l : List En) (b i : Int) (hc : contig b l) (hl : l.length ≤ 4611686018427387903) (hf : l.length < fu) :
    p48 fu ((l.length : Int), ((), ((a0, a1, a2, a3, a4, l, ()), (i, ()), ())), ()) = some (((a0, a1, a2, a3, a4, l, ()), (i, ()), ()), ((placeI b l i : Nat) : Int)) := by
  unfold p48
  refine loopO_eq (I := fun s => ∃ lo hi : Nat, s = (((lo : Int), (hi : Int), ()), ((a0, a1, a2, a3, a4, l, ()), (i, ()), ())) ∧ lo ≤ placeI b l i ∧ placeI b l i ≤ hi ∧ hi ≤ l.length)
    (m := fun s => (s.1.2.1 - s.1.1).toNat) (g := fun _ => (((a0, a1, a2, a3, a4, l, ()), (i, ()), ()), ((placeI b l i : Nat) : Int))) ?_ fu _ ⟨0, l.length, rfl, Nat.zero_le _, Nat.min_le_right _ _, Nat.le_refl _⟩ (by simpa using hf)
  rintro s ⟨lo, hi, rfl, h1, h2, h3⟩
  by_cases hlt : lo < hi
  · left
    have hm : (lo + hi) / 2 < l.length := by omega
    have hx := hc _ hm
    have hb : ((lo : Int) < (hi : Int)) := by omega
    simp only [hb, decide_true, cond_true, mid_is (show lo + hi ≤ 9223372036854775807 by omega), p49, Int.natCast_nonneg, Int.ofNat_lt, hm, true_and, and_self, Int.toNat_natCast, hx, bind_val]
    by_cases hge : b + 1 + (((lo + hi) / 2 : Nat) : Int) ≥ i
    · refine ⟨(((lo : Int), (((lo + hi) / 2 : Nat) : Int), ()), ((a0, a1, a2, a3, a4, l, ()), (i, ()), ())), by simp only [hge, decide_true, Bool.not_true, cond_false], ⟨lo, _, rfl, h1, ?_, by omega⟩, by simp only; omega, trivial⟩
      unfold placeI
      omega
    · refine ⟨((((((lo + hi) / 2 + 1 : Nat)) : Int), (hi : Int), ()), ((a0, a1, a2, a3, a4, l, ()), (i, ()), ())), by simp only [hge, decide_false, Bool.not_false, cond_true, i64_succ hm (show l.length ≤ 9223372036854775807 by omega)], ⟨_, hi, rfl, ?_, h2, h3⟩, by simp only; omega, trivial⟩
      unfold placeI at h2 ⊢
      omega
  · right
    have hb : ¬ ((lo : Int) < (hi : Int)) := by omega
    have : placeI b l i = lo := by omega
    simp only [hb, decide_false, cond_false, inrO_val, this]
theorem p29_is (a0 a1 : Int) (a2 a3 a4 : List Int) (l : List En) (b i : Int) (hc : contig b l) (hl : l.length ≤ 4611686018427387903) (hf : l.length < fu) :
    p29 fu ((a0, a1, a2, a3, a4, l, ()), i, ()) = some ((), ((placeI b l i : Nat) : Int)) := by
  simp only [p29, p48_is a0 a1 a2 a3 a4 l b i hc hl hf, bind_val]
theorem p22_is (a0 a1 : Int) (a2 a3 a4 : List Int) (l : List En) (hl : l.length ≤ 4611686018427387903) :
    p22 fu ((a0, a1, a2, a3, a4, l, ()), ()) = some ((), (if l = [] then (a0, a1, ()) else ((l.getD (l.length - 1) (dflt T_api_Entry)).1, (l.getD (l.length - 1) (dflt T_api_Entry)).2.1, ()))) := by
  unfold p22
  by_cases h : l = []
  · subst h; rfl
  · have h0 : 0 < l.length := List.length_pos_iff.2 h
    have hw : IntKind.wrap .i64 ((l.length : Int) - 1) = ((l.length - 1 : Nat) : Int) := i64_pred h0 (by omega)
    have h1 : (l.length : Int) > 0 := by omega
    have h2 : l.length - 1 < l.length := by omega
    simp only [h1, decide_true, cond_true, hw, Int.natCast_nonneg, Int.ofNat_lt, h2, true_and, and_self, Int.toNat_natCast, h, if_false]
end Go.Proofs.Ytdblllnnccaccaa
