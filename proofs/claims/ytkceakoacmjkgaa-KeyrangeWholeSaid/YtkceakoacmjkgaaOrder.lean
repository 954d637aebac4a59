/-
  Plain facts on the order of keys, on ranges that are parted, joined, met. No walk here.
-/
import Derived.Test.YtkceakoacmjkgaaWalkC
import Derived.Test.YtkceakoacmjkgaaWalkD
import Derived.Test.YtkceakoacmjkgaaWalkB
import Derived.Test.YtkceakoacmjkgaaPlain
import Derived.Lib.MinMaxS
namespace Go.Proofs.Ytkceakoacmjkgaa
open Go.RowKit

/-- A key's letters. -/
abbrev ky (s : ByteArray) : List UInt8 := s.data.toList

theorem ky_inj {a b : ByteArray} (h : ky a = ky b) : a = b := by
  cases a; cases b
  simp only [ky] at h
  congr 1
  exact Array.toList_inj.1 h
theorem toList_ky (s : ByteArray) : s.toList = ky s := Lib.toList_data s
theorem less_ky (a b : ByteArray) : Op.bytesLess a.toList b.toList = decide (ky a < ky b) := by
  rw [toList_ky, toList_ky, Proofs.bytesLess_eq]
theorem empty_ky (a : ByteArray) : a.toList.isEmpty = decide (ky a = []) := by
  rw [toList_ky]; cases ky a <;> simp
theorem eq_ky (a b : ByteArray) : (a.toList == b.toList) = decide (ky a = ky b) := by
  rw [toList_ky, toList_ky, Bool.eq_iff_iff]; simp

theorem not_lt_self (x : List UInt8) : ¬ x < x := List.lt_irrefl x
theorem lt_lt {x y z : List UInt8} (h : x < y) (h' : y < z) : x < z := List.lt_trans h h'
theorem both_not {x y : List UInt8} (h : ¬ x < y) (h' : ¬ y < x) : x = y := List.le_antisymm h' h
theorem le_lt {x y z : List UInt8} (h : ¬ y < x) (h' : y < z) : x < z := List.lt_of_le_of_lt h h'
theorem lt_le {x y z : List UInt8} (h : x < y) (h' : ¬ z < y) : x < z := Std.lt_of_lt_of_le h h'
theorem le_le {x y z : List UInt8} (h : ¬ y < x) (h' : ¬ z < y) : ¬ z < x := List.le_trans h h'
theorem nil_lt {x : List UInt8} (h : x ≠ []) : [] < x := by
  cases x with
  | nil => exact absurd rfl h
  | cons a l => exact List.nil_lt_cons a l
theorem not_lt_nil (x : List UInt8) : ¬ x < [] := List.not_lt_nil x

theorem inOrder_iff (lo hi : ByteArray) : inOrder lo hi = true ↔ (ky hi = [] ∨ ky lo < ky hi) := by
  unfold inOrder
  rw [less_ky, empty_ky, eq_ky]
  simp only [Bool.or_eq_true, Bool.and_eq_true, Bool.not_eq_true', decide_eq_true_eq, decide_eq_false_iff_not]
  constructor
  · rintro (h | ⟨h, h'⟩)
    · exact .inl h
    · right
      rcases Classical.em (ky lo < ky hi) with g | g
      · exact g
      · exact absurd (both_not h g) h'
  · rintro (h | h)
    · exact .inl h
    · exact .inr ⟨fun g => not_lt_self _ (lt_lt h g), fun g => not_lt_self _ (g ▸ h)⟩

theorem chk_iff (lo hi : ByteArray) : chk lo hi = 0 ↔ lo.size ≤ 32 ∧ hi.size ≤ 32 ∧ (ky hi = [] ∨ ky lo < ky hi) := by
  unfold chk
  by_cases h : lo.size ≤ 32 ∧ hi.size ≤ 32
  · rw [if_pos h]
    by_cases g : inOrder lo hi = true
    · rw [if_pos g]
      exact ⟨fun _ => ⟨h.1, h.2, (inOrder_iff lo hi).1 g⟩, fun _ => rfl⟩
    · rw [if_neg g]
      exact ⟨fun e => absurd e (by decide), fun e => absurd ((inOrder_iff lo hi).2 e.2.2) g⟩
  · rw [if_neg h]
    exact ⟨fun e => absurd e (by decide), fun e => absurd ⟨e.1, e.2.1⟩ h⟩

theorem has_iff (lo hi k : ByteArray) : has lo hi k = true ↔ chk lo hi = 0 ∧ k.size ≤ 32 ∧ ¬ ky k < ky lo ∧ (ky hi = [] ∨ ky k < ky hi) := by
  rw [has_ref, less_ky, less_ky, empty_ky]
  simp only [Bool.or_eq_true, Bool.and_eq_true, Bool.not_eq_true', decide_eq_true_eq, decide_eq_false_iff_not, beq_iff_eq]

theorem split_iff (lo hi k : ByteArray) : splitE lo hi k = 0 ↔ chk lo hi = 0 ∧ k.size ≤ 32 ∧ ky lo < ky k ∧ (ky hi = [] ∨ ky k < ky hi) := by
  constructor
  · intro h
    obtain ⟨a, b, c, d⟩ := splitE_zero h
    rw [less_ky, eq_ky] at c
    simp only [Bool.or_eq_false_iff, decide_eq_false_iff_not] at c
    obtain ⟨_, _, e, f⟩ := (has_iff lo hi k).1 d
    refine ⟨a, by simpa using b, ?_, f⟩
    rcases Classical.em (ky lo < ky k) with g | g
    · exact g
    · exact absurd (both_not c.1 g) c.2
  · rintro ⟨a, b, c, d⟩
    have hh : has lo hi k = true := (has_iff lo hi k).2 ⟨a, b, fun g => not_lt_self _ (lt_lt c g), d⟩
    unfold splitE
    rw [a, less_ky, eq_ky, hh]
    have h1 : ¬ ky k < ky lo := fun g => not_lt_self _ (lt_lt c g)
    have h2 : ¬ ky k = ky lo := fun g => not_lt_self _ (g ▸ c)
    simp [b, h1, h2]

/-- What becomes of a range that is parted: both parts may be, and each of its keys lies within just one. -/
theorem split_parts {lo hi k : ByteArray} (h : splitE lo hi k = 0) : chk lo k = 0 ∧ chk k hi = 0 ∧ ky k ≠ [] := by
  obtain ⟨a, b, c, d⟩ := (split_iff lo hi k).1 h
  obtain ⟨a1, a2, _⟩ := (chk_iff lo hi).1 a
  exact ⟨(chk_iff _ _).2 ⟨a1, b, .inr c⟩, (chk_iff _ _).2 ⟨b, a2, d⟩, fun e => not_lt_nil _ (e ▸ c)⟩
theorem split_keys {lo hi k : ByteArray} (h : splitE lo hi k = 0) (x : ByteArray) : (has lo k x = true ↔ has lo hi x = true ∧ ky x < ky k) ∧ (has k hi x = true ↔ has lo hi x = true ∧ ¬ ky x < ky k) := by
  obtain ⟨p1, p2, p3⟩ := split_parts h
  obtain ⟨a, b, c, d⟩ := (split_iff lo hi k).1 h
  rw [has_iff, has_iff, has_iff]
  refine ⟨⟨?_, ?_⟩, ⟨?_, ?_⟩⟩
  · rintro ⟨_, e1, e2, e3⟩
    have e4 := e3.resolve_left p3
    exact ⟨⟨a, e1, e2, d.imp id fun g => lt_lt e4 g⟩, e4⟩
  · rintro ⟨⟨_, e1, e2, _⟩, e4⟩
    exact ⟨p1, e1, e2, .inr e4⟩
  · rintro ⟨_, e1, e2, e3⟩
    exact ⟨⟨a, e1, fun g => e2 (lt_lt g c), e3⟩, e2⟩
  · rintro ⟨⟨_, e1, _, e3⟩, e4⟩
    exact ⟨p2, e1, e4, e3⟩

/-! ### What two ranges have in common -/
theorem maxS_cases (a c : ByteArray) : (ky a < ky c ∧ Lib.maxS a c = c) ∨ (¬ ky a < ky c ∧ Lib.maxS a c = a) := by
  unfold Lib.maxS
  by_cases h : ky a < ky c
  · exact .inl ⟨h, if_pos h⟩
  · exact .inr ⟨h, if_neg h⟩
theorem not_lt_max (a c k : ByteArray) : ¬ ky k < ky (Lib.maxS a c) ↔ ¬ ky k < ky a ∧ ¬ ky k < ky c := by
  rcases maxS_cases a c with ⟨h, e⟩ | ⟨h, e⟩ <;> rw [e]
  · exact ⟨fun g => ⟨fun u => g (lt_lt u h), g⟩, fun g => g.2⟩
  · exact ⟨fun g => ⟨g, fun u => g (lt_le u h)⟩, fun g => g.1⟩
theorem hi_cases (b d : ByteArray) : ((ky b = [] ∨ (ky d ≠ [] ∧ ky d < ky b)) ∧ meetHi b d = d) ∨ (ky b ≠ [] ∧ (ky d = [] ∨ ¬ ky d < ky b) ∧ meetHi b d = b) := by
  unfold meetHi
  rw [empty_ky, empty_ky, less_ky]
  by_cases h : ky b = []
  · left
    exact ⟨.inl h, by simp [h]⟩
  · by_cases g : ky d = []
    · right
      exact ⟨h, .inl g, by simp [h, g]⟩
    · by_cases l : ky d < ky b
      · left
        exact ⟨.inr ⟨g, l⟩, by simp [g, l]⟩
      · right
        exact ⟨h, .inr l, by simp [h, l]⟩
theorem below_hi (b d k : ByteArray) : (ky (meetHi b d) = [] ∨ ky k < ky (meetHi b d)) ↔ (ky b = [] ∨ ky k < ky b) ∧ (ky d = [] ∨ ky k < ky d) := by
  rcases hi_cases b d with ⟨h, e⟩ | ⟨h, g, e⟩ <;> rw [e]
  · constructor
    · intro u
      refine ⟨h.imp id fun v => ?_, u⟩
      exact lt_lt (u.resolve_left v.1) v.2
    · exact fun u => u.2
  · constructor
    · intro u
      have v := u.resolve_left h
      exact ⟨.inr v, g.imp id fun l => lt_le v l⟩
    · exact fun u => u.1

/-- May two ranges' common part be? -/
def meetOk (a b c d : ByteArray) : Bool := chk a b == 0 && (chk c d == 0 && chk (Lib.maxS a c) (meetHi b d) == 0)
def meetLo (a b c d : ByteArray) : ByteArray := if meetOk a b c d then Lib.maxS a c else ⟨#[]⟩
def meetUp (a b c d : ByteArray) : ByteArray := if meetOk a b c d then meetHi b d else ⟨#[]⟩

theorem maxS_comm (a c : ByteArray) : Lib.maxS a c = Lib.maxS c a := by
  rcases maxS_cases a c with ⟨h, e⟩ | ⟨h, e⟩ <;> rcases maxS_cases c a with ⟨h', e'⟩ | ⟨h', e'⟩ <;> rw [e, e']
  · exact absurd (lt_lt h h') (not_lt_self _)
  · exact ky_inj (both_not h h')
theorem meetHi_comm (b d : ByteArray) : meetHi b d = meetHi d b := by
  rcases hi_cases b d with ⟨h, e⟩ | ⟨h, g, e⟩ <;> rcases hi_cases d b with ⟨h', e'⟩ | ⟨h', g', e'⟩ <;> rw [e, e']
  · rcases h with h | ⟨h, l⟩
    · rcases h' with h' | ⟨h', _⟩
      · exact ky_inj (h'.trans h.symm)
      · exact absurd h h'
    · rcases h' with h' | ⟨_, l'⟩
      · exact absurd h' h
      · exact absurd (lt_lt l l') (not_lt_self _)
  · rcases g with g | g
    · exact absurd g h'
    · rcases g' with g' | g'
      · exact absurd g' h
      · exact ky_inj (both_not g' g)
theorem meetOk_comm (a b c d : ByteArray) : meetOk a b c d = meetOk c d a b := by
  unfold meetOk
  rw [maxS_comm c a, meetHi_comm d b]
  cases chk a b == 0 <;> cases chk c d == 0 <;> rfl
theorem meetLo_comm (a b c d : ByteArray) : meetLo a b c d = meetLo c d a b := by
  unfold meetLo
  rw [meetOk_comm a b c d, maxS_comm a c]
theorem meetUp_comm (a b c d : ByteArray) : meetUp a b c d = meetUp c d a b := by
  unfold meetUp
  rw [meetOk_comm a b c d, meetHi_comm b d]

theorem meet_has (a b c d k : ByteArray) : (meetOk a b c d && has (meetLo a b c d) (meetUp a b c d) k) = (has a b k && has c d k) := by
  rw [Bool.eq_iff_iff, Bool.and_eq_true, Bool.and_eq_true]
  constructor
  · rintro ⟨h, g⟩
    unfold meetLo meetUp at g
    rw [if_pos h, if_pos h, has_iff] at g
    obtain ⟨_, g1, g2, g3⟩ := g
    unfold meetOk at h
    simp only [Bool.and_eq_true, beq_iff_eq] at h
    rw [not_lt_max] at g2
    rw [below_hi] at g3
    exact ⟨(has_iff _ _ _).2 ⟨h.1, g1, g2.1, g3.1⟩, (has_iff _ _ _).2 ⟨h.2.1, g1, g2.2, g3.2⟩⟩
  · rintro ⟨h, g⟩
    obtain ⟨h0, h1, h2, h3⟩ := (has_iff _ _ _).1 h
    obtain ⟨g0, _, g2, g3⟩ := (has_iff _ _ _).1 g
    obtain ⟨x1, x2, _⟩ := (chk_iff _ _).1 h0
    obtain ⟨y1, y2, _⟩ := (chk_iff _ _).1 g0
    have lo := (not_lt_max a c k).2 ⟨h2, g2⟩
    have up := (below_hi b d k).2 ⟨h3, g3⟩
    have hm : chk (Lib.maxS a c) (meetHi b d) = 0 := by
      refine (chk_iff _ _).2 ⟨?_, ?_, up.imp id fun u => le_lt lo u⟩
      · rcases maxS_cases a c with ⟨_, e⟩ | ⟨_, e⟩ <;> rw [e] <;> assumption
      · rcases hi_cases b d with ⟨_, e⟩ | ⟨_, _, e⟩ <;> rw [e] <;> assumption
    have ok : meetOk a b c d = true := by
      unfold meetOk
      rw [h0, g0, hm]
      rfl
    refine ⟨ok, ?_⟩
    unfold meetLo meetUp
    rw [if_pos ok, if_pos ok]
    exact (has_iff _ _ _).2 ⟨hm, h1, lo, up⟩

/-- The parts of a range have nothing in common. -/
theorem split_apart {lo hi k : ByteArray} (h : splitE lo hi k = 0) : meetOk lo k k hi = false := by
  obtain ⟨a, b, c, d⟩ := (split_iff lo hi k).1 h
  obtain ⟨p1, p2, p3⟩ := split_parts h
  cases e : meetOk lo k k hi
  · rfl
  · exfalso
    unfold meetOk at e
    simp only [Bool.and_eq_true, beq_iff_eq] at e
    obtain ⟨_, _, e3⟩ := (chk_iff _ _).1 e.2.2
    have hm : Lib.maxS lo k = k := by
      rcases maxS_cases lo k with ⟨_, u⟩ | ⟨u, _⟩
      · exact u
      · exact absurd c u
    rw [hm, below_hi] at e3
    exact not_lt_self _ (e3.1.resolve_left p3)
end Go.Proofs.Ytkceakoacmjkgaa
